import PyProof.Rows.All
import Wide.All
import OpenK.AllK
import Wide.FinOn
import Lean
import PyProof.EqAt
import PyProof.EqKinds
import PyProof.TupleCall
import PyProof.ListRange
import PyProof.TupleOfSeq
import PyProof.ConsumeWalk
import PyProof.WalksMore
import PyProof.Draws
import PyProof.EnumMake
import PyProof.ZipIter
import PyProof.Rows.EnumRows
import PyProof.Rows.FactsT2
import PyProof.MeetsSeq3
import PyProof.DictRoadsH
import PyProof.Rows.TupTab
import PyProof.Rows.SortWalk
import PyProof.Rows.SeqCalls
import PyProof.ListMulRoad
import KE.KDictLaws
import OpenK.KRaise
import KE.KLam
import KE.KNestM
import PyProof.StrLawsTight
import PyProof.Rows.StrSplitMax
import PyProof.StrCalls2
import PyProof.StrWalks
import PyProof.Rows.StrJoin2
import KE.KIntText
import KE.KUnpackStar
import KE.KTab
import PyProof.Rows.SortRuns
import PyProof.Rows.SetFrom
import KE.KDictList
import PyProof.IsRules
import PyProof.DictCompW
import KE.KSortKey
import KE.KSortTup
import PyProof.Rows.StrTempNeg
import PyProof.StrBlockH
import PyProof.StrOps2
import PyProof.DictUpdate
import KE.KListMore
import PyProof.Rows.CatFin
import PyProof.Rows.StrClose5
import PyProof.FString
import PyProof.Rows.FStr
import PyProof.TupleIter
import PyProof.MinMaxWalk
import PyProof.DictWalks
import PySem.Challenge.RW_guisery_k57_refusals_apart
set_option compiler.extract_closed false
set_option bootstrap.genMatcherCode false
noncomputable section
set_option Elab.async false
set_option linter.all false
set_option maxRecDepth 100000
set_option maxHeartbeats 4000000
def y00:=@PySem.wpAny_bind
def y01:=@List.length_map
def y02:=@PySem.Heap.get?_push_of_some
def y03:=@PySem.wpAny_pure
def y04:=@PySem.Heap.get?_push_size
def y05:=@PySem.Heap.lt_size
def y06:=@Option.some.inj
def y07:=@List.length_append
def y08:=@List.getD_eq_getElem?_getD
def y09:=@Nat.le_refl
def y0a:=@List.getElem?_eq_getElem
def y0b:=@Bool.and_eq_true
def y0c:=@List.length_cons
def y0d:=@List.mem_cons_of_mem
def y0e:=@Nat.le_trans
def y0f:=@List.mem_map
def y0g:=@List.size_toArray
def y0h:=@Nat.lt_of_lt_of_le
def y0i:=@Nat.ne_of_lt
def y0j:=@PySem.boot_len
def y0k:=@List.mem_cons
def y0l:=@List.getElem?_map
def y0m:=@of_decide_eq_true
def y0n:=@List.append_nil
def y0o:=@List.map_cons
def y0p:=@List.mem_cons_self
def y0q:=@List.mem_singleton
def y0r:=@List.length_pos_iff
def y0s:=@Bool.false_ne_true
def y0t:=@List.map_append
def y0u:=@List.all_eq_true
def y0v:=@decide_eq_false
def y0w:=@of_decide_eq_false
def y0x:=@PySem.PassesOwn.leaving
def y0y:=@PySem.W.hideAll_none
def y0z:=@List.getElem?_eq_some_iff
def y0A:=@List.getElem?_append_left
def y0B:=@PySem.wpAny_mono
def y0C:=@PySem.wpAny_holding
def y0D:=@List.take_of_length_le
def y0E:=@List.getElem?_append_right
def y0F:=@PySem.Str.length_append
def y0G:=@PyProof.Rows.boot_tuple
def y0H:=@PySem.W.mg_of
def y0I:=@List.length_take
def y0J:=@Nat.lt_of_le_of_lt
def y0K:=@List.lookup_cons
def y0L:=@Bool.false_eq_true
def y0M:=@List.mem_of_getElem?
def y0N:=@Ne.symm
def y0O:=@List.mem_append_right
def y0P:=@PySem.wpAny_callSpecial?_slot
def y0Q:=@PySem.wpAny_call_entry
def y0R:=@PySem.W.kia_one
def y0S:=@PyProof.Rows.slot_tuple_getitem
def y0T:=@PySem.wpAny_newObj_type
def y0U:=@List.map_map
def y0V:=@PySem.mem_of_lookup
def y0W:=@Nat.mod_eq_of_lt
def y0X:=@PySem.wpAny_pyIter_list
def y0Y:=@Nat.le_of_lt
def y0Z:=@List.replicate_succ
def y10:=@List.idxOf_lt_length_of_mem
def y11:=@PySem.wpAny_truthy_bool
def y12:=@List.length_eq_zero_iff
def y13:=@Int.ofNat.inj
def y14:=@PySem.wpAny_field
def y15:=@PySem.wpAny_Call_Name_kw
def y16:=@True.intro
def y17:=@List.drop_eq_getElem_cons
def y18:=@Array.length_toList
def y19:=@Int.toNat_natCast
def y1a:=@List.append_assoc
def y1b:=@PySem.Heap.get?_update_self
def y1c:=@List.mem_append
def y1d:=@PySem.wpAny_standAt
def y1e:=@PySem.F.plainAttrs_list
def y1f:=@List.mem_append_left
def y1g:=@List.length_drop
def y1h:=@List.drop_of_length_le
def y1i:=@List.flatten_cons
def y1j:=@PySem.wpAny_loadPart_at
def y1k:=@List.getElem?_zip_eq_some
def y1l:=@List.nodup_cons
def y1m:=@List.getElem?_eq_none
def y1n:=@PySem.wpAny_ite_split
def y1o:=@PyProof.Rows.boot_str
def y1p:=@PySem.F.slot_list_append
def y1q:=@PySem.F.type_list_append
def y1r:=@Nat.zero_le
def y1s:=@PySem.Heap.get?_none_of_le
def y1t:=@PySem.Paired.length
def y1u:=@List.filter_cons_of_neg
def y1v:=@List.filter_cons_of_pos
def y1w:=@PySem.Heap.size_push
def y1x:=@decide_eq_true
def y1y:=@beq_iff_eq
def y1z:=@PySem.call_meets
def y1A:=@decide_eq_true_eq
def y1B:=@beq_eq_false_iff_ne
def y1C:=@PyProof.Rows.callWith_type1
def y1D:=@List.find?_cons
def y1E:=@Nat.min_eq_left
def y1F:=@PySem.Heap.get?_update_other
def y1G:=@Option.map_eq_some_iff
def y1H:=@PySem.F.slot_tuple_iterator_next
def y1I:=@Nat.lt_succ_self
def y1J:=@List.getElem_mem
def y1K:=@Nat.mod_lt
def y1L:=@Nat.succ_le_succ
def y1M:=@congrArg
def y1N:=@PySem.codeAny_mono
def y1O:=@PySem.W.callWith_K
def y1P:=@PySem.F.slot_dict_delitem
def y1Q:=@PySem.wpAny_seqItems
def y1R:=@List.getElem?_set_ne
def y1S:=@PySem.wpAny_passesOwn
def y1T:=@PySem.wpAny_specialOf
def y1U:=@List.forIn_cons
def y1V:=@PySem.F.entry_str_split
def y1W:=@PySem.AutoSeq1.wpAny_loadPart'
def y1X:=@Nat.lt_irrefl
def y1Y:=@List.filterMap_cons
def y1Z:=@List.getElem_of_mem
def y20:=@List.map_congr_left
def y21:=@Nat.add_sub_cancel_left
def y22:=@List.flatten_append
def y23:=@Int.eq_ofNat_of_zero_le
def y24:=@List.ext_getElem
def y25:=@PySem.F.slot_str_split
def y26:=@List.drop_eq_nil_of_le
def y27:=@PySem.Str.empty_append
def y28:=@PySem.W.of_hideAll
def y29:=@PySem.tupleKind_room_in1
def y2a:=@List.getElem?_drop
def y2b:=@PySem.wpAny_setField_rec
def y2c:=@PySem.wpAny_pyIter_tuple
def y2d:=@PySem.sizeLine_eq
def y2e:=@List.of_mem_zip
def y2f:=@List.length_replicate
def y2g:=@List.length_nil
def y2h:=@List.map_nil
def y2i:=@PySem.F.slot_dict_get
def y2j:=@List.take_append_drop
def y2k:=@PySem.F.slot_int_rmul
def y2l:=@PySem.wpAny_call
def y2m:=@Nat.add_mod_right
def y2n:=@PySem.codeAny_call_builtin
def y2o:=@PySem.wpAny_binaryOp_repeat_ref
def y2p:=@PySem.W.any_some
def y2q:=@PySem.F.slot_tuple_mul
def y2r:=@Int.natCast_emod
def y2s:=@List.not_mem_nil
def y2t:=@List.cons_append
def y2u:=@PySem.Heap.SameBut.update
def y2v:=@ne_true_of_eq_false
def y2w:=@PySem.wpAny_isSubtype_exc
def y2x:=@Nat.div_eq_of_lt_le
def y2y:=@Option.isSome_iff_exists
def y2z:=@PySem.F.args_tuple_add_2
def y2A:=@Nat.zero_add
def y2B:=@Nat.add_zero
def y2C:=@PySem.wpAny_comprehension_free
def y2D:=@PySem.wpAny_execs_nil
def y2E:=@List.mem_filterMap
def y2F:=@List.getElem?_replicate
def y2G:=@PySem.F.entry_tuple_add
def y2H:=@PySem.F.args_dict_get_2
def y2I:=@List.idxOf_cons
def y2J:=@List.length_zip
def y2K:=@List.contains_cons
def y2L:=@List.getElem?_take
def y2M:=@List.getElem?_cons_succ
def y2N:=@List.getElem?_set_self
def y2O:=@PySem.W.cellsFrom_some
def y2P:=@PySem.F.slot_tuple_add
def y2Q:=@PySem.Calls.callWith_builtin
def y2R:=@PySem.F.entry_dict_get
def y2S:=@Array.getElem?_eq_none
def y2T:=@PySem.F.plainAttrs_str
def y2U:=@PyProof.Rows.boot_bool
def y2V:=@Option.isSome_map
def y2W:=@Int.le_refl
def y2X:=@PySem.F.slot_tuple_hash
def y2Y:=@List.mem_range
def y2Z:=@Bool.false_and
def y30:=@Nat.le_of_eq
def y31:=@List.length_filter_le
def y32:=@PyProof.Rows.boot_max
def y33:=@PyProof.Rows.boot_int
def y34:=@List.filter_cons
def y35:=@Nat.min_eq_right
def y36:=@decide_eq_decide
def y37:=@Nat.succ_ne_zero
def y38:=@PySem.W.looks_findIn
def y39:=@PySem.Around.frames_deeper
def y3a:=@PySem.Calls.evalArgs_plain
def y3b:=@Nat.mul_le_mul_right
def y3c:=@Nat.add_le_add_right
def y3d:=@Bool.and_eq_true_iff
def y3e:=@List.any_cons
def y3f:=@Nat.add_assoc
def y3g:=@List.map_take
def y3h:=@PySem.wpAny_attempt
def y3i:=@PySem.typeIs_str
def y3j:=@PySem.typeIs_int
def y3k:=@PySem.codeAny_builtin
def y3l:=@Nat.mod_add_div
def y3m:=@Int.natCast_mul
def y3n:=@PySem.F.slot_zip_next
def y3o:=@Nat.ne_of_gt
def y3p:=@PySem.wpAny_typeOf
def y3q:=@Nat.lt_trans
def y3r:=@Nat.le_total
def y3s:=@And.intro
abbrev yyF:=PySem.W.Frag
abbrev yyP:=List (PySem.Addr × PySem.Obj)
abbrev yyE:=PySem.Value->PySem.Shared->Prop
abbrev yyS:=PySem.Str->Option PySem.Value
namespace L2
open PySem PySem.Spec PyProof.Rows
abbrev Key:=Sum Int Str
def z8X:Key->Value->Bool
 |.inl k,v=>Value.isInt k v
 |.inr x,v=>Value.isStrOf x v
def zm2(w:World):Key->Int
 |.inl k=>hashInt k
 |.inr x=>hashStr w x
def z0A:∀{k:Key}{v:Value},z8X k v=true->(∃i t,k=Sum.inl i/\v=Value.int i t)\/(∃x t,k=Sum.inr x/\v=Value.str x t)
 |.inl i,v,h=>by
  obtain⟨t,e⟩:=Value.isInt_shape (k:=i) (v:=v) h;exact .inl ⟨i,t,rfl,e⟩
 |.inr x,v,h=>by obtain⟨t,e⟩:=Value.isStrOf_shape (x:=x) (v:=v) h;exact .inr ⟨x,t,rfl,e⟩
def zbA(i:Int)(t:Tok):z8X (.inl i) (.int i t)=true:=by simp[z8X,Value.isInt]
def zb7(x:Str)(t:Tok):z8X (.inr x) (.str x t)=true:=by simp[z8X,Value.isStrOf]
def ziN(a b:Int):decide ((Sum.inl a:Key)=Sum.inl b)=(a==b):=by
 by_cases e:a=b
 .subst e;simp
 .have h:¬(Sum.inl a:Key)=Sum.inl b:=λq=>e (Sum.inl.inj q);rw[y0v h];exact(y1B.mpr e).symm
def zhB(a b:Str):decide ((Sum.inr a:Key)=Sum.inr b)=decide (a=b):=by
 by_cases e:a=b
 .subst e;simp
 .have h:¬(Sum.inr a:Key)=Sum.inr b:=λq=>e (Sum.inr.inj q);rw[y0v h,y0v e]
def ziv(a:Int)(b:Str):decide ((Sum.inl a:Key)=Sum.inr b)=false:=y0v (λq=>nomatch q)
def zgT(a:Str)(b:Int):decide ((Sum.inr a:Key)=Sum.inl b)=false:=y0v (λq=>nomatch q)
def z0H(prog:Program)(w:World):PySem.KeyKind prog w Key where
 is:=z8X
 hash:=zm2 w
 inj:=λv a b ha hb=>by
  rcases z0A ha with⟨i,t,rfl,rfl⟩|⟨x,t,rfl,rfl⟩
  .rcases z0A hb with⟨j,u,rfl,e⟩|⟨y,u,rfl,e⟩
   .injection e with e1 _;rw[e1]
   .exact nomatch e
  .rcases z0A hb with⟨j,u,rfl,e⟩|⟨y,u,rfl,e⟩
   .exact nomatch e
   .injection e with e1 _;rw[e1]
 byValue:=λk v h=>by rcases z0A h with⟨i,t,rfl,rfl⟩|⟨x,t,rfl,rfl⟩<;>rfl
 pyHash:=λhv h=>by
  rcases z0A hv with⟨i,t,rfl,rfl⟩|⟨x,t,rfl,rfl⟩
  .exact wpAny_pyHash_int h
  .exact wpAny_pyHash_str h
 eqBool:=λhu hv h=>by
  rcases z0A hu with⟨i,t,rfl,rfl⟩|⟨x,t,rfl,rfl⟩
  .rcases z0A hv with⟨j,u,rfl,rfl⟩|⟨y,u,rfl,rfl⟩
   .rw[ziN]at h;exact wpAny_eqBool_int h
   .rw[ziv]at h;exact SeqAt.EqAt.int_str i t y u _ _ _ _ h
  .rcases z0A hv with⟨j,u,rfl,rfl⟩|⟨y,u,rfl,rfl⟩
   .rw[zgT]at h;exact SeqAt.EqAt.str_int x t j u _ _ _ _ h
   .rw[zhB]at h;exact wpAny_eqBool_str h
 «strs»:=λk x t v h=>by
  rcases z0A h with⟨i,u,rfl,e⟩|⟨y,u,rfl,e⟩
  .exact nomatch e
  .injection e with e1 _;subst e1;cases v<;>rfl
def z7y(prog:Program)(w:World)(i:Int)(t:Tok):(z0H prog w).is (.inl i) (.int i t)=true:=zbA i t
def z7b(prog:Program)(w:World)(x:Str)(t:Tok):(z0H prog w).is (.inr x) (.str x t)=true:=zb7 x t
inductive V where
 |non|bl (b:Bool)|int (i:Int)|str (x:Str)|byt (b:Array UInt8)|flt (b:UInt64)|ref (a:Addr)|ty (n:String)
 deriving DecidableEq
def z0y:V->Value->Prop
 |.non,u=>u=Value.none
 |.bl b,u=>u=Value.bool b
 |.int i,u=>∃t,u=Value.int i t
 |.str x,u=>∃t,u=Value.str x t
 |.byt b,u=>∃t,u=Value.bytes b t
 |.flt b,u=>∃t,u=Value.float b t
 |.ref a,u=>u=Value.ref a
 |.ty n,u=>u=Value.type n
abbrev z0B:List V->List Value->Prop:=Paired z0y
theorem z0B.length{xs:List V}{us:List Value}(r:z0B xs us):xs.length=us.length:=y1t r
theorem z0B.get:∀{xs:List V}{us:List Value}{i:Nat}{x:V},z0B xs us->xs[i]?=some x->∃u,us[i]?=some u/\z0y x u
 |_,_,_,_,.nil,e=>by simp at e
 |_,_,0,_,.cons r _,e=>by simp at e;subst e;exact⟨_,rfl,r⟩
 |_,_,i+1,x,.cons _ t,e=>by obtain⟨u,h1,h2⟩:=z0B.get (i:=i) (x:=x) t (by simpa using e);exact⟨u,by simpa using h1,h2⟩
theorem z0B.append:∀{xs ys:List V}{us ws:List Value},z0B xs us->z0B ys ws->z0B (xs++ys) (us++ws)
 |_,_,_,_,.nil,s=>s
 |_,_,_,_,.cons r t,s=>.cons r (z0B.append t s)
theorem z0B.take:∀{xs:List V}{us:List Value}(n:Nat),z0B xs us->z0B (xs.take n) (us.take n)
 |_,_,0,_=>.nil
 |_,_,_+1,.nil=>.nil
 |_,_,n+1,.cons r t=>.cons r (z0B.take n t)
theorem z0B.drop:∀{xs:List V}{us:List Value}(n:Nat),z0B xs us->z0B (xs.drop n) (us.drop n)
 |_,_,0,r=>r
 |_,_,_+1,.nil=>.nil
 |_,_,n+1,.cons _ t=>z0B.drop n t
def z5q:Option V->Option Value->Prop
 |some v,some u=>z0y v u
 |none,none=>True
 |_,_=>False
def KV{κ:Type}:List (κ × V)->List (κ × Value)->Prop:=Paired λ(p:κ × V)(q:κ × Value)=>p.1=q.1/\z0y p.2 q.2
def kV:Key->V
 |.inl i=>.int i
 |.inr x=>.str x
inductive HO where
  |lst (xs:List V)
  |tup (xs:List V)
  |dK (kvs:List (Key × V))|dT (kvs:List (List Key × V))
  |set (S:Int->Bool) (n:Nat)
  |ins (C dx:Addr) (fs:List (Str × V))
  |own (x:Addr)
  |xd (fs:List (Str × V))
  |met (f x:Addr)
  |rng (lo hi:Int)
  |frz (o:Obj) (u:HO)
  |tbl (ps:Array Value)
  |ext (φ:Heap->Prop)
abbrev Hp:=Addr->Option HO
def upd(H:Hp)(a:Addr)(o:HO):Hp:=λb=>if b=a then some o else H b
def z0a{H:Hp}{a:Addr}{o:HO}:upd H a o a=some o:=by unfold upd;rw[if_pos rfl]
def z0c{H:Hp}{a b:Addr}{o:HO}(h:b≠a):upd H a o b=H b:=by unfold upd;rw[if_neg h]
def zjj{H:Hp}{a b:Addr}{o u:HO}(h:H a=some o)(h':H b=some u)(d:o≠u):a≠b:=by intro e;subst e;rw[h]at h';exact d (y06 h')
def z0h{H:Hp}{a b:Addr}{o:HO}(h:H a=some o)(h':H b=none):a≠b:=by intro e;subst e;rw[h]at h';cases h'
section
variable(P:Program)(w:World)
def z0K(H:Hp)(h:Heap)(a:Addr):HO->Prop
 |.lst xs=>xs.length<=sizeLine/\∃(its:List Value) (n:Nat),z0B xs its/\h.get? a=some { cls:=.type "list",data:=.seq its.toArray n }
 |.tup xs=>xs.length<=sizeLine/\∃(its:List Value) (n:Nat),z0B xs its/\h.get? a=some { cls:=.type "tuple",data:=.seq its.toArray n }
 |.dK kvs=>kvs.length<=sizeLine/\(a==sysModules)=false/\∃vs,KV kvs vs/\h.DictOf (z0H P w) a vs
 |.dT kvs=>kvs.length<=sizeLine/\(a==sysModules)=false/\∃xs:List (List Key × Addr × Value),
   Paired (λ(p:List Key × V)(q:List Key × Addr × Value)=>p.1=q.1/\H q.2.1=some (.tup (p.1.map kV))/\z0y p.2 q.2.2) kvs xs /\
   ∃o es ep,h.get? a=some o/\o.ExactDict/\o.data=.dict es ep/\es.toList=xs.map (entryOfKey (tupleKind (z0H P w)))/\(xs.map (·.1)).Nodup
 |.set S n=>h.SetOf (intKind P w) a S n
 |.ins C dx fs=>H dx=some (.own a)/\fs.length<=1000/\dx≠a/\h.get? a=some (PySem.W.instObj C dx) /\
   ∃mA,h.Ns1 dx mA/\(∀f,z5q (fs.lookup f) (mA f))/\PySem.Within mA (fs.map (·.1))
 |.own _=>∃o,h.get? a=some o
 |.xd fs=>∃mA,h.Ns1 a mA/\∀f,z5q (fs.lookup f) (mA f)
 |.rng lo hi=>∃t u v,h.get? a=some { cls:=.type "range",data:=.fields #[.int lo t,.int hi u,.int 1 v] }
 |.frz o u=>h.get? a=some o/\z0K H h a u
 |.tbl ps=>h.get? a=some { cls:=.none,data:=.fields ps }
 |.met f x=>h.get? a=some (PySem.W.methodObj (.ref f) (.ref x))
 |.ext φ=>φ h/\(∃o,h.get? a=some o)/\∀h1 h2:Heap,φ h1->(∀o,h1.get? a=some o->h2.get? a=some o)->φ h2
def HOk(H:Hp)(h:Heap):Prop:=∀a o,H a=some o->z0K P w H h a o
end
section
variable{P:Program}{w:World}{H H':Hp}{h h':Heap}{a:Addr}{o:HO}
def z0K.lt(x:z0K P w H h a o):a<h.objs.size:=by
 cases o with
 |lst xs=>obtain⟨_,_,_,_,e⟩:=x;exact y05 e
 |tup xs=>obtain⟨_,_,_,_,e⟩:=x;exact y05 e
 |dK kvs=>obtain⟨_,_,_,_,o,_,_,e,_⟩:=x;exact y05 e
 |dT kvs=>obtain⟨_,_,_,_,o,_,_,e,_⟩:=x;exact y05 e
 |set S n=>obtain⟨o,_,_,_,e,_⟩:=x;exact y05 e
 |ins C dx fs=>obtain⟨_,_,_,e,_⟩:=x;exact y05 e
 |own y=>obtain⟨_,e⟩:=x;exact y05 e
 |xd fs=>obtain⟨_,⟨_,_,_,e,_⟩,_⟩:=x;exact y05 e
 |rng lo hi=>obtain⟨_,_,_,e⟩:=x;exact y05 e
 |frz ob u=>obtain⟨e,_⟩:=x;exact y05 e
 |tbl ps=>exact y05 (show h.get? a=some _ from x)
 |met f y=>exact y05 (show h.get? a=some _ from x)
 |ext φ=>obtain⟨_,⟨_,e⟩,_⟩:=x;exact y05 e
theorem Paired.mapP{α β:Type}{F G:α->β->Prop}:∀{l₁:List α}{l₂:List β},Paired F l₁ l₂->(∀a b,F a b->G a b)->Paired G l₁ l₂
 |_,_,.nil,_=>.nil
 |_,_,.cons r t,f=>.cons (f _ _ r) (Paired.mapP t f)
def z0K.stay(x:z0K P w H h a o)(k:∀b u,(b=a\/H b=some (.own a))->h.get? b=some u->h'.get? b=some u)(ho:∀b,H b=some (.own a)->H' b=some (.own a))(ht:∀b xs,H b=some (.tup xs)->H' b=some (.tup xs)):z0K P w H' h' a o:=by
 induction o with
 |lst xs=>obtain⟨z,its,n,r,e⟩:=x;exact⟨z,its,n,r,k _ _ (.inl rfl) e⟩
 |tup xs=>obtain⟨z,its,n,r,e⟩:=x;exact⟨z,its,n,r,k _ _ (.inl rfl) e⟩
 |dK kvs=>obtain⟨z,y,vs,r,ob,es,ep,e,c⟩:=x;exact⟨z,y,vs,r,ob,es,ep,k _ _ (.inl rfl) e,c⟩
 |dT kvs =>
  obtain⟨z,y,xs,r,ob,es,ep,e,c⟩:=x;exact⟨z,y,xs,Paired.mapP r λp q z=>⟨z.1,ht _ _ z.2.1,z.2.2⟩,ob,es,ep,k _ _ (.inl rfl) e,c⟩
 |set S n=>obtain⟨ob,es,ep,t,e,c⟩:=x;exact⟨ob,es,ep,t,k _ _ (.inl rfl) e,c⟩
 |ins C dx fs =>
  obtain⟨d,z,ne,e,mA,⟨od,es,ep,e2,c⟩,r⟩:=x;exact⟨ho _ d,z,ne,k _ _ (.inl rfl) e,mA,⟨od,es,ep,k _ _ (.inr d) e2,c⟩,r⟩
 |own y=>obtain⟨ob,e⟩:=x;exact⟨ob,k _ _ (.inl rfl) e⟩
 |xd fs=>obtain⟨mA,⟨od,es,ep,e,c⟩,r⟩:=x;exact⟨mA,⟨od,es,ep,k _ _ (.inl rfl) e,c⟩,r⟩
 |rng lo hi=>obtain⟨t,u,v,e⟩:=x;exact⟨t,u,v,k _ _ (.inl rfl) e⟩
 |frz ob u ih=>obtain⟨e,q⟩:=x;exact⟨k _ _ (.inl rfl) e,ih q⟩
 |tbl ps =>
  have e:h.get? a=some { cls:=.none,data:=.fields ps }:=x;show h'.get? a=some { cls:=.none,data:=.fields ps };exact k a _ (.inl rfl) e
 |met f y =>
  have e:h.get? a=some (PySem.W.methodObj (.ref f) (.ref y)):=x;show h'.get? a=some (PySem.W.methodObj (.ref f) (.ref y));exact k a _ (.inl rfl) e
 |ext φ=>obtain⟨p,⟨o,e⟩,st⟩:=x;exact⟨st _ _ p λo q=>k _ _ (.inl rfl) q,⟨o,k _ _ (.inl rfl) e⟩,st⟩
theorem HOk.lt(x:HOk P w H h)(e:H a=some o):a<h.objs.size:=(x a o e).lt
def HOk.fresh(x:HOk P w H h)(e:h.objs.size<=a):H a=none:=by
 cases q:H a with
 |none=>rfl
 |some u=>exact absurd (y0h (x.lt q) e) (y1X _)
def HOk.kept(x:HOk P w H h)(k:∀b u,h.get? b=some u->h'.get? b=some u):HOk P w H h':=λa o e =>
 (x a o e).stay (λb u _ q=>k b u q) (λ_ q=>q) λ_ _ q=>q
def HOk.laid(x:HOk P w H h)(k:∀b u,h.get? b=some u->h'.get? b=some u)(hp:h.objs.size<=a)(new:z0K P w (upd H a o) h' a o):HOk P w (upd H a o) h':=λb u e=>by
 have hn:=x.fresh hp;by_cases hb:b=a
 .subst hb;rw[z0a]at e;cases e;exact new
 .rw[z0c hb]at e;exact(x b u e).stay (λc v _ q=>k c v q) (λc q=>by rw[z0c (z0h q hn)];exact q) λc xs q=>by rw[z0c (z0h q hn)];exact q
end
def Rd(H:Hp)(a:Addr)(u:HO):Prop:=H a=some u\/∃o,H a=some (.frz o u)
def Rd.ok{P:Program}{w:World}{H:Hp}{h:Heap}{a:Addr}{u:HO}(r:Rd H a u)(x:HOk P w H h):z0K P w H h a u:=by
 rcases r with r|⟨o,r⟩
 .exact x a u r
 .obtain⟨_,q⟩:=x a _ r;exact q
def Mut:Option HO->Prop
 |some (.lst _)=>True
 |some (.dK _)=>True
 |some (.dT _)=>True
 |some (.set _ _)=>True
 |some (.ins _ _ _)=>True
 |some (.ext _)=>True
 |_=>False
section
variable{P:Program}{w:World}{H:Hp}{h h':Heap}{x e:Addr}{o':HO}
def HOk.write(ok:HOk P w H h)(mu:Mut (H x))(he:e=x\/H e=some (.own x))(k:∀b u,b≠e->h.get? b=some u->h'.get? b=some u)(heo:∃u,h'.get? e=some u)(new:z0K P w (upd H x o') h' x o'):HOk P w (upd H x o') h':=λb u q=>by
 have nown:∀c y,H c=some (.own y)->c≠x:=λc y r z=>by subst z;rw[r]at mu;exact mu
 have ntup:∀c xs,H c=some (.tup xs)->c≠x:=λc xs r z=>by subst z;rw[r]at mu;exact mu
 by_cases hb:b=x
 .subst hb;rw[z0a]at q;cases q;exact new
 .rw[z0c hb]at q;by_cases hbe:b=e
  .have q':H b=some (.own x):=by
    rcases he with z|z
    .exact absurd (hbe.trans z) hb
    .rw[hbe];exact z
   rw[q]at q';cases q';obtain⟨v,hv⟩:=heo;exact⟨v,by rw[hbe];exact hv⟩
  .refine(ok b u q).stay (λc v hc r=>k c v ?_ r) (λc r=>by rw[z0c (nown c b r)];exact r) λc xs r=>by rw[z0c (ntup c xs r)];exact r
   rcases hc with rfl|hc
   .exact hbe
   .rintro rfl;rcases he with z|z
    .exact nown c b hc z
    .rw[hc]at z;cases z;exact hb rfl
end
structure Un(fs ex:List Addr)(H H':Hp)(h h':Heap):Prop where
 keep:∀b o,h.get? b=some o->H b=none->b∉fs->b∉ex->h'.get? b=some o
 slot:∀b o,h.get? b=some o->H b=none->b∈fs->b∉ex->∃sl,h'.get? b=some { o with slots:=sl }
 free:∀b o,h.get? b=some o->H b=none->b∉ex->H' b=none
 there:∀b o,h.get? b=some o->b∉ex->∃o',h'.get? b=some o'
 tups:∀b xs,H b=some (.tup xs)->H' b=some (.tup xs)
 frzs:∀b o u,H b=some (.frz o u)->H' b=some (.frz o u)
 tbls:∀b ps,H b=some (.tbl ps)->∃more,H' b=some (.tbl (ps++more))
section
variable{fs ex:List Addr}{H H1:Hp}{h h1 h':Heap}{a x e:Addr}{o:HO}
def Un.any(u:Un fs ex H H1 h h1){b:Addr}{ob:Obj}(q:h.get? b=some ob)(n:H b=none)(hx:b∉ex):∃sl,h1.get? b=some { ob with slots:=sl }:=by
 by_cases hb:b∈fs
 .exact u.slot b ob q n hb hx
 .exact⟨ob.slots,u.keep b ob q n hb hx⟩
def Un.kept(k:∀b u,h.get? b=some u->h'.get? b=some u):Un fs ex H H h h' :=
 ⟨λb ob q _ _ _=>k b ob q,λb ob q _ _ _=>⟨ob.slots,k b ob q⟩,λ_ _ _ n _=>n,λb ob q _=>⟨ob,k b ob q⟩,λ_ _ q=>q,λ_ _ _ q=>q,λ_ ps q=>⟨#[],by rw[q];simp⟩⟩
def Un.refl:Un fs ex H H h h:=Un.kept λ_ _ q=>q
def Un.laid(k:∀b u,h.get? b=some u->h'.get? b=some u)(hp:h.objs.size<=a)(hn:H a=none):Un fs ex H (upd H a o) h h' where
 keep:=λb u q _ _ _=>k b u q
 slot:=λb u q _ _ _=>⟨u.slots,k b u q⟩
 free:=λb u q n _=>by rw[z0c (y0i (y0h (y05 q) hp))];exact n
 there:=λb u q _=>⟨u,k b u q⟩
 tups:=λb xs q=>by rw[z0c (z0h q hn)];exact q
 frzs:=λb u xs q=>by rw[z0c (z0h q hn)];exact q
 tbls:=λb ps q=>⟨#[],by rw[z0c (z0h q hn),q];simp⟩
def Un.write(mu:Mut (H x))(he:e=x\/H e=some (.own x))(k:∀b u,b≠e->h.get? b=some u->h'.get? b=some u)(heo:∃u,h'.get? e=some u):Un fs ex H (upd H x o) h h':=by
 have hx:∀b,H b=none->b≠x:=λb n z=>by subst z;rw[n]at mu;exact mu
 have hb:∀b,H b=none->b≠e:=λb n z=>by
  subst z;rcases he with r|r
  .exact hx b n r
  .rw[n]at r;cases r
 have hm:∀b u,H b=some u->¬Mut (some u)->b≠x:=λb u q nm z=>by subst z;rw[q]at mu;exact nm mu
 refine⟨λb u q n _ _=>k b u (hb b n) q,λb u q n _ _=>⟨u.slots,k b u (hb b n) q⟩,λb u q n _=>by rw[z0c (hx b n)];exact n,λb u q _=>?_,
  λb xs q=>by rw[z0c (hm b _ q λz=>z)];exact q,λb u xs q=>by rw[z0c (hm b _ q λz=>z)];exact q,λb ps q=>⟨#[],by rw[z0c (hm b _ q λz=>z),q];simp⟩⟩
 by_cases hbe:b=e
 .subst hbe;exact heo
 .exact⟨u,k b u hbe q⟩
end
def trk(h:Heap)(H:Hp):List Addr:=(List.range h.objs.size).filter λa=>(H a).isSome
def zbD(h:Heap)(H:Hp):Heap:=PySem.W.hideAll h (trk h H)
def zbh(h:Heap)(H:Hp):(zbD h H).objs.size=h.objs.size:=PySem.W.hideAll_size _ _
def zcF{h:Heap}{H:Hp}{b:Addr}{o:Obj}(e:h.get? b=some o)(n:H b=none):(zbD h H).get? b=some o :=
 PySem.W.hideAll_get _ e λhm=>by have q:(H b).isSome=true:=(List.mem_filter.mp hm).2;rw[n]at q;simp at q
def zfG{h:Heap}{H:Hp}{b:Addr}{o:Obj}(e:(zbD h H).get? b=some o):h.get? b=some o/\H b=none:=by
 have e':h.get? b=some o:=y28 (trk h H) e;refine⟨e',?_⟩;cases q:H b with
 |none=>rfl
 |some x =>
  have hm:b∈trk h H:=List.mem_filter.mpr ⟨y2Y.mpr (y05 e'),by simp[q]⟩;have z:(zbD h H).get? b=none:=y0y (trk h H) hm;rw[z]at e;cases e
structure Mod(K:yyF)(mg:yyS)(base:Heap):Prop where
 kin:K.In base
 glob:base.Ns mainGlobals mg
 blt:∃mb,base.Ns builtinsNs mb/\∀x:Str,x≠"__name__"->mb x=bootBuiltins x
 nolimit:base.NoLimit
structure Cx where
 prog:Program
 w:World
 K:yyF
 mg:yyS
 base:Heap
 A:Around
 N:List Str
 s₀:Shared
 H₀:Hp
 env:Env
 outer:List Env
 stack:List Env
 ex:List Addr
 fn:Str->Bool
 calm:Bool
 pn:yyP
 xe:yyE
def frs(l:List Env):List Addr:=l.filterMap (·.frame)
abbrev Cx.fs(X:Cx):List Addr:=frs X.outer
def Vis(sc:Scope)(x:Str):Prop:=sc.names.lookup x=some .local\/sc.names.lookup x=some .cell\/sc.names.lookup x=some .free
def Loc(sc:Scope)(x:Str):Prop:=sc.names.lookup x=some .local\/sc.names.lookup x=some .cell
def zlc(env:Env)(h:Heap)(m:yyS)(x:Str)(u:Value):Prop :=
 (env.kindOf x=some .local/\m x=some u)\/((env.kindOf x=some .cell\/env.kindOf x=some .free)/\∃c,env.cells.lookup x=some c/\h.IsCell c (some u))
structure Cx.Ok(X:Cx):Prop where
 mod:Mod X.K X.mg X.base
 kind:X.env.scope.kind=.function
 glob:X.env.globals=mainGlobals
 blt:X.env.builtins=builtinsNs
 above:X.s₀.heap.objs.size<=X.env.locals
 inj:∀x y c,X.env.cells.lookup x=some c->X.env.cells.lookup y=some c->x=y
 has:∀x,(X.env.kindOf x=some .cell\/X.env.kindOf x=some .free)->∃c,X.env.cells.lookup x=some c
 cab:∀x c,X.fn x=true->X.env.cells.lookup x=some c->X.s₀.heap.objs.size<=c
 hd:X.calm=true->X.A.handled=none
 frames:X.A.frames=some X.stack
 stk:X.stack=X.outer\/(X.stack=X.env::X.outer/\X.env.frame=some X.env.locals)
 exf:∀b∈X.ex,b≠X.env.locals/\∀x c,X.env.cells.lookup x=some c->c≠b
 bs:∀b o,X.base.get? b=some o->X.s₀.heap.get? b=some o/\X.H₀ b=none
 bsz:X.base.objs.size<=X.s₀.heap.objs.size
 noex:∀b o,X.base.get? b=some o->b∉X.ex
 exfs:∀b∈X.ex,b∉X.fs
 funs:X.s₀.heap.FunFrames X.base X.outer
 frf:∀b∈X.fs,X.H₀ b=none
structure Inv(X:Cx)(pins:yyP)(σ:List (Option V))(H:Hp)(s:Shared):Prop where
 ok:X.Ok
 os:s.os=X.s₀.os
 bare:AllBare s.gens
 base:Un X.fs X.ex X.H₀ H X.s₀.heap s.heap
 loc:∃m,s.heap.Ns X.env.locals m/\∀(i:Nat)(x:Str)(v:V),X.N[i]?=some x->σ[i]?=some (some v)->Vis X.env.scope x->∃u,z0y v u/\zlc X.env s.heap m x u
 cell:∀x c,X.env.cells.lookup x=some c->∃v,s.heap.IsCell c v
 free:H X.env.locals=none
 freeC:∀x c,X.env.cells.lookup x=some c->H c=none
 pin:∀p∈X.pn++pins,s.heap.get? p.1=some p.2/\H p.1=none/\p.1≠X.env.locals/\p.1∉X.fs/\∀v,p.2.data≠.cell v
 hok:HOk X.prog X.w H s.heap
 len:σ.length=X.N.length
section
variable{X:Cx}{pins:yyP}{σ:List (Option V)}{H H':Hp}{s:Shared}{h':Heap}
def Cx.Ok.nofr(ok:X.Ok){b:Addr}{o:Obj}(e:X.base.get? b=some o):b∉X.fs:=λhb=>by have:=(ok.funs.mem hb).1;rw[e]at this;cases this
theorem Inv.bs(I:Inv X pins σ H s):∀b o,X.base.get? b=some o->s.heap.get? b=some o/\H b=none:=λb o e =>
 ⟨I.base.keep b o (I.ok.bs b o e).1 (I.ok.bs b o e).2 (I.ok.nofr e) (I.ok.noex b o e),I.base.free b o (I.ok.bs b o e).1 (I.ok.bs b o e).2 (I.ok.noex b o e)⟩
def Inv.bk(I:Inv X pins σ H s):∀b o,X.base.get? b=some o->s.heap.get? b=some o:=λb o e=>(I.bs b o e).1
theorem Inv.mod(I:Inv X pins σ H s):Mod X.K X.mg X.base:=I.ok.mod
def Inv.kIn(I:Inv X pins σ H s):X.K.In s.heap:=I.ok.mod.kin.keeps I.bk
theorem Inv.lt(I:Inv X pins σ H s):X.env.locals<s.heap.objs.size:=let⟨_,hn,_⟩:=I.loc;hn.lt
def Inv.sz(I:Inv X pins σ H s):X.s₀.heap.objs.size<=s.heap.objs.size:=y0e I.ok.above (y0Y I.lt)
def Inv.nofs(I:Inv X pins σ H s){a:Addr}(h:s.heap.objs.size<=a):a∉X.fs:=λhb=>by obtain⟨_,o,ho,_⟩:=I.ok.funs.mem hb;exact absurd (y0h (y05 ho) (y0e I.sz h)) (y1X _)
def Inv.cne(I:Inv X pins σ H s):∀x c,X.env.cells.lookup x=some c->c≠X.env.locals:=λx c e z=>by obtain⟨v,o,ho,hd⟩:=I.cell x c e;obtain⟨m,⟨o',es,ep,ho',hd',_⟩,_⟩:=I.loc;rw[z,ho']at ho;cases ho;rw[hd']at hd;cases hd
theorem Inv.funs(I:Inv X pins σ H s):s.heap.FunFrames X.base X.outer:=by
 have all:∀(l:List Env),(∀b∈frs l,b∈X.fs)->X.s₀.heap.FunFrames X.base l->s.heap.FunFrames X.base l:=by
  intro l;induction l with
  |nil=>intro _ _;trivial
  |cons env r ih =>
   intro hs hl;obtain⟨hk,⟨L,o,hf,hn,ho,hd⟩,hr⟩:=hl;have hL:L∈X.fs:=hs L (by unfold frs;rw[y1Y,hf];exact y0p);obtain⟨sl,e⟩:=I.base.slot L o ho (I.ok.frf L hL) hL λz=>I.ok.exfs L z hL;exact⟨hk,⟨L,_,hf,hn,e,hd⟩,ih (λb hb=>hs b (by unfold frs;rw[y1Y,hf];exact y0d _ hb)) hr⟩
 exact all X.outer (λ_ hb=>hb) I.ok.funs
theorem Inv.stack(I:Inv X pins σ H s):s.heap.FunFrames X.base X.stack:=by
 rcases I.ok.stk with e|⟨e,hf⟩
 .rw[e];exact I.funs
 .rw[e];obtain⟨m,hn,_⟩:=I.loc;refine .cons (by rw[I.ok.kind];decide) hf hn ?_ I.funs;exact y1s (y0e I.ok.bsz I.ok.above)
def Inv.stkSub(I:Inv X pins σ H s):∀b∈frs X.stack,b∈X.env.locals::X.fs:=λb hb=>by
 rcases I.ok.stk with e|⟨e,hf⟩
 .rw[e]at hb;exact y0d _ hb
 .rw[e]at hb;unfold frs at hb;rw[y1Y,hf]at hb;exact hb
def Inv.stkFree(I:Inv X pins σ H s):∀b∈frs X.stack,H b=none:=λb hb=>by
 rcases y0k.mp (I.stkSub b hb)with e|hb
 .rw[e];exact I.free
 .obtain⟨_,o,ho,_⟩:=I.ok.funs.mem hb;exact I.base.free b o ho (I.ok.frf b hb) λz=>I.ok.exfs b z hb
def Inv.step{g':Array GenState}{t':Nat}{d':Drawn}{ch:List Addr}(I:Inv X pins σ H s)(hch:∀b∈ch,(b∈X.ex\/X.s₀.heap.objs.size<=b)/\b≠X.env.locals/\(∀x c,X.env.cells.lookup x=some c->c≠b)/\∀p∈X.pn++pins,p.1≠b)(keep:∀b o,b≠X.env.locals->b∉X.fs->b∉ch->s.heap.get? b=some o->H b=none->h'.get? b=some o)(slot:∀b o,b≠X.env.locals->b∈X.fs->b∉ch->s.heap.get? b=some o->H b=none->∃sl,h'.get? b=some { o with slots:=sl })(free:∀b o,b∉ch->s.heap.get? b=some o->H b=none->H' b=none)(there:∀b o,b∉ch->s.heap.get? b=some o->∃o',h'.get? b=some o')(tups:∀b xs,H b=some (.tup xs)->H' b=some (.tup xs))(frzs:∀b o u,H b=some (.frz o u)->H' b=some (.frz o u))(tbls:∀b ps,H b=some (.tbl ps)->∃more,H' b=some (.tbl (ps++more)))(ns:∀m,s.heap.Ns X.env.locals m->h'.Ns X.env.locals m)(hok:HOk X.prog X.w H' h')(hg:AllBare g') : Inv X pins σ H' { s with heap:=h',gens:=g',drawn:=d',toks:=t' }:=by
 have neL:∀b o,X.s₀.heap.get? b=some o->b≠X.env.locals:=λb o e=>y0i (y0h (y05 e) I.ok.above);have neC:∀b o,X.s₀.heap.get? b=some o->b∉X.ex->b∉ch:=λb o e hx hb=>by
  rcases(hch b hb).1 with z|z
  .exact hx z
  .exact absurd (y0h (y05 e) z) (y1X _)
 have cellK:∀x c,X.env.cells.lookup x=some c->∀v,s.heap.IsCell c v->h'.IsCell c v:=λx c e v ⟨o,ho,hd⟩=>by
  have nch:c∉ch:=λz=>(hch c z).2.2.1 x c e rfl;by_cases hc:c∈X.fs
  .obtain⟨sl,q⟩:=slot c o (I.cne x c e) hc nch ho (I.freeC x c e);exact⟨_,q,hd⟩
  .exact⟨o,keep c o (I.cne x c e) hc nch ho (I.freeC x c e),hd⟩
 refine⟨I.ok,I.os,hg,⟨λb o e n hb hx=>?_,λb o e n hb hx=>?_,λb o e n hx=>?_,λb o e hx=>?_,λb xs e=>tups b xs (I.base.tups b xs e),λb o xs e=>frzs b o xs (I.base.frzs b o xs e),λb ps e=>?_⟩,?_,λx c e=>?_,?_,λx c e=>?_,λp hp=>?_,hok,I.len⟩
 .exact keep b o (neL b o e) hb (neC b o e hx) (I.base.keep b o e n hb hx) (I.base.free b o e n hx)
 .obtain⟨sl,e1⟩:=I.base.slot b o e n hb hx;obtain⟨sl',e2⟩:=slot b _ (neL b o e) hb (neC b o e hx) e1 (I.base.free b o e n hx);exact⟨sl',e2⟩
 .obtain⟨o',e1⟩:=I.base.there b o e hx;exact free b o' (neC b o e hx) e1 (I.base.free b o e n hx)
 .obtain⟨o',e1⟩:=I.base.there b o e hx;exact there b o' (neC b o e hx) e1
 .obtain⟨m1,e1⟩:=I.base.tbls b ps e;obtain⟨m2,e2⟩:=tbls b _ e1;exact⟨m1++m2,by rw[e2,Array.append_assoc]⟩
 .obtain⟨m,hn,hl⟩:=I.loc;refine⟨m,ns m hn,λi x v e1 e2 e3=>?_⟩;obtain⟨u,r,l⟩:=hl i x v e1 e2 e3;refine⟨u,r,?_⟩;rcases l with l|⟨k,c,e,z⟩
  .exact .inl l
  .exact .inr ⟨k,c,e,cellK x c e _ z⟩
 .obtain⟨v,z⟩:=I.cell x c e;exact⟨v,cellK x c e v z⟩
 .obtain⟨m,⟨o,_,_,ho,_⟩,_⟩:=I.loc;exact free _ o (λz=>(hch _ z).2.1 rfl) ho I.free
 .obtain⟨v,o,ho,hd⟩:=I.cell x c e;exact free c o (λz=>(hch c z).2.2.1 x c e rfl) ho (I.freeC x c e)
 .obtain⟨e,n,ne,nf,d⟩:=I.pin p hp;have nch:p.1∉ch:=λz=>(hch p.1 z).2.2.2 p hp rfl;exact⟨keep p.1 p.2 ne nf nch e n,free p.1 p.2 nch e n,ne,nf,d⟩
def Inv.un{t':Nat}(I:Inv X pins σ H s)(u:Un X.fs [] H H' s.heap h')(hok:HOk X.prog X.w H' h'):Inv X pins σ H' { s with heap:=h',toks:=t' }:=by
 obtain⟨m,⟨o,es,ep,ho,r⟩,_⟩:=id I.loc;obtain⟨sl,hL⟩:=u.any ho I.free (by simp);exact I.step (g':=s.gens) (d':=s.drawn) (ch:=[]) (λ_ z=>nomatch z) (λb o _ hb _ e n=>u.keep b o e n hb (by simp)) (λb o _ hb _ e n=>u.slot b o e n hb (by simp)) (λb o _ e n=>u.free b o e n (by simp)) (λb o _ e=>u.there b o e (by simp)) u.tups u.frzs u.tbls (λm' hm=>by obtain⟨o',es',ep',ho',r'⟩:=hm;rw[ho]at ho';cases ho';exact⟨_,es',ep',hL,r'⟩) hok I.bare
def Inv.call{g':Array GenState}{t':Nat}{d':Drawn}{ch:List Addr}(I:Inv X pins σ H s)(u:Un (frs X.stack) ch H H' s.heap h')(hok:HOk X.prog X.w H' h')(hg:AllBare g')(hch:∀b∈ch,(b∈X.ex\/X.s₀.heap.objs.size<=b)/\b≠X.env.locals/\(∀x c,X.env.cells.lookup x=some c->c≠b)/\∀p∈X.pn++pins,p.1≠b) : Inv X pins σ H' { s with heap:=h',gens:=g',drawn:=d',toks:=t' }:=by
 obtain⟨m,⟨o,es,ep,ho,r⟩,_⟩:=id I.loc;obtain⟨sl,hL⟩:=u.any ho I.free λz=>(hch _ z).2.1 rfl;exact I.step (ch:=ch) hch (λb o hL hb hc e n=>u.keep b o e n (λz=>(y0k.mp (I.stkSub b z)).elim hL hb) hc) (λb o _ _ hc e n=>u.any e n hc) (λb o hc e n=>u.free b o e n hc) (λb o hc e=>u.there b o e hc) u.tups u.frzs u.tbls (λm' hm=>by obtain⟨o',es',ep',ho',r'⟩:=hm;rw[ho]at ho';cases ho';exact⟨_,es',ep',hL,r'⟩) hok hg
def Inv.turned{t':Nat}{it:Addr}(I:Inv X pins σ H s)(k:∀b o,b≠it->s.heap.get? b=some o->h'.get? b=some o)(hn:H it=none)(hL:it≠X.env.locals)(h1:it∈X.ex\/X.s₀.heap.objs.size<=it)(h2:∀x c,X.env.cells.lookup x=some c->c≠it)(h3:∀p∈X.pn++pins,p.1≠it):Inv X pins σ H { s with heap:=h',toks:=t' }:=by
 have nit:∀b u,H b=some u->b≠it:=λb u e z=>by rw[z,hn]at e;cases e
 refine I.step (g':=s.gens) (d':=s.drawn) (ch:=[it]) (λb hb=>?_) (λb o _ _ hc e _=>k b o (λz=>hc (by simp[z])) e) (λb o _ _ hc e _=>⟨o.slots,k b o (λz=>hc (by simp[z])) e⟩) (λ_ _ _ _ n=>n)
  (λb o hc e=>⟨o,k b o (λz=>hc (by simp[z])) e⟩) (λ_ _ e=>e) (λ_ _ _ e=>e) (λb ps e=>⟨#[],by rw[e];simp⟩) (λm hm=>?_) (λb u e=>?_) I.bare
 .have e:b=it:=by simpa using hb
  subst e;exact⟨h1,hL,h2,h3⟩
 .obtain⟨o,es,ep,ho,r⟩:=hm;exact⟨o,es,ep,k _ o (y0N hL) ho,r⟩
 .refine(I.hok b u e).stay (λc v hc q=>k c v ?_ q) (λ_ q=>q) λ_ _ q=>q;rcases hc with z|z
  .rw[z];exact nit b u e
  .exact nit c _ z
def Inv.tok(I:Inv X pins σ H s)(t:Nat):Inv X pins σ H { s with toks:=t }:=I.un (h':=s.heap) (t':=t) Un.refl I.hok
theorem Inv.kept{t':Nat}(I:Inv X pins σ H s)(k:∀b u,s.heap.get? b=some u->h'.get? b=some u):Inv X pins σ H { s with heap:=h',toks:=t' }:=I.un (Un.kept k) (I.hok.kept k)
theorem Inv.laid{a:Addr}{o:HO}{t':Nat}(I:Inv X pins σ H s)(k:∀b u,s.heap.get? b=some u->h'.get? b=some u)(hp:s.heap.objs.size<=a)(new:z0K X.prog X.w (upd H a o) h' a o) : Inv X pins σ (upd H a o) { s with heap:=h',toks:=t' }:=I.un (Un.laid k hp (I.hok.fresh hp)) (I.hok.laid k hp new)
theorem Inv.write{x e:Addr}{o:HO}{t':Nat}(I:Inv X pins σ H s)(mu:Mut (H x))(he:e=x\/H e=some (.own x))(k:∀b u,b≠e->s.heap.get? b=some u->h'.get? b=some u)(heo:∃u,h'.get? e=some u)(new:z0K X.prog X.w (upd H x o) h' x o):Inv X pins σ (upd H x o) { s with heap:=h',toks:=t' }:=I.un (Un.write mu he k heo) (I.hok.write mu he k heo new)
def Inv.pins_of{pins':yyP}(I:Inv X pins σ H s)(h:∀p∈pins',s.heap.get? p.1=some p.2/\H p.1=none/\p.1≠X.env.locals/\p.1∉X.fs/\∀v,p.2.data≠.cell v):Inv X pins' σ H s :=
 ⟨I.ok,I.os,I.bare,I.base,I.loc,I.cell,I.free,I.freeC,λp hp=>(y1c.mp hp).elim (λz=>I.pin p (y1f _ z)) (h p),I.hok,I.len⟩
def z3b{N:List Str}(hN:N.Nodup){i j:Nat}{x:Str}(a:N[i]?=some x)(b:N[j]?=some x):i=j:=by obtain⟨h1,e1⟩:=y0z.mp a;obtain⟨h2,e2⟩:=y0z.mp b;exact(List.getElem_inj hN).mp (e1.trans e2.symm)
def z6n{M:Model}{A:Around}{E:yyE}{i:Nat}{x:Str}{v:V}{u:Value}{Q:Unit->Shared->Prop}(I:Inv X pins σ H s)(hN:X.N.Nodup)(hi:X.N[i]?=some x)(hx:Loc X.env.scope x)(r:z0y v u)(h:∀s',Inv X pins (σ.set i (some v)) H s'->(∃a,Heap.SameBut a s.heap s'.heap/\(a=X.env.locals\/X.env.cells.lookup x=some a))->Q () s')(hf:X.fn x=true\/X.env.scope.names.lookup x=some .local:=by first|exact .inl rfl|exact .inr rfl|assumption):wpAny M A (storeName X.env x u) Q E s:=by
 obtain⟨m,hn,hl⟩:=id I.loc;have hcls:(X.env.scope.kind == .class||(X.env.scope.kind == .module&&X.env.locals != X.env.globals))=false:=by rw[I.ok.kind];rfl
 have hiσ:i<σ.length:=by rw[I.len];exact(y0z.mp hi).1
 have cne:=I.cne;have tracked:∀{a:Addr}{h':Heap},(∃o,s.heap.get? a=some o/\H a=none)->Heap.SameBut a s.heap h'->HOk X.prog X.w H h':=λ{a h'} ha hs b ob e=>by
  obtain⟨_,_,hfree⟩:=ha;refine(I.hok b ob e).stay (λc w' hc q=>(hs.2 c ?_).trans q) (λ_ q=>q) λ_ _ q=>q;rintro rfl;rcases hc with rfl|hc
  .rw[hfree]at e;cases e
  .rw[hfree]at hc;cases hc
 rcases hx with hk|hk
 .refine wpAny_storeName_local hk hn (λh' hn' hs=>?_) hcls;obtain⟨oL,_,_,hoL,_⟩:=id hn;refine h _ ⟨I.ok,I.os,I.bare,⟨λb o e n hb hx=>?_,λb o e n hb hx=>?_,I.base.free,λb o e hx=>?_,I.base.tups,I.base.frzs,I.base.tbls⟩,⟨_,hn',λj y v' e1 e2 e3=>?_⟩,λy c e=>?_,I.free,I.freeC,λp hp=>?_,tracked ⟨oL,hoL,I.free⟩ hs,by simpa using I.len⟩ ⟨_,hs,.inl rfl⟩
  .exact(hs.2 b (y0i (y0h (y05 e) I.ok.above))).trans (I.base.keep b o e n hb hx)
  .obtain⟨sl,e1⟩:=I.base.slot b o e n hb hx;exact⟨sl,(hs.2 b (y0i (y0h (y05 e) I.ok.above))).trans e1⟩
  .obtain⟨o',e1⟩:=I.base.there b o e hx;exact⟨o',(hs.2 b (y0i (y0h (y05 e) I.ok.above))).trans e1⟩
  .by_cases hj:j=i
   .subst hj;rw[hi]at e1;cases e1;rw[y2N hiσ]at e2;cases e2;exact⟨u,r,.inl ⟨hk,by simp⟩⟩
   .rw[y1R (y0N hj)]at e2;obtain⟨u',r',q⟩:=hl j y v' e1 e2 e3;refine⟨u',r',?_⟩;rcases q with⟨k,e⟩|⟨k,c,e,z⟩
    .refine .inl ⟨k,?_⟩;have:y≠x:=λe=>hj (z3b hN e1 (e▸hi));simp[this,e]
    .exact .inr ⟨k,c,e,z.sameBut hs (cne y c e)⟩
  .obtain⟨w',z⟩:=I.cell y c e;exact⟨w',z.sameBut hs (cne y c e)⟩
  .obtain⟨e,n,ne,nf,d⟩:=I.pin p hp;exact⟨(hs.2 p.1 ne).trans e,n,ne,nf,d⟩
 .have hfn:X.fn x=true:=by
   rcases hf with z|z
   .exact z
   .rw[z]at hk;cases hk
  obtain⟨c,hc⟩:=I.ok.has x (.inl hk);obtain⟨w',z⟩:=I.cell x c hc;refine wpAny_storeName_cell I.ok.kind hk hc z (λh' hc' hs=>?_);obtain⟨oc,hoc,hocd⟩:=id z;refine h { s with heap:=h' } ⟨I.ok,I.os,I.bare,⟨λb o e n hb hx=>?_,λb o e n hb hx=>?_,I.base.free,λb o e hx=>?_,I.base.tups,I.base.frzs,I.base.tbls⟩,⟨m,hn.sameBut hs (y0N (cne x c hc)),λj y v' e1 e2 e3=>?_⟩,λy c' e=>?_,I.free,I.freeC,λp hp=>?_,tracked ⟨oc,hoc,I.freeC x c hc⟩ hs,by simpa using I.len⟩ ⟨c,hs,.inr hc⟩
  .exact(hs.2 b (y0i (y0h (y05 e) (I.ok.cab x c hfn hc)))).trans (I.base.keep b o e n hb hx)
  .obtain⟨sl,e1⟩:=I.base.slot b o e n hb hx;exact⟨sl,(hs.2 b (y0i (y0h (y05 e) (I.ok.cab x c hfn hc)))).trans e1⟩
  .obtain⟨o',e1⟩:=I.base.there b o e hx;exact⟨o',(hs.2 b (y0i (y0h (y05 e) (I.ok.cab x c hfn hc)))).trans e1⟩
  .by_cases hj:j=i
   .subst hj;rw[hi]at e1;cases e1;rw[y2N hiσ]at e2;cases e2;exact⟨u,r,.inr ⟨.inl hk,c,hc,hc'⟩⟩
   .rw[y1R (y0N hj)]at e2;obtain⟨u',r',q⟩:=hl j y v' e1 e2 e3;refine⟨u',r',?_⟩;rcases q with q|⟨k,c',e,z'⟩
    .exact .inl q
    .refine .inr ⟨k,c',e,z'.sameBut hs ?_⟩;rintro rfl;exact hj (z3b hN e1 (I.ok.inj _ _ _ e hc▸hi))
  .by_cases hcc:c'=c
   .subst hcc;exact⟨_,hc'⟩
   .obtain⟨w2,z2⟩:=I.cell y c' e;exact⟨w2,z2.sameBut hs hcc⟩
  .obtain⟨e,n,ne,nf,d⟩:=I.pin p hp;refine⟨(hs.2 p.1 ?_).trans e,n,ne,nf,d⟩;intro q;rw[q,hoc]at e;have q':oc=p.2:=y06 e;exact d w' (by rw[<-q'];exact hocd)
def z39{M:Model}{A:Around}{E:yyE}{i:Nat}{x:Str}{v:V}{u:Value}{Q:Unit->Shared->Prop}(I:Inv X pins σ H s)(hN:X.N.Nodup)(hi:X.N[i]?=some x)(hx:Loc X.env.scope x)(r:z0y v u)(h:∀s',Inv X pins (σ.set i (some v)) H s'->Q () s')(hf:X.fn x=true\/X.env.scope.names.lookup x=some .local:=by first|exact .inl rfl|exact .inr rfl|assumption):wpAny M A (storeName X.env x u) Q E s :=
 z6n I hN hi hx r (λs' I' _=>h s' I') hf
def Inv.call'{s':Shared}{ch:List Addr}(I:Inv X pins σ H s)(ho:s'.os=s.os)(u:Un (frs X.stack) ch H H' s.heap s'.heap)(hok:HOk X.prog X.w H' s'.heap)(hg:AllBare s'.gens)(hch:∀b∈ch,(b∈X.ex\/X.s₀.heap.objs.size<=b)/\b≠X.env.locals/\(∀x c,X.env.cells.lookup x=some c->c≠b)/\∀p∈X.pn++pins,p.1≠b):Inv X pins σ H' s':=by obtain⟨h',g',d',t',o'⟩:=s';have e:o'=s.os:=ho;subst e;exact I.call (g':=g') (t':=t') (d':=d') u hok hg hch
end
abbrev XK:=Value->Option Addr->Hp->Prop
abbrev St:=List (Option V)
abbrev VK:=V->Hp->Prop
abbrev TE:=St->Hp->VK->Prop
abbrev TT:=St->Hp->(Bool->Hp->Prop)->Prop
abbrev TA:=St->Hp->(List V->Hp->Prop)->Prop
structure z9k where
 nx:St->Hp->Prop
 rt:VK
 bk:St->Hp->Prop:=λ_ _=>False
 ct:St->Hp->Prop:=λ_ _=>False
abbrev TS:=z9k->St->Hp->Prop
def EP(X:Cx)(pins:yyP)(σ:St)(Q:VK)(u:Value)(s':Shared):Prop:=∃v H',Inv X pins σ H' s'/\z0y v u/\Q v H'
def TP(X:Cx)(pins:yyP)(σ:St)(Q:Bool->Hp->Prop)(b:Bool)(s':Shared):Prop:=∃H',Inv X pins σ H' s'/\Q b H'
def AP(X:Cx)(pins:yyP)(σ:St)(Q:List V->Hp->Prop)(us:List Value)(s':Shared):Prop:=∃vs H',Inv X pins σ H' s'/\z0B vs us/\Q vs H'
def SP(X:Cx)(pins:yyP)(D:z9k)(f:Flow)(s':Shared):Prop :=
 match f with
 |.next=>∃σ' H',Inv X pins σ' H' s'/\D.nx σ' H'
 |.brk=>∃σ' H',Inv X pins σ' H' s'/\D.bk σ' H'
 |.cont=>∃σ' H',Inv X pins σ' H' s'/\D.ct σ' H'
 |.ret u=>∃v σ' H',Inv X pins σ' H' s'/\z0y v u/\D.rt v H'
def PE(X:Cx)(e:Expr)(t:TE):Prop :=
 ∀(pins:yyP)(s:Shared)(σ:St)(H:Hp)(Q:VK),Inv X pins σ H s->t σ H Q->wpAny (model X.prog X.w) X.A (eval e X.env) (EP X pins σ Q) X.xe s
def PT(X:Cx)(e:Expr)(t:TT):Prop :=
 ∀(pins:yyP)(s:Shared)(σ:St)(H:Hp)(Q:Bool->Hp->Prop),Inv X pins σ H s->t σ H Q->wpAny (model X.prog X.w) X.A (isTrue e X.env (eval e X.env)) (TP X pins σ Q) X.xe s
def PW(X:Cx)(e:Expr)(t:TT):Prop :=
 ∀(whole:Sem Value)(pins:yyP)(s:Shared)(σ:St)(H:Hp)(Q:Bool->Hp->Prop),Inv X pins σ H s->t σ H Q->wpAny (model X.prog X.w) X.A (isTrue e X.env whole) (TP X pins σ Q) X.xe s
def PW.pt{X:Cx}{e:Expr}{t:TT}(h:PW X e t):PT X e t:=h _
def PA(X:Cx)(es:List Expr)(t:TA):Prop :=
 ∀(pos:Pos)(pins:yyP)(s:Shared)(σ:St)(H:Hp)(Q:List V->Hp->Prop),Inv X pins σ H s->t σ H Q->wpAny (model X.prog X.w) X.A (spliced (backTo pos (starEach es X.env))) (AP X pins σ Q) X.xe s
def PS(X:Cx)(st:Stmt)(t:TS):Prop :=
 ∀(pins:yyP)(s:Shared)(σ:St)(H:Hp)(D:z9k),Inv X pins σ H s->t D σ H->wpAny (model X.prog X.w) X.A (exec st X.env) (SP X pins D) X.xe s
def PSs(X:Cx)(st:List Stmt)(t:TS):Prop :=
 ∀(pins:yyP)(s:Shared)(σ:St)(H:Hp)(D:z9k),Inv X pins σ H s->t D σ H->wpAny (model X.prog X.w) X.A (execs st X.env) (SP X pins D) X.xe s
def thn{α:Type}{t:Sem α}{Q Q':α->Shared->Prop}{M:Model}{A:Around}{E:yyE}{s:Shared}(h:wpAny M A t Q E s)(hQ:∀a s,Q a s->Q' a s):wpAny M A t Q' E s:=y0B h hQ λ_ _ x=>x
def exA{α:Sort _}{f g:α->Prop}{a:α}(h:f a)(k:g a):∃x,f x/\g x:=⟨a,h,k⟩
def exB{α β:Sort _}{f g:α->β->Prop}{a:α}{b:β}(h:f a b)(k:g a b):∃x y,f x y/\g x y:=⟨a,b,h,k⟩
def exC{α β:Sort _}{f f' g:α->β->Prop}{a:α}{b:β}(h:f a b)(h':f' a b)(k:g a b):∃x y,f x y/\f' x y/\g x y:=⟨a,b,h,h',k⟩
def exD{α β γ δ:Sort _}{f1 f2 f3 f4 g:α->β->γ->δ->Prop}(a:α)(b:β)(c:γ)(d:δ)(h1:f1 a b c d)(h2:f2 a b c d)(h3:f3 a b c d)(h4:f4 a b c d)(k:g a b c d):∃x y z w,f1 x y z w/\f2 x y z w/\f3 x y z w/\f4 x y z w/\g x y z w:=⟨a,b,c,d,h1,h2,h3,h4,k⟩
def exF{α β:Sort _}{f1 f2 f3 g:α->β->Prop}(a:α){b:β}(h1:f1 a b)(h2:f2 a b)(h3:f3 a b)(k:g a b):∃x y,f1 x y/\f2 x y/\f3 x y/\g x y:=⟨a,b,h1,h2,h3,k⟩
def exG{α β:Sort _}{f1 f2 g:α->β->Prop}(a:α){b:β}(h1:f1 a b)(h2:f2 a b)(k:g a b):∃x y,f1 x y/\f2 x y/\g x y:=⟨a,b,h1,h2,k⟩
def z2K{X:Cx}{pins:yyP}{σ:St}{Q:VK}{t:Sem Value}{R:yyE}{s:Shared}(h:wpAny (model X.prog X.w) X.A t (EP X pins σ Q) X.xe s)(k:∀u s1 x H1,Inv X pins σ H1 s1->z0y x u->Q x H1->R u s1):wpAny (model X.prog X.w) X.A t R X.xe s:=thn h λu s1 z=>by obtain⟨x,H1,I1,r,q⟩:=z;exact k u s1 x H1 I1 r q
section
variable{X:Cx}
def zlq(i:Nat):TE:=λσ H Q=>∃v,σ[i]?=some (some v)/\Q v H
def tC(v:V):TE:=λ_ H Q=>Q v H
def z4q{i:Nat}{x:Str}{pos:Pos}(hN:X.N[i]?=some x)(hv:Vis X.env.scope x)(hd:(x==("__debug__":Str))=false:=by decide)(hcd:(x==("__classdict__":Str))=false:=by decide):PE X (.Name x pos) (zlq i):=by
 intro pins s σ H Q I h;obtain⟨v,e,h⟩:=h;obtain⟨m,hn,hl⟩:=I.loc;obtain⟨u,r,l⟩:=hl i x v hN e hv;have fin:EP X pins σ Q u s:=⟨v,H,I,r,h⟩;rcases l with⟨hk,hm⟩|⟨hk,c,hc,hcell⟩
 .exact wpAny_Name (wpAny_loadName_local I.ok.kind hk hn hm fin) hd
 .rcases hk with hk|hk
  .exact wpAny_Name (wpAny_loadName_cell I.ok.kind hk hc hcell fin) hd
  .exact wpAny_Name (wpAny_loadName_free I.ok.kind hk hc hcell fin hcd) hd
def zdQ{i j pos}:PE X (.Constant (.int i) j pos) (tC (.int i)):=λ_ _ _ H _ I h=>wpAny_Constant_int ⟨.int i,H,I.tok _,⟨_,rfl⟩,h⟩
def zjA{b j pos}:PE X (.Constant (.bool b) j pos) (tC (.bl b)):=λ_ _ _ H _ I h=>Constant_bool ⟨.bl b,H,I,rfl,h⟩
def zh6{j pos}:PE X (.Constant .none j pos) (tC .non):=λ_ _ _ H _ I h=>Constant_none ⟨.non,H,I,rfl,h⟩
def zi0{x j pos}:PE X (.Constant (.str x) j pos) (tC (.str x)):=λ_ _ _ H _ I h=>Calls.Constant_str ⟨.str x,H,I.tok _,⟨_,rfl⟩,h⟩
def Gl(X:Cx)(x:Str):Prop:=X.env.kindOf x=some .globalImplicit
def z23{E:yyE}{pins:yyP}{s:Shared}{σ:St}{H:Hp}{x:Str}{u:Value}{pos:Pos}{Q:yyE}(I:Inv X pins σ H s)(hg:Gl X x)(hm:X.mg x=some u)(h:Q u s)(hd:(x==("__debug__":Str))=false:=by decide):wpAny (model X.prog X.w) X.A (eval (.Name x pos) X.env) Q E s :=
 Calls.Name_function_global I.ok.kind hg (Calls.loadGlobal_global (by rw[I.ok.glob];exact I.mod.glob.keeps I.bk) hm h) hd
def z3Q{E:yyE}{pins:yyP}{s:Shared}{σ:St}{H:Hp}{x:Str}{u:Value}{pos:Pos}{Q:yyE}(I:Inv X pins σ H s)(hg:Gl X x)(hm:X.mg x=none)(hv:bootBuiltins x=some u)(h:Q u s)(hn:x≠"__name__":=by decide)(hd:(x==("__debug__":Str))=false:=by decide):wpAny (model X.prog X.w) X.A (eval (.Name x pos) X.env) Q E s:=by obtain⟨mb,h1,h2⟩:=I.mod.blt;exact Calls.Name_function_global I.ok.kind hg (Calls.loadGlobal_builtin (by rw[I.ok.glob];exact I.mod.glob.keeps I.bk) hm (by rw[I.ok.blt];exact h1.keeps I.bk) ((h2 x hn).trans hv) h) hd
def zeC{x:Str}{v:V}{u:Value}{pos:Pos}(hg:Gl X x)(hm:X.mg x=some u)(r:z0y v u)(hd:(x==("__debug__":Str))=false:=by decide):PE X (.Name x pos) (tC v) :=
 λ_ _ _ H _ I h=>z23 I hg hm ⟨v,H,I,r,h⟩ hd
def zau{x:Str}{v:V}{u:Value}{pos:Pos}(hg:Gl X x)(hm:X.mg x=none)(hv:bootBuiltins x=some u)(r:z0y v u)(hn:x≠"__name__":=by decide)(hd:(x==("__debug__":Str))=false:=by decide):PE X (.Name x pos) (tC v) :=
 λ_ _ _ H _ I h=>z3Q I hg hm hv ⟨v,H,I,r,h⟩ hn hd
variable{a b:Expr}{ta tb:TE}{pos:Pos}
variable{tA tB':TT}{rest:List Expr}
def zl0(t u:TT):TT:=λσ H Q=>t σ H λc H1=>if c=true then u σ H1 Q else Q false H1
def tOr(t u:TT):TT:=λσ H Q=>t σ H λc H1=>if c=true then Q true H1 else u σ H1 Q
def zmi(t:TT):TT:=λσ H Q=>t σ H λc H1=>Q (!c) H1
def zeQ(ha:PT X a tA):PW X (.BoolOp .And [a] pos) tA:=by
 intro wh pins s σ H Q I h;refine isTrue_and (thn (ha pins s σ H Q I h) λc s1 e=>?_);cases c with
 |true=>exact isTrue_and_nil e
 |false=>exact e
def zh7(ha:PT X a tA):PW X (.BoolOp .Or [a] pos) tA:=by
 intro wh pins s σ H Q I h;refine isTrue_or (thn (ha pins s σ H Q I h) λc s1 e=>?_);cases c with
 |false=>exact isTrue_or_nil e
 |true=>exact e
def zgI(ha:PT X a tA)(hb:PW X (.BoolOp .And (b::rest) pos) tB'):PW X (.BoolOp .And (a::b::rest) pos) (zl0 tA tB'):=by
 intro wh pins s σ H Q I h;refine isTrue_and (thn (ha pins s σ H _ I h) λc s1 hz8=>?_);obtain⟨H1,I1,q1⟩:=hz8;cases c with
 |true=>exact hb wh pins s1 σ H1 Q I1 q1
 |false=>exact⟨H1,I1,q1⟩
def zkA(ha:PT X a tA)(hb:PW X (.BoolOp .Or (b::rest) pos) tB'):PW X (.BoolOp .Or (a::b::rest) pos) (tOr tA tB'):=by
 intro wh pins s σ H Q I h;refine isTrue_or (thn (ha pins s σ H _ I h) λc s1 hz8=>?_);obtain⟨H1,I1,q1⟩:=hz8;cases c with
 |true=>exact⟨H1,I1,q1⟩
 |false=>exact hb wh pins s1 σ H1 Q I1 q1
def zio(ha:PT X a tA):PT X (.UnaryOp .Not a pos) (zmi tA):=by intro pins s σ H Q I h;exact isTrue_not (ha pins s σ H (λc H1=>Q (!c) H1) I h)
def zjG(ta tb:TE):TE:=λσ H Q=>ta σ H λx H1=>∃c,x=.bl c/\if c=true then tb σ H1 Q else Q (.bl false) H1
def zku(ta:TE):TE:=λσ H Q=>ta σ H λx H1=>∃c,x=.bl c/\Q (.bl (!c)) H1
def zgw{op}{t:TE}(h:PE X a t):PE X (.BoolOp op [a] pos) t:=λpins s σ H Q I hw=>BoolOp_one (h pins s σ H Q I hw)
def zgH(ha:PE X a ta)(hb:PE X (.BoolOp .And (b::rest) pos) tb):PE X (.BoolOp .And (a::b::rest) pos) (zjG ta tb):=by
 intro pins s σ H Q I h;refine BoolOp_and (z2K (ha pins s σ H _ I h) λv s1 x H1 I1 r1 q1=>?_);obtain⟨c,rfl,q1⟩:=q1;cases r1;refine y11 ?_;cases c with
 |true=>exact hb pins s1 σ H1 Q I1 q1
 |false=>exact⟨.bl false,H1,I1,rfl,q1⟩
def ziL(ha:PE X a ta):PE X (.UnaryOp .Not a pos) (zku ta):=by intro pins s σ H Q I h;refine UnaryOp_ (z2K (ha pins s σ H _ I h) λv s1 x H1 I1 r1 q1=>?_);obtain⟨c,rfl,q1⟩:=q1;cases r1;exact not_of (y11 ⟨.bl (!c),H1,I1,rfl,q1⟩)
def tIf(t:TT)(ta tb:TE):TE:=λσ H Q=>t σ H λc H1=>if c=true then ta σ H1 Q else tb σ H1 Q
def zdx{c:Expr}(hc:PT X c tA)(ha:PE X a ta)(hb:PE X b tb):PE X (.IfExp c a b pos) (tIf tA ta tb):=by
 intro pins s σ H Q I h;refine wpAny_IfExp (thn (hc pins s σ H _ I h) λd s1 hz8=>?_);obtain⟨H1,I1,q1⟩:=hz8;cases d with
 |true=>exact ha pins s1 σ H1 Q I1 q1
 |false=>exact hb pins s1 σ H1 Q I1 q1
end
def SqL(K:yyF)(H:Hp)(a:Addr)(xs:List V):Prop :=
 Rd H a (.lst xs) \/
  ∃(o:Obj) (its:Array Value) (n:Nat),K.lookup a=some o/\o.cls=.type "list"/\o.dict=none/\o.data=.seq its n/\its.size<=sizeLine/\z0B xs its.toList
def SqT(K:yyF)(H:Hp)(a:Addr)(xs:List V):Prop :=
 Rd H a (.tup xs) \/
  ∃(o:Obj) (its:Array Value) (n:Nat),K.lookup a=some o/\o.cls=.type "tuple"/\o.data=.seq its n/\its.size<=sizeLine/\z0B xs its.toList
def zlV:Value->Option V
 |.none=>some .non
 |.bool b=>some (.bl b)
 |.int i _=>some (.int i)
 |.str x _=>some (.str x)
 |.bytes b _=>some (.byt b)
 |.float b _=>some (.flt b)
 |.ref a=>some (.ref a)
 |.type n=>some (.ty n)
 |_=>none
def z0y.abs{x:V}{u:Value}(r:z0y x u):zlV u=some x:=by
 cases x with
 |non=>cases r;rfl
 |bl _=>cases r;rfl
 |int _=>obtain⟨t,rfl⟩:=r;rfl
 |str _=>obtain⟨t,rfl⟩:=r;rfl
 |byt _=>obtain⟨t,rfl⟩:=r;rfl
 |flt _=>obtain⟨t,rfl⟩:=r;rfl
 |ref _=>cases r;rfl
 |ty _=>cases r;rfl
def z0y.inj{x y:V}{u:Value}(r:z0y x u)(q:z0y y u):x=y:=y06 (r.abs.symm.trans q.abs)
theorem z0B.inj:∀{xs ys:List V}{us:List Value},z0B xs us->z0B ys us->xs=ys
 |_,_,_,.nil,.nil=>rfl
 |_,_,_,.cons r t,.cons r' t'=>by rw[r.inj r',z0B.inj t t']
section
variable{X:Cx}{pins:yyP}{σ:St}{H:Hp}{s:Shared}{a:Addr}{xs ys:List V}
def SqL.of{K:yyF}(h:H a=some (.lst xs)):SqL K H a xs:=.inl (.inl h)
def SqT.of{K:yyF}(h:H a=some (.tup xs)):SqT K H a xs:=.inl (.inl h)
def Inv.list(I:Inv X pins σ H s)(h:SqL X.K H a xs):∃its:List Value,z0B xs its/\PlainL s.heap a its.toArray/\xs.length<=sizeLine:=by
 rcases h with h|⟨o,its,n,hk,hc,hd,hs,hz,r⟩
 .obtain⟨z,its,n,r,e⟩:=h.ok I.hok;exact⟨its,r,⟨_,n,e,rfl,rfl,rfl⟩,z⟩
 .refine⟨its.toList,r,⟨o,n,I.kIn a o hk,hc,hd,by simpa using hs⟩,?_⟩;have e:=r.length;simp only[y18]at e;lia
def Inv.tuple(I:Inv X pins σ H s)(h:SqT X.K H a xs):∃its:List Value,z0B xs its/\IsTup s.heap a its.toArray/\xs.length<=sizeLine:=by
 rcases h with h|⟨o,its,n,hk,hc,hs,hz,r⟩
 .obtain⟨z,its,n,r,e⟩:=h.ok I.hok;exact⟨its,r,⟨_,e,rfl,n,rfl⟩,z⟩
 .refine⟨its.toList,r,⟨o,I.kIn a o hk,hc,n,by simpa using hs⟩,?_⟩;have e:=r.length;simp only[y18]at e;lia
def Inv.list_inj(I:Inv X pins σ H s)(h:SqL X.K H a xs)(h':SqL X.K H a ys):xs=ys:=by
 obtain⟨its,r,⟨o,n,e,_,_,d⟩,_⟩:=I.list h;obtain⟨its',r',⟨o',n',e',_,_,d'⟩,_⟩:=I.list h';rw[e]at e';cases e';rw[d]at d';injection d' with d1 _;have:its=its':=by simpa using y1M Array.toList d1
 subst this;exact r.inj r'
def Inv.tuple_inj(I:Inv X pins σ H s)(h:SqT X.K H a xs)(h':SqT X.K H a ys):xs=ys:=by
 obtain⟨its,r,⟨o,e,_,n,d⟩,_⟩:=I.tuple h;obtain⟨its',r',⟨o',e',_,n',d'⟩,_⟩:=I.tuple h';rw[e]at e';cases e';rw[d]at d';injection d' with d1 _;have:its=its':=by simpa using y1M Array.toList d1
 subst this;exact r.inj r'
end
section
variable{X:Cx}{st:Stmt}{rest:List Stmt}{t u:TS}{e:Expr}{te:TE}{pos:Pos}
def zki:TS:=λD σ H=>D.nx σ H
def zmc(t u:TS):TS:=λD σ H=>t { D with nx:=u D } σ H
def zeX:PSs X [] zki:=λ_ _ σ H _ I h=>y2D ⟨σ,H,I,h⟩
def zbK(h1:PS X st t)(h2:PSs X rest u):PSs X (st::rest) (zmc t u):=by
 intro pins s σ H D I h;refine wpAny_execs_cons (thn (h1 pins s σ H { D with nx:=u D } I h) λf s1 q=>?_);cases f with
 |next =>
  obtain⟨σ',H',I',q⟩:=q;exact h2 pins s1 σ' H' D I' q
 |ret v=>exact q
 |brk=>exact q
 |cont=>exact q
def zb6(h1:PS X st t):PSs X [st] t:=by
 intro pins s σ H D I h;refine wpAny_execs_cons (thn (h1 pins s σ H D I h) λf s1 q=>?_);cases f with
 |next=>exact y2D q
 |ret v=>exact q
 |brk=>exact q
 |cont=>exact q
def Inv.quiet{pins:yyP}{σ:St}{H:Hp}{s:Shared}(I:Inv X pins σ H s):interactive X.env=false:=by simp[interactive,I.ok.kind]
def zja(te:TE):TS:=λD σ H=>te σ H λ_ H1=>D.nx σ H1
def zgb(he:PE X e te)(hs:swapsWith e none pos.line X.env=pure false:=by rfl):PS X (.Expr e pos) (zja te):=by intro pins s σ H D I h;exact wpAny_Expr_any (z2K (he pins s σ H _ I h) λv s1 x H1 I1 r1 q1=>⟨σ,H1,I1,q1⟩) I.quiet hs
def zm5(te:TE):TS:=λD σ H=>te σ H D.rt
def zhP(he:PE X e te):PS X (.Return (some e) pos) (zm5 te):=by intro pins s σ H D I h;exact wpAny_Return_some (z2K (he pins s σ H _ I h) λv s1 x H1 I1 r1 q1=>⟨x,σ,H1,I1,r1,q1⟩)
def zlF(c:TT)(t u:TS):TS:=λD σ H=>c σ H λb H1=>if b=true then t D σ H1 else u D σ H1
def zjW{c:Expr}{a b:List Stmt}{tc:TT}(hc:PT X c tc)(ha:PSs X a t)(hb:PSs X b u):PS X (.If c a b pos) (zlF tc t u):=by
 intro pins s σ H D I h;refine wpAny_If (thn (hc pins s σ H _ I h) λd s1 hz8=>?_);obtain⟨H1,I1,q1⟩:=hz8;cases d with
 |true=>exact ha pins s1 σ H1 D I1 q1
 |false=>exact hb pins s1 σ H1 D I1 q1
end
abbrev TG:=V->St->Hp->(St->Hp->Prop)->Prop
abbrev TGs:=List V->St->Hp->(St->Hp->Prop)->Prop
def PG(X:Cx)(target:Expr)(t:TG):Prop :=
 ∀(pins:yyP)(s:Shared)(σ:St)(H:Hp)(v:V)(u:Value)(Q:St->Hp->Prop),Inv X pins σ H s->z0y v u->t v σ H Q ->
  wpAny (model X.prog X.w) X.A (assign target X.env u) (λ_ s'=>∃σ' H',Inv X pins σ' H' s'/\Q σ' H') X.xe s
def PGs(X:Cx)(ts:List Expr)(t:TGs):Prop :=
 ∀(pins:yyP)(s:Shared)(σ:St)(H:Hp)(vs:List V)(us:List Value)(Q:St->Hp->Prop),Inv X pins σ H s->z0B vs us->t vs σ H Q ->
  wpAny (model X.prog X.w) X.A (assignInOrder ((assignEach ts X.env).map (·.2)) us) (λ_ s'=>∃σ' H',Inv X pins σ' H' s'/\Q σ' H') X.xe s
abbrev TIp:=V->V->Hp->VK->Prop
def PIp(X:Cx)(op:Operator)(t:TIp):Prop :=
 ∀(pins:yyP)(s:Shared)(σ:St)(H:Hp)(x y:V)(v u:Value)(Q:VK),Inv X pins σ H s->z0y x v->z0y y u->t x y H Q ->
  wpAny (model X.prog X.w) X.A (inplaceOp op v u) (EP X pins σ Q) X.xe s
section
variable{X:Cx}{pos:Pos}
def zhZ(i:Nat):TG:=λv σ H Q=>Q (σ.set i (some v)) H
def zeK{i:Nat}{x:Str}(hN:X.N.Nodup)(hi:X.N[i]?=some x)(hx:Loc X.env.scope x)(hf:X.fn x=true\/X.env.scope.names.lookup x=some .local:=by first|exact .inl rfl|exact .inr rfl|assumption):PG X (.Name x pos) (zhZ i):=by intro pins s σ H v u Q I r h;exact wpAny_assign_Name (z39 I hN hi hx r (λs' I'=>⟨_,H,I',h⟩) hf)
def zj1:TGs:=λvs σ H Q=>vs=[]/\Q σ H
def z6O(t:TG)(u:TGs):TGs:=λvs σ H Q=>∃v r,vs=v::r/\t v σ H λσ' H'=>u r σ' H' Q
def zen:PGs X [] zj1:=by intro pins s σ H vs us Q I r h;obtain⟨e,h⟩:=h;subst e;cases r;exact assignInOrder_nil ⟨σ,H,I,h⟩
def zc6{e:Expr}{es:List Expr}{t:TG}{u:TGs}(h1:PG X e t)(h2:PGs X es u)(hs:(assignEach (e::es) X.env).map (·.2)=assign e X.env::(assignEach es X.env).map (·.2):=by rfl):PGs X (e::es) (z6O t u):=by
 intro pins s σ H vs us Q I r h;obtain⟨v,vr,e1,h⟩:=h;subst e1;cases r with
 |cons r rr =>
  rw[hs];refine assignInOrder_cons (thn (h1 pins s σ H _ _ _ I r h) λ_ s1 hz8=>?_);obtain⟨σ1,H1,I1,q1⟩:=hz8;exact h2 pins s1 σ1 H1 _ _ Q I1 rr q1
def zj7(K:yyF)(n:Nat)(t:TGs):TG:=λv σ H Q=>∃a xs,v=.ref a/\SqT K H a xs/\xs.length=n/\t xs σ H Q
def zhE{es:List Expr}{k:Nat}{t:TGs}{n:Nat}(hc:X.calm=true)(h:PGs X es t)(hn:(assignEach es X.env).length=n:=by rfl)(hst:(assignEach es X.env).findIdx? (·.1)=none:=by rfl):PG X (.Tuple es k pos) (zj7 X.K n t):=by intro pins s σ H v u Q I r hw;obtain⟨a,xs,e1,hq,hl,hw⟩:=hw;subst e1;cases r;obtain⟨its,rv,ht,hz⟩:=I.tuple hq;refine assign_Tuple_tuple (I.ok.hd hc) ht (by simp[hn,<-hl,rv.length]) hst λh' hx=>?_;have I1:Inv X pins σ H { s with heap:=h' }:=I.kept (t':=s.toks) λb o e=>hx b o (y0i (y05 e)) e;exact h pins _ σ H xs _ Q I1 (by simpa using rv) hw
def zkH(te:TE)(g:TG):TS:=λD σ H=>te σ H λx H1=>g x σ H1 D.nx
def zhx{tg e:Expr}{te:TE}{g:TG}(he:PE X e te)(hg:PG X tg g)(hs:swapsWithSole [tg] e pos.line X.env=pure false:=by rfl)(hw:swappedStores [tg] e X.env=pure none:=by rfl)(h1:(assignEach [tg] X.env).map (·.2)=[assign tg X.env]:=by rfl):PS X (.Assign [tg] e pos) (zkH te g):=by intro pins s σ H D I h;refine wpAny_Assign_stores (z2K (he pins s σ H _ I h) λv s1 x H1 I1 r1 q1=>?_) hs hw;rw[h1];exact thn (hg pins s1 σ H1 x v _ I1 r1 q1) λ_ s2 q=>q
def zht{i:Nat}{x:Str}{e:Expr}{te:TE}{pos':Pos}(hN:X.N.Nodup)(hi:X.N[i]?=some x)(hx:Loc X.env.scope x)(he:PE X e te)(hs:swapsWith e (some (.Name x pos')) pos.line X.env=pure false:=by rfl)(hf:X.fn x=true\/X.env.scope.names.lookup x=some .local:=by first|exact .inl rfl|exact .inr rfl|assumption) : PS X (.Assign [.Name x pos'] e pos) (zkH te (zhZ i)):=by intro pins s σ H D I h;refine wpAny_Assign_Name (z2K (he pins s σ H _ I h) λv s1 y H1 I1 r1 q1=>?_) hs;exact z39 I1 hN hi hx r1 (λs2 I2=>⟨_,H1,I2,q1⟩) hf
def zlH(i:Nat)(te:TE)(ti:TIp):TS:=λD σ H=>∃x,σ[i]?=some (some x)/\te σ H λy H1=>ti x y H1 λz H2=>D.nx (σ.set i (some z)) H2
def zhU{i:Nat}{x:Str}{e:Expr}{te:TE}{op:Operator}{ti:TIp}{pos':Pos}(hN:X.N.Nodup)(hi:X.N[i]?=some x)(hx:Loc X.env.scope x)(he:PE X e te)(ho:PIp X op ti)(hf:X.fn x=true\/X.env.scope.names.lookup x=some .local:=by first|exact .inl rfl|exact .inr rfl|assumption) : PS X (.AugAssign (.Name x pos') op e pos) (zlH i te ti):=by
 intro pins s σ H D I h;obtain⟨v,e1,h⟩:=h;obtain⟨m,hn,hl⟩:=I.loc;have vis:Vis X.env.scope x:=by rcases hx with k|k;exact .inl k;exact .inr (.inl k)
 obtain⟨u,r,l⟩:=hl i x v hi e1 vis;refine wpAny_AugAssign_Name ?_;have go:wpAny (model X.prog X.w) X.A (eval e X.env) (λw s₂=>wpAny (model X.prog X.w) X.A (inplaceOp op u w) (λr s₃=>wpAny (model X.prog X.w) X.A (storeName X.env x r) (λ_=>SP X pins D .next) X.xe s₃) X.xe s₂) X.xe s:=by refine z2K (he pins s σ H _ I h) λw s1 y H1 I1 r1 q1=>?_;refine z2K (ho pins s1 σ H1 v y u w _ I1 r r1 q1) λz s2 zv H2 I2 r2 q2=>?_;exact z39 I2 hN hi hx r2 (λs3 I3=>⟨_,H2,I3,q2⟩) hf
 rcases l with⟨hk,hm⟩|⟨hk,c,hc,hcell⟩
 .exact wpAny_loadName_local I.ok.kind hk hn hm go
 .rcases hk with hk|hk
  .exact wpAny_loadName_cell I.ok.kind hk hc hcell go
  .rcases hx with k|k
   .have:X.env.scope.names.lookup x=some .free:=hk;rw[k]at this;cases this
   .have:X.env.scope.names.lookup x=some .free:=hk;rw[k]at this;cases this
def zhr(c:TT)(tb:TS):TS:=λD σ H=>∃W:Nat->St->Hp->Prop,(∃m,W m σ H)/\∀m σ H,W m σ H ->
 c σ H λb H1=>if b=true then ∃N:St->Hp->Prop,(∀σ' H',N σ' H'->∃m',m'<m/\W m' σ' H')/\tb { D with nx:=N,ct:=N,bk:=D.nx } σ H1 else D.nx σ H1
def zcT{c:Expr}{body:List Stmt}{tc:TT}{tb:TS}(hp:PassesOwn (model X.prog X.w) X.A X.env X.xe)(hc:PT X c tc)(hb:PSs X body tb):PS X (.While c body [] pos) (zhr tc tb):=by
 intro pins s σ H D I h;obtain⟨W,⟨m0,w0⟩,turn⟩:=h;refine wpAny_While (codeAny_whileLoop (λn s'=>∃σ' H',Inv X pins σ' H' s'/\W n σ' H') ?_ m0 ⟨σ,H,I,w0⟩);rintro n s1 ⟨σ1,H1,I1,w1⟩;refine y1S hp (thn (hc pins s1 σ1 H1 _ I1 (turn n σ1 H1 w1)) λb s2 hz8=>?_);obtain⟨H2,I2,q2⟩:=hz8;cases b with
 |true =>
  obtain⟨N,hN,q2⟩:=q2;rw[if_pos rfl];refine y1S hp (thn (hb pins s2 σ1 H2 _ I2 q2) λf s3 q3=>?_);cases f with
  |next =>
   obtain⟨σ3,H3,I3,n3⟩:=q3;obtain⟨m',hm,w3⟩:=hN σ3 H3 n3;exact⟨m',hm,σ3,H3,I3,w3⟩
  |cont =>
   obtain⟨σ3,H3,I3,n3⟩:=q3;obtain⟨m',hm,w3⟩:=hN σ3 H3 n3;exact⟨m',hm,σ3,H3,I3,w3⟩
  |brk=>exact q3
  |ret v=>exact q3
 |false =>
  rw[if_neg y0s];exact y2D ⟨σ1,H2,I2,q2⟩
end
structure It where
 go:Nat->Hp->Prop
 yld:Nat->Hp->V->Hp->Prop
 stop:Nat->Hp->Prop
def z52(X:Cx)(pins:yyP)(H:Hp)(b:Addr):Prop :=
 H b=none/\b≠X.env.locals/\b∉X.fs/\(b∈X.ex\/X.s₀.heap.objs.size<=b)/\(∀x c,X.env.cells.lookup x=some c->c≠b)/\∀p∈X.pn++pins,p.1≠b
def Inv.fpOk{X:Cx}{pins:yyP}{σ:St}{H H':Hp}{s:Shared}{b:Addr}(I:Inv X pins σ H s)(hb:s.heap.objs.size<=b)(hn:H' b=none):z52 X pins H' b:=by
 refine⟨hn,y3o (y0h I.lt hb),I.nofs hb,.inr (y0e I.sz hb),λx c e z=>?_,λp hp z=>?_⟩
 .obtain⟨v,q⟩:=I.cell x c e;exact absurd (y0h q.lt (by rw[z];exact hb)) (y1X _)
 .exact absurd (y0h (y05 (I.pin p hp).1) (by rw[z];exact hb)) (y1X _)
structure z9w(P:Program)(w:World)(K:yyF)(tg:Expr)(J:It)(fp:List Addr)(it:Addr)(tn:Nat->Heap->Prop):Prop where
 mem:it∈fp
 obj:∀i h,tn i h->∀b∈fp,∃o,h.get? b=some o/\∀v,o.data≠.cell v
 keep:∀i h h',tn i h->(∀b∈fp,∀o,h.get? b=some o->h'.get? b=some o)->tn i h'
 item:∀(X:Cx),X.prog=P->X.w=w->X.K=K->X.calm=true->∀(i:Nat)(pins:yyP)(s:Shared)(σ:St)(H:Hp)(E:yyE),Inv X pins σ H s->(∀b∈fp,z52 X pins H b)->tn i s.heap->J.go i H ->
  wpAny (model P w) X.A (pyNext (.ref it)) (λr s1=>∃u,r=some u /\
   wpAny (model P w) X.A (letOwnedTupleGo tg (.ref it) u) (λ_ s2=>∃x H',Inv X pins σ H' s2/\z0y x u/\J.yld i H x H'/\tn (i+1) s2.heap/\∀b∈fp,H' b=none) E s1) E s
 done:∀(X:Cx),X.prog=P->X.w=w->X.K=K->X.calm=true->∀(i:Nat)(pins:yyP)(s:Shared)(σ:St)(H:Hp)(E:yyE),Inv X pins σ H s->(∀b∈fp,z52 X pins H b)->tn i s.heap->J.stop i H ->
  wpAny (model P w) X.A (pyNext (.ref it)) (λr s1=>r=none/\Inv X pins σ H s1) E s
 self:∀(A:Around)(i:Nat)(s:Shared)(Q:yyE)(E:yyE),tn i s.heap->Q (.ref it) s->wpAny (model P w) A (pyIter (.ref it)) Q E s
abbrev TI:=St->Hp->(It->Hp->Prop)->Prop
def PIE(X:Cx)(pins:yyP)(σ:St)(tg:Expr)(R:It->Hp->Prop)(itv:Value)(s2:Shared):Prop :=
 ∃(it:Addr)(fp:List Addr)(tn:Nat->Heap->Prop)(J:It)(H':Hp),itv=.ref it/\Inv X pins σ H' s2/\z9w X.prog X.w X.K tg J fp it tn/\tn 0 s2.heap/\(∀b∈fp,z52 X pins H' b)/\R J H'
def PI(X:Cx)(tg iter:Expr)(wi:TI):Prop :=
 ∀(pins:yyP)(s:Shared)(σ:St)(H:Hp)(R:It->Hp->Prop),Inv X pins σ H s->wi σ H R ->
  wpAny (model X.prog X.w) X.A (eval iter X.env) (λv s1=>wpAny (model X.prog X.w) X.A (pyIter v) (PIE X pins σ tg R) X.xe s1) X.xe s
def z9i{M:Model}{A:Around}{E:yyE}{s:Shared}{tg:Expr}{it:Addr}{u:Value}{o:Obj}{n:String}{vs:Array Value}{Q:Unit->Shared->Prop}(ho:s.heap.get? it=some o)(hc:o.cls=.type n)(hd:o.data=.fields vs)(hn:["enumerate","zip","dict_itemiterator","dict_reverseitemiterator","odict_iterator","itertools.zip_longest","itertools.pairwise"].contains n=false)(hQ:Q () s):wpAny M A (letOwnedTupleGo tg (.ref it) u) Q E s:=by
 unfold letOwnedTupleGo;cases tg<;>first
  |exact y03 hQ
  | (cases u<;>first
    |exact y03 hQ
    | (refine y00 (wpAny_load ho ?_)
       rw[hc,hd];show wpAny M A (if(["enumerate","zip","dict_itemiterator","dict_reverseitemiterator","odict_iterator","itertools.zip_longest","itertools.pairwise"].contains n&&vs[0]?==some (rawInt _))=true then _ else _) Q E s;rw[if_neg (by intro h;rw[hn,y2Z]at h;cases h)];exact y03 hQ))
def Itl(K:yyF)(a:Addr):It :=
 ⟨λi H=>∃xs x,SqL K H a xs/\xs[i]?=some x,λi H x H'=>H'=H/\∀xs,SqL K H a xs->xs[i]?=some x,λi H=>∃xs,SqL K H a xs/\xs.length<=i⟩
def Itt(K:yyF)(a:Addr):It :=
 ⟨λi H=>∃xs x,SqT K H a xs/\xs[i]?=some x,λi H x H'=>H'=H/\∀xs,SqT K H a xs->xs[i]?=some x,λi H=>∃xs,SqT K H a xs/\xs.length<=i⟩
def Itr(lo:Int)(n:Nat):It:=⟨λi _=>i<n,λi H x H'=>H'=H/\x=.int (lo+i),λi _=>n<=i⟩
def zai{P:Program}{w:World}{K:yyF}{tg:Expr}(a it:Addr):z9w P w K tg (Itl K a) [it] it (λi h=>h.IsListIter it a i) where
 mem:=by simp
 obj:=λi h st b hb=>by
  have e:b=it:=by simpa using hb
  subst e;obtain⟨o,e,c,d⟩:=st;exact⟨o,e,λv z=>by rw[d]at z;cases z⟩
 keep:=λi h h' st k=>st.at λo e=>k it (by simp) o e
 item:=by intro X hP hw hK hc i pins s σ H E I hf st hg;subst hP hw hK;obtain⟨xs,x,hq,hx⟩:=hg;obtain⟨its,rv,p,hz⟩:=I.list hq;obtain⟨u,hu,ru⟩:=rv.get hx;obtain⟨f0,f1,f2,f3,f4,f5⟩:=hf it (by simp);refine wpAny_pyNext_list_item st p.isList (x:=u) (by simpa using hu) λh' st' sb=>?_;have I1:Inv X pins σ H { s with heap:=h' }:=I.turned (t':=s.toks) (λb o hb e=>(sb.2 b hb).trans e) f0 f1 f3 f4 f5;obtain⟨o,e,c,d⟩:=id st';exact⟨u,rfl,z9i (s:={ s with heap:=h' }) e c d (by decide) ⟨x,H,I1,ru,⟨rfl,λys hy=>by rw[I.list_inj hy hq];exact hx⟩,st',λb hb=>(hf b hb).1⟩⟩
 done:=by intro X hP hw hK hc i pins s σ H E I hf st hg;subst hP hw hK;obtain⟨xs,hq,hx⟩:=hg;obtain⟨its,rv,p,hz⟩:=I.list hq;obtain⟨f0,f1,f2,f3,f4,f5⟩:=hf it (by simp);have hl:=rv.length;exact wpAny_pyNext_list_end (I.ok.hd hc) st p.isList (by simp;lia) λh' eb=>⟨rfl,I.turned (t':=s.toks) (λb o hb e=>eb b o hb e) f0 f1 f3 f4 f5⟩
 self:=λ_ _ _ _ _ st h=>wpAny_pyIter_listiter st h
def z8S{P:Program}{w:World}{K:yyF}{tg:Expr}(a it:Addr):z9w P w K tg (Itt K a) [it] it (λi h=>h.IsTupleIter it a i) where
 mem:=by simp
 obj:=λi h st b hb=>by
  have e:b=it:=by simpa using hb
  subst e;obtain⟨o,e,c,d⟩:=st;exact⟨o,e,λv z=>by rw[d]at z;cases z⟩
 keep:=λi h h' st k=>st.at λo e=>k it (by simp) o e
 item:=by intro X hP hw hK hc i pins s σ H E I hf st hg;subst hP hw hK;obtain⟨xs,x,hq,hx⟩:=hg;obtain⟨its,rv,p,hz⟩:=I.tuple hq;obtain⟨u,hu,ru⟩:=rv.get hx;obtain⟨f0,f1,f2,f3,f4,f5⟩:=hf it (by simp);refine wpAny_pyNext_tuple_item st (show s.heap.IsTuple a its.toArray from p) (x:=u) (by simpa using hu) λh' st' sb=>?_;have I1:Inv X pins σ H { s with heap:=h' }:=I.turned (t':=s.toks) (λb o hb e=>(sb.2 b hb).trans e) f0 f1 f3 f4 f5;obtain⟨o,e,c,d⟩:=id st';exact⟨u,rfl,z9i (s:={ s with heap:=h' }) e c d (by decide) ⟨x,H,I1,ru,⟨rfl,λys hy=>by rw[I.tuple_inj hy hq];exact hx⟩,st',λb hb=>(hf b hb).1⟩⟩
 done:=by intro X hP hw hK hc i pins s σ H E I hf st hg;subst hP hw hK;obtain⟨xs,hq,hx⟩:=hg;obtain⟨its,rv,p,hz⟩:=I.tuple hq;obtain⟨f0,f1,f2,f3,f4,f5⟩:=hf it (by simp);have hl:=rv.length;exact wpAny_pyNext_tuple_end (I.ok.hd hc) st (show s.heap.IsTuple a its.toArray from p) (by simp;lia) λh' eb=>⟨rfl,I.turned (t':=s.toks) (λb o hb e=>eb b o hb e) f0 f1 f3 f4 f5⟩
 self:=λ_ _ _ _ _ st h=>wpAny_pyIter_tupleiter st h
def z8R{P:Program}{w:World}{K:yyF}{tg:Expr}(it:Addr)(lo:Int)(n:Nat):z9w P w K tg (Itr lo n) [it] it (λi h=>IsRangeIter h it (lo+(i:Nat)*1) ((n:Int)-(i:Nat)) 1) where
 mem:=by simp
 obj:=λi h st b hb=>by
  have e:b=it:=by simpa using hb
  subst e;exact⟨_,st,λv z=>by have z':Data.fields _=Data.cell v:=z;cases z'⟩
 keep:=λi h h' st k=>k it (by simp) _ st
 item:=by intro X hP hw hK hc i pins s σ H E I hf st hg;subst hP hw hK;obtain⟨f0,f1,f2,f3,f4,f5⟩:=hf it (by simp);have W:=Walks.range (prog:=X.prog) (w:=X.w) (I.ok.hd hc) it lo 1 n;refine W.item i s _ _ hg st λv h' tk hv st' kk=>?_;obtain⟨t,rfl⟩:=hv;have I1:Inv X pins σ H { s with heap:=h',toks:=tk }:=I.turned (λb o hb e=>kk b o (by simpa using hb) e) f0 f1 f3 f4 f5;refine⟨_,rfl,z9i (s:={ s with heap:=h',toks:=tk }) (n:="range_iterator") st' rfl rfl (by decide) ⟨.int (lo+i),H,I1,⟨t,?_⟩,⟨rfl,rfl⟩,st',λb hb=>(hf b hb).1⟩⟩;rw[Int.mul_one]
 done:=by intro X hP hw hK hc i pins s σ H E I hf st hg;subst hP hw hK;obtain⟨f0,f1,f2,f3,f4,f5⟩:=hf it (by simp);exact wpAny_pyNext_range_end (I.ok.hd hc) st (by have:n<=i:=hg;lia) λh' eb=>⟨rfl,I.turned (t':=s.toks) (λb o hb e=>eb b o hb e) f0 f1 f3 f4 f5⟩
 self:=λ_ _ _ _ _ st h=>wpAny_pyIter_rangeiter st h
section
variable{X:Cx}{tg:Expr}
def z8q{pins:yyP}{σ:St}{H:Hp}{s:Shared}{R:It->Hp->Prop}{E:yyE}{lo hi:Int}{t u v:Tok}{tk:Nat}(I:Inv X pins σ H s)(h1:-(2^62)<=lo)(h2:lo<2^62)(h3:-(2^62)<=hi)(h4:hi<2^62)(q:R (Itr lo (hi-lo).toNat) H):wpAny (model X.prog X.w) X.A (pyIter (.ref s.heap.objs.size)) (PIE X pins σ tg R) E { s with heap:=s.heap.push { cls:=.type "range",data:=.fields #[.int lo t,.int hi u,.int 1 v] },toks:=tk }:=by
 refine wpAny_pyIter_range (IsRange.new ..) (small_one h1 h2 h3 h4) ?_;have I1:Inv X pins σ H { s with heap:=s.heap.push { cls:=.type "range",data:=.fields #[.int lo t,.int hi u,.int 1 v] },toks:=tk }:=I.kept λb o e=>y02 _ e;refine⟨(s.heap.push { cls:=.type "range",data:=.fields #[.int lo t,.int hi u,.int 1 v] }).objs.size,[(s.heap.push { cls:=.type "range",data:=.fields #[.int lo t,.int hi u,.int 1 v] }).objs.size],_,_,H,rfl,
  I1.kept (t':=tk) λb o e=>y02 _ e,z8R _ lo (hi-lo).toNat,?_,λb hb=>?_,q⟩
 .have e1:lo+((0:Nat):Int)*1=lo:=by simp
  have e2:(((hi-lo).toNat:Nat):Int)-((0:Nat):Int)=Builtin.Range.rangeSize lo hi 1:=by rw[rangeSize_one];split<;>lia
  show IsRangeIter _ _ (lo+((0:Nat):Int)*1) ((((hi-lo).toNat:Nat):Int)-((0:Nat):Int)) 1;rw[e1,e2];exact y04 _ rfl
 .have e:b=(s.heap.push { cls:=.type "range",data:=.fields #[.int lo t,.int hi u,.int 1 v] }).objs.size:=by simpa using hb
  subst e;exact I1.fpOk (y09 _) (I1.hok.fresh (y09 _))
def zkd(ta:TA):TI:=λσ H R=>ta σ H λvs H1=>∃j:Int,vs=[.int j]/\-(2^62)<=j/\j<2^62/\R (Itr 0 j.toNat) H1
def zjP(ta:TA):TI:=λσ H R=>ta σ H λvs H1=>∃i j:Int,vs=[.int i,.int j]/\(-(2^62)<=i/\i<2^62/\-(2^62)<=j/\j<2^62)/\R (Itr i (j-i).toNat) H1
def zaI{a:Expr}{ta:TA}{p pos:Pos}(hg:Gl X "range")(hm:X.mg "range"=none)(ha:PA X [a] ta)(hs:starEach [a] X.env=[(false,eval a X.env)]:=by rfl):PI X tg (.Call (.Name "range" p) [a] [] pos) (zkd ta):=by
 intro pins s σ H R I h;refine Call_ (z3Q I hg hm boot_range (y1C (thn (ha pos pins s σ H _ I h) λus s1 hz8=>?_) hs rfl));obtain⟨vs,H1,I1,r1,q1⟩:=hz8;obtain⟨j,e,q1,q2,q⟩:=q1;subst e;cases r1 with
 |cons r rr =>
  cases rr;obtain⟨t,rfl⟩:=r;exact call_range_1 (z8q I1 (by lia) (by lia) q1 q2 (by simpa using q))
def zaf{a b:Expr}{ta:TA}{p pos:Pos}(hg:Gl X "range")(hm:X.mg "range"=none)(ha:PA X [a,b] ta)(hs:starEach [a,b] X.env=[(false,eval a X.env),(false,eval b X.env)]:=by rfl)(hs2:starEach [b] X.env=[(false,eval b X.env)]:=by rfl) : PI X tg (.Call (.Name "range" p) [a,b] [] pos) (zjP ta):=by
 intro pins s σ H R I h;refine Call_ (z3Q I hg hm boot_range (y1C (thn (ha pos pins s σ H _ I h) λus s1 hz8=>?_) (by rw[hs,hs2]) (by rw[hs2];rfl)));obtain⟨vs,H1,I1,r1,q1⟩:=hz8;obtain⟨i,j,e,⟨q1,q2,q3,q4⟩,q⟩:=q1;subst e;cases r1 with
 |cons r rr =>
  cases rr with
  |cons r' rr =>
   cases rr;obtain⟨t,rfl⟩:=r;obtain⟨t',rfl⟩:=r';exact call_range_2 (z8q I1 q1 q2 q3 q4 q)
def zm7(wi:TI)(g:TG)(tb:TS):TS:=λD σ H=>wi σ H λJ H1=>∃W:Nat->Nat->St->Hp->Prop,(∃m,W 0 m σ H1)/\∀i m σ H,W i m σ H ->
 (J.stop i H/\D.nx σ H)\/(J.go i H/\∃N:St->Hp->Prop,(∀σ' H',N σ' H'->∃m',m'<m/\W (i+1) m' σ' H')/\∀x H',J.yld i H x H'->g x σ H' λσ2 H2=>tb { D with nx:=N,ct:=N,bk:=D.nx } σ2 H2)
def z5z(fp:List Addr)(h:Heap):yyP:=fp.filterMap λb=>(h.get? b).map λo=>(b,o)
def z28{fp:List Addr}{h:Heap}{b:Addr}{o:Obj}(hb:b∈fp)(e:h.get? b=some o):(b,o)∈z5z fp h:=y2E.mpr ⟨b,hb,by rw[e];rfl⟩
def zbd{fp:List Addr}{h:Heap}{p:Addr × Obj}(hp:p∈z5z fp h):p.1∈fp/\h.get? p.1=some p.2:=by
 obtain⟨b,hb,e⟩:=y2E.mp hp;cases q:h.get? b with
 |none=>rw[q]at e;cases e
 |some o =>
  rw[q]at e;have e':(b,o)=p:=y06 e;subst e';exact⟨hb,q⟩
def Inv.pinned{pins:yyP}{σ:St}{H:Hp}{s:Shared}{fp:List Addr}(I:Inv X pins σ H s)(hf:∀b∈fp,z52 X pins H b)(ho:∀b∈fp,∃o,s.heap.get? b=some o/\∀v,o.data≠.cell v):Inv X (pins++z5z fp s.heap) σ H s :=
 I.pins_of λp hp=>(y1c.mp hp).elim (λz=>I.pin p (y0O _ z)) λz=>by obtain⟨hb,e⟩:=zbd z;obtain⟨f0,f1,f2,_⟩:=hf p.1 hb;obtain⟨o,e',d⟩:=ho p.1 hb;rw[e]at e';cases e';exact⟨e,f0,f1,f2,d⟩
def Inv.unpinned{pins pl:yyP}{σ:St}{H:Hp}{s:Shared}(I:Inv X (pins++pl) σ H s):Inv X pins σ H s:=I.pins_of λp hp=>I.pin p (y0O _ (y1f _ hp))
def ziB{iter:Expr}{body:List Stmt}{wi:TI}{g:TG}{tb:TS}{pos:Pos}(hp:PassesOwn (model X.prog X.w) X.A X.env X.xe)(hc:X.calm=true)(hi:PI X tg iter wi)(hg:PG X tg g)(hb:PSs X body tb)(hs:∀x,foldedSetIterable iter X.env x=pure x:=by intro _;rfl):PS X (.For tg iter body [] pos) (zm7 wi g tb):=by
 intro pins s σ H D I h;refine wpAny_For (thn (hi pins s σ H _ I h) λv s1 h1=>thn h1 λitv s2 h2=>?_) hs;obtain⟨it,fp,tn,J,H2,e,I2,T,st2,f2,W,⟨m0,w0⟩,turn⟩:=h2;subst e;have stat:∀{H':Hp},(∀b∈fp,H' b=none)->∀b∈fp,z52 X pins H' b:=λhn b hb=>⟨hn b hb,(f2 b hb).2⟩;refine codeAny_forLoop_any (λn s'=>∃i σ' H',Inv X pins σ' H' s'/\tn i s'.heap/\(∀b∈fp,H' b=none)/\W i n σ' H') ?_ m0 ⟨0,σ,H2,I2,st2,λb hb=>(f2 b hb).1,w0⟩;rintro n s3 ⟨i,σ3,H3,I3,st3,fr3,w3⟩;rcases turn i n σ3 H3 w3 with⟨stop,qn⟩|⟨go,N,hN,step⟩
 .refine y1S hp (thn (T.done X rfl rfl rfl hc i pins s3 σ3 H3 X.xe I3 (stat fr3) st3 stop) λr s4 hz8=>?_);obtain⟨hr,I4⟩:=hz8;subst hr;exact y2D ⟨σ3,H3,I4,qn⟩
 .refine y1S hp (thn (T.item X rfl rfl rfl hc i pins s3 σ3 H3 X.xe I3 (stat fr3) st3 go) λr s4 hz8=>?_);obtain⟨u,hr,h4⟩:=hz8;subst hr;refine y1S hp (thn h4 λ_ s5 hz8=>?_);obtain⟨x,H5,I5,r5,y5,st5,fr5⟩:=hz8;have I5':=I5.pinned (stat fr5) (T.obj _ _ st5);refine y1S hp (thn (hg _ s5 σ3 H5 x u _ I5' r5 (step x H5 y5)) λ_ s6 hz8=>?_);obtain⟨σ6,H6,I6,q6⟩:=hz8;refine y1S hp (thn (hb _ s6 σ6 H6 _ I6 q6) λf s7 q7=>?_);have again:∀{σ7:St}{H7:Hp},Inv X (pins++z5z fp s5.heap) σ7 H7 s7->N σ7 H7->∃m,m<n/\∃i σ' H',Inv X pins σ' H' s7/\tn i s7.heap/\(∀b∈fp,H' b=none)/\W i m σ' H':=λ{σ7 H7} I7 n7=>by
   obtain⟨m',hm,w7⟩:=hN σ7 H7 n7;refine⟨m',hm,i+1,σ7,H7,I7.unpinned,T.keep _ _ _ st5 λb hb o e=>(I7.pin (b,o) (y0O _ (y0O _ (z28 hb e)))).1,λb hb=>?_,w7⟩;obtain⟨o,e,d⟩:=T.obj _ _ st5 b hb;exact(I7.pin (b,o) (y0O _ (y0O _ (z28 hb e)))).2.1
  cases f with
  |next=>obtain⟨σ7,H7,I7,n7⟩:=q7;exact again I7 n7
  |cont=>obtain⟨σ7,H7,I7,n7⟩:=q7;exact again I7 n7
  |brk=>obtain⟨σ7,H7,I7,q7⟩:=q7;exact⟨σ7,H7,I7.unpinned,q7⟩
  |ret v=>obtain⟨x7,σ7,H7,I7,r7,q7⟩:=q7;exact⟨x7,σ7,H7,I7.unpinned,r7,q7⟩
end
abbrev R2:=V->V->Hp->VK->Prop
def OpR(X:Cx)(f:Value->Value->Sem Value)(r:R2):Prop :=
 ∀(pins:yyP)(s:Shared)(σ:St)(H:Hp)(x y:V)(v u:Value)(Q:VK),Inv X pins σ H s->z0y x v->z0y y u->r x y H Q ->
  wpAny (model X.prog X.w) X.A (f v u) (EP X pins σ Q) X.xe s
def UnR(X:Cx)(f:Value->Sem Value)(r:V->Hp->VK->Prop):Prop :=
 ∀(pins:yyP)(s:Shared)(σ:St)(H:Hp)(x:V)(v:Value)(Q:VK),Inv X pins σ H s->z0y x v->r x H Q ->
  wpAny (model X.prog X.w) X.A (f v) (EP X pins σ Q) X.xe s
def z0G(X:Cx)(f:Value)(r:List V->Hp->VK->Prop):Prop :=
 ∀(pins:yyP)(s:Shared)(σ:St)(H:Hp)(xs:List V)(us:List Value)(Q:VK),Inv X pins σ H s->z0B xs us->r xs H Q ->
  wpAny (model X.prog X.w) X.A (call f us) (EP X pins σ Q) X.xe s
def zlT(X:Cx)(r:V->Hp->(Bool->Hp->Prop)->Prop):Prop :=
 ∀(pins:yyP)(s:Shared)(σ:St)(H:Hp)(x:V)(v:Value)(Q:Bool->Hp->Prop),Inv X pins σ H s->z0y x v->r x H Q ->
  wpAny (model X.prog X.w) X.A (truthy v) (TP X pins σ Q) X.xe s
def tOp(r:R2)(ta tb:TE):TE:=λσ H Q=>ta σ H λx H1=>tb σ H1 λy H2=>r x y H2 Q
def tUn(r:V->Hp->VK->Prop)(ta:TE):TE:=λσ H Q=>ta σ H λx H1=>r x H1 Q
def rI(C:Int->Int->Prop)(g:Int->Int->V):R2:=λx y H Q=>∃i j,x=.int i/\y=.int j/\C i j/\Q (g i j) H
def rI0(g:Int->Int->V):R2:=λx y H Q=>∃i j,x=.int i/\y=.int j/\Q (g i j) H
def rU(g:Int->V):V->Hp->VK->Prop:=λx H Q=>∃i,x=.int i/\Q (g i) H
section
variable{X:Cx}{a b c:Expr}{ta tb tc:TE}{pos:Pos}
def zjK(ha:PE X a ta)(hb:PE X b tb){pins:yyP}{s:Shared}{σ:St}{H:Hp}{R:V->V->Hp->Prop}(I:Inv X pins σ H s)(h:ta σ H λx H1=>tb σ H1 λy H2=>R x y H2){Q:yyE}{f:Value->Value->Sem Value}(hf:∀v u s2 x y H2,Inv X pins σ H2 s2->z0y x v->z0y y u->R x y H2->wpAny (model X.prog X.w) X.A (f v u) Q X.xe s2) : wpAny (model X.prog X.w) X.A (eval a X.env) (λv s₁=>wpAny (model X.prog X.w) X.A (eval b X.env) (λu s₂=>wpAny (model X.prog X.w) X.A (f v u) Q X.xe s₂) X.xe s₁) X.xe s:=by refine z2K (ha pins s σ H _ I h) λv s1 x H1 I1 r1 q1=>?_;refine z2K (hb pins s1 σ H1 _ I1 q1) λu s2 y H2 I2 r2 q2=>?_;exact hf v u s2 x y H2 I2 r1 r2 q2
def zjN{op:Operator}{r:R2}(ho:OpR X (binaryOp op) r)(ha:PE X a ta)(hb:PE X b tb):PE X (.BinOp a op b pos) (tOp r ta tb):=by intro pins s σ H Q I h;exact wpAny_BinOp (zjK ha hb I h λv u s2 x y H2 I2 rx ry q=>ho pins s2 σ H2 x y v u Q I2 rx ry q)
def zk4{op:UnaryOp}{r:V->Hp->VK->Prop}(ho:UnR X (unaryOp op) r)(ha:PE X a ta):PE X (.UnaryOp op a pos) (tUn r ta):=by intro pins s σ H Q I h;exact UnaryOp_ (z2K (ha pins s σ H _ I h) λv s1 x H1 I1 r1 q1=>ho pins s1 σ H1 x v Q I1 r1 q1)
def opI{f:Value->Value->Sem Value}{C:Int->Int->Prop}{g:Int->Int->Int}(rule:∀(i j:Int)(t u:Tok)(s:Shared)(Q:yyE)(E:yyE),C i j->Q (.int (g i j) s.toks) { s with toks:=s.toks+1 }->wpAny (model X.prog X.w) X.A (f (.int i t) (.int j u)) Q E s) : OpR X f (rI C λi j=>.int (g i j)):=by intro pins s σ H x y v u Q I rx ry h;obtain⟨i,j,rfl,rfl,hc,q⟩:=h;obtain⟨t,rfl⟩:=rx;obtain⟨t',rfl⟩:=ry;exact rule i j t t' s _ _ hc ⟨.int (g i j),H,I.tok _,⟨_,rfl⟩,q⟩
def zjx{f:Value->Value->Sem Value}{g:Int->Int->Int}(rule:∀(i j:Int)(t u:Tok)(s:Shared)(Q:yyE)(E:yyE),Q (.int (g i j) s.toks) { s with toks:=s.toks+1 }->wpAny (model X.prog X.w) X.A (f (.int i t) (.int j u)) Q E s) : OpR X f (rI0 λi j=>.int (g i j)):=by intro pins s σ H x y v u Q I rx ry h;obtain⟨i,j,rfl,rfl,q⟩:=h;obtain⟨t,rfl⟩:=rx;obtain⟨t',rfl⟩:=ry;exact rule i j t t' s _ _ ⟨.int (g i j),H,I.tok _,⟨_,rfl⟩,q⟩
def zkF{f:Value->Value->Sem Value}{g:Int->Int->Bool}(rule:∀(i j:Int)(t u:Tok)(s:Shared)(Q:yyE)(E:yyE),Q (.bool (g i j)) s->wpAny (model X.prog X.w) X.A (f (.int i t) (.int j u)) Q E s) : OpR X f (rI0 λi j=>.bl (g i j)):=by intro pins s σ H x y v u Q I rx ry h;obtain⟨i,j,rfl,rfl,q⟩:=h;obtain⟨t,rfl⟩:=rx;obtain⟨t',rfl⟩:=ry;exact rule i j t t' s _ _ ⟨.bl (g i j),H,I,rfl,q⟩
def zkW(i j:Int):Prop:=0<j/\j<1073741824
def zj4(i j:Int):Prop:=(-(2^64)<i/\i<2^64)\/(-(2^64)<j/\j<2^64)
def zj4.ok{i j:Int}(h:zj4 i j):IntMulOk i j:=by
 rcases h with⟨h1,h2⟩|⟨h1,h2⟩
 .exact .of_left (intBits_le_64 h1 h2)
 .exact .of_right (intBits_le_64 h1 h2)
def zgO:OpR X (binaryOp .Add) (rI0 λi j=>.int (i+j)):=zjx λ_ _ _ _ _ _ _ q=>add_int q
def zhw:OpR X (binaryOp .Sub) (rI0 λi j=>.int (i-j)):=zjx λ_ _ _ _ _ _ _ q=>sub_int q
def zh0:OpR X (binaryOp .Mult) (rI zj4 λi j=>.int (i*j)):=opI λ_ _ _ _ _ _ _ hc q=>mul_int q hc.ok
def zeB:OpR X (binaryOp .FloorDiv) (rI zkW λi j=>.int (i/j)):=opI λi j _ _ _ _ _ hc q=>by have h1:(0:Int)<j:=hc.1;have h2:j<1073741824:=hc.2;exact floordiv_int (by lia) (by rw[Int.fdiv_eq_ediv_of_nonneg i (by lia)];exact q) (.inl (PyProof.noPylong_small (by lia)))
def zi6:OpR X (binaryOp .Mod) (rI (λ_ j=>0<j) λi j=>.int (i%j)):=opI λi j _ _ _ _ _ hc q=>by have h1:(0:Int)<j:=hc;exact mod_int' (by lia) (by rw[Int.fmod_eq_emod_of_nonneg i (by lia)];exact q)
def zfC:OpR X (inplaceOp .Add) (rI0 λi j=>.int (i+j)):=zjx λ_ _ _ _ _ _ _ q=>iadd_int q
def unI{f:Value->Sem Value}{g:Int->Int}(rule:∀(i:Int)(t:Tok)(s:Shared)(Q:yyE)(E:yyE),Q (.int (g i) s.toks) { s with toks:=s.toks+1 }->wpAny (model X.prog X.w) X.A (f (.int i t)) Q E s) : UnR X f (rU λi=>.int (g i)):=by intro pins s σ H x v Q I rx h;obtain⟨i,rfl,q⟩:=h;obtain⟨t,rfl⟩:=rx;exact rule i t s _ _ ⟨.int (g i),H,I.tok _,⟨_,rfl⟩,q⟩
def zho:UnR X (unaryOp .USub) (rU λi=>.int (-i)):=unI λ_ _ _ _ _ q=>neg_int q
def ze4{pins:yyP}{σ:St}{H:Hp}{s:Shared}{Q:VK}{k k':Bool}(I:Inv X pins σ H s)(q:Q (.bl k) H)(e:k=k'):EP X pins σ Q (.bool k') s:=by subst e;exact⟨.bl k,H,I,rfl,q⟩
def z7d:OpR X (compareOp .Lt) (rI0 λi j=>.bl (decide (i<j))):=zkF λ_ _ _ _ _ _ _ q=>lt_int q
def z49:OpR X (compareOp .LtE) (rI0 λi j=>.bl (decide (i<=j))):=zkF λ_ _ _ _ _ _ _ q=>le_int q
def zbl:OpR X (compareOp .Gt) (rI0 λi j=>.bl (decide (j<i))):=zkF λ_ _ _ _ _ _ _ q=>gt_int q
def z9q:OpR X (compareOp .In) (λx y H Q=>∃i j,x=.str i/\y=.str j/\Q (.bl (!(Builtin.Str.occurrences j i 0 j.length 1).isEmpty)) H):=by intro pins s σ H x y v u Q I rx ry h;obtain⟨i,j,rfl,rfl,q⟩:=h;obtain⟨t,rfl⟩:=rx;obtain⟨t',rfl⟩:=ry;exact in_str (ze4 I q rfl)
def zgF:OpR X (compareOp .Is) (λx y H Q=>y=.non/\Q (.bl (decide (x=.non))) H):=by
 intro pins s σ H x y v u Q I rx ry h;obtain⟨rfl,q⟩:=h;cases ry;refine is_none_gen (ze4 I q ?_);cases x<;>first
  | (cases rx;rfl)
  | (obtain⟨t,rfl⟩:=rx;rfl)
def zdI(b:Expr){op:CmpOp}(h:op≠.In:=by decide)(h2:op≠.NotIn:=by decide):behindInMarks op b=false:=by
 have e1:(op==CmpOp.In)=false:=by cases op<;>first|rfl|exact absurd rfl h
 have e2:(op==CmpOp.NotIn)=false:=by cases op<;>first|rfl|exact absurd rfl h2
 cases b<;>simp[behindInMarks,e1,e2]
def zfg{op:CmpOp}{r:R2}(ho:OpR X (compareOp op) r)(ha:PE X a ta)(hb:PE X b tb)(hm:behindInMarks op b=false):PE X (.Compare a [op] [b] pos) (tOp r ta tb):=by intro pins s σ H Q I h;exact wpAny_Compare1 (zjK ha hb I h λv u s2 x y H2 I2 rx ry q=>ho pins s2 σ H2 x y v u Q I2 rx ry q) hm
def zhC(t:TE):TT:=λσ H Q=>t σ H λx H'=>∃k,x=.bl k/\Q k H'
def zfy{op:CmpOp}{r:R2}(ho:OpR X (compareOp op) r)(ha:PE X a ta)(hb:PE X b tb)(hm:behindInMarks op b=false):PT X (.Compare a [op] [b] pos) (zhC (tOp r ta tb)):=by
 intro pins s σ H Q I h;refine wpAny_isTrue_Compare1 (z2K (ha pins s σ H _ I h) λv s1 x H1 I1 r1 q1=>z2K (hb pins s1 σ H1 _ I1 q1) λu s2 y H2 I2 r2 q2 =>
  thn (ho pins s2 σ H2 x y v u _ I2 r1 r2 q2) λc s3 ⟨z,H3,I3,r3,k,e,q3⟩=>?_) hm
 subst e;cases r3;exact y11 ⟨H3,I3,q3⟩
def z9l(r r':R2)(ta tb tc:TE):TE:=λσ H Q=>ta σ H λx H1=>tb σ H1 λy H2=>r x y H2 λz H3=>∃k,z=.bl k /\
 (if k=true then tc σ H3 λw' H4=>r' y w' H4 Q else Q (.bl false) H3)
def zdm{op op':CmpOp}{r r':R2}(ho:OpR X (compareOp op) r)(ho':OpR X (compareOp op') r')(ha:PE X a ta)(hb:PE X b tb)(hc:PE X c tc)(hm:lastMarks [op,op'] [b,c]=false:=by with_unfolding_all rfl):PE X (.Compare a [op,op'] [b,c] pos) (z9l r r' ta tb tc):=by
 intro pins s σ H Q I h;refine Compare_chain (z2K (ha pins s σ H _ I h) λv s1 x H1 I1 r1 q1=>chain_link (z2K (hb pins s1 σ H1 _ I1 q1) λu s2 y H2 I2 r2 q2 =>
  thn (ho pins s2 σ H2 x y v u _ I2 r1 r2 q2) λd s3 ⟨z,H3,I3,r3,k,e,q3⟩=>?_)) hm
 subst e;cases r3;refine y11 ?_;cases k with
 |false=>exact ite_ff ⟨.bl false,H3,I3,rfl,q3⟩
 |true=>exact ite_tt (chain_last (thn (hc pins s3 σ H3 _ I3 q3) λw' s4 ⟨z',H4,I4,r4,q4⟩=>ho' pins s4 σ H4 y z' u w' Q I4 r2 r4 q4))
def zcE{op op':CmpOp}{r r':R2}(ho:OpR X (compareOp op) r)(ho':OpR X (compareOp op') r')(ha:PE X a ta)(hb:PE X b tb)(hc:PE X c tc)(hm:lastMarks [op,op'] [b,c]=false:=by with_unfolding_all rfl):PT X (.Compare a [op,op'] [b,c] pos) (zhC (z9l r r' ta tb tc)):=by
 intro pins s σ H Q I h;refine isTrue_chain (z2K (ha pins s σ H _ I h) λv s1 x H1 I1 r1 q1=>test_link (z2K (hb pins s1 σ H1 _ I1 q1) λu s2 y H2 I2 r2 q2 =>
  thn (ho pins s2 σ H2 x y v u _ I2 r1 r2 q2) λd s3 ⟨z,H3,I3,r3,k,e,q3⟩=>?_)) hm
 subst e;cases r3;refine y11 ?_;cases k with
 |false =>
  obtain⟨k',e',q'⟩:=q3;cases e';exact ite_ff ⟨H3,I3,q'⟩
 |true =>
  refine ite_tt (test_last (z2K (hc pins s3 σ H3 _ I3 q3) λw' s4 z' H4 I4 r4 q4=>z2K (ho' pins s4 σ H4 y z' u w' _ I4 r2 r4 q4) λd' s5 z2 H5 I5 r5 hz9=>?_));obtain⟨k2,e2,q5⟩:=hz9;subst e2;cases r5;exact y11 ⟨H5,I5,q5⟩
def zjs(K:yyF)(x:V)(H:Hp)(k:Bool):Prop :=
 match x with
 |.non=>k=false
 |.bl b=>k=b
 |.int i=>k=(i != 0)
 |.str y=>y.length<=sizeLine/\k=((y.length:Int) != 0)
 |.byt y=>y.size<=sizeLine/\k=((y.size:Int) != 0)
 |.ref p=>(∃xs,SqL K H p xs/\k=!xs.isEmpty)\/(∃xs,SqT K H p xs/\k=!xs.isEmpty)\/∃kvs,H p=some (.dK kvs)/\k=!kvs.isEmpty
 |_=>False
def z8C{κ:Type}{kvs:List (κ × V)}{vs:List (κ × Value)}(r:KV kvs vs):(!vs.isEmpty)=!kvs.isEmpty:=by cases r<;>rfl
def z4k{xs:List V}{its:List Value}(r:z0B xs its):(!its.toArray.isEmpty)=!xs.isEmpty:=by cases r<;>simp
def z3A:(sizeLine:Nat)<2^63:=by rw[y2d];decide
def zif:zlT X (λx H Q=>∃k,zjs X.K x H k/\Q k H):=by
 intro pins s σ H x v Q I rx h;obtain⟨k,e,q⟩:=h;have hl:=z3A;have hs:sizeLine=16777216:=y2d;cases x with
 |non =>
  cases rx;have e':k=false:=e;subst e';exact truthy_none ⟨H,I,q⟩
 |bl b =>
  cases rx;have e':k=b:=e;subst e';exact y11 ⟨H,I,q⟩
 |int i =>
  obtain⟨t,rfl⟩:=rx;have e':k=(i != 0):=e;subst e';exact PySem.P.truthy_int ⟨H,I,q⟩
 |str y =>
  obtain⟨t,rfl⟩:=rx;obtain⟨hy,e'⟩:y.length<=sizeLine/\k=((y.length:Int) != 0):=e;subst e';exact PySem.P.truthy_str (by lia) ⟨H,I.tok _,q⟩
 |byt y =>
  obtain⟨t,rfl⟩:=rx;obtain⟨hy,e'⟩:y.size<=sizeLine/\k=((y.size:Int) != 0):=e;subst e';exact PySem.W.truthy_bytes (by lia) ⟨H,I.tok _,q⟩
 |ref p =>
  cases rx;have e':(∃xs,SqL X.K H p xs/\k=!xs.isEmpty)\/(∃xs,SqT X.K H p xs/\k=!xs.isEmpty)\/∃kvs,H p=some (.dK kvs)/\k=!kvs.isEmpty:=e;rcases e' with⟨xs,hx,e'⟩|⟨xs,hx,e'⟩|⟨kvs,hx,e'⟩
  .subst e';obtain⟨its,r,pl,hz⟩:=I.list hx;have hlen:=r.length;exact wpAny_truthy_list pl.isList (by simp only[y0g];lia) ⟨H,I.tok _,by rw[z4k r];exact q⟩
  .subst e';obtain⟨its,r,pl,hz⟩:=I.tuple hx;have hlen:=r.length;exact truthy_tuple pl (by simp only[y0g];lia) ⟨H,I.tok _,by rw[z4k r];exact q⟩
  .subst e';obtain⟨hz,hS,vs,r,m⟩:kvs.length<=sizeLine/\(p==sysModules)=false/\∃vs,KV kvs vs/\s.heap.DictOf (z0H X.prog X.w) p vs:=I.hok p _ hx;have hlen:kvs.length=vs.length:=y1t r;exact wpAny_truthy_dict hS m (by lia) ⟨H,I.tok _,by rw[z8C r];exact q⟩
 |_=>exact(show False from e).elim
def zcL(ha:PE X a ta)(he:∀whole,isTrue a X.env whole=(do let v <-whole;standAt a.pos;holding [v] (truthy v))) : PT X a (λσ H Q=>ta σ H λx H'=>∃k,zjs X.K x H' k/\Q k H'):=by intro pins s σ H Q I h;exact isTrue_plain (z2K (ha pins s σ H _ I h) λv s1 x H1 I1 r1 q1=>zif pins s1 σ H1 x v Q I1 r1 q1) (he _)
def z8F:OpR X (binaryOp .Add) (λx y H Q=>∃i j,x=.str i/\y=.str j/\i.length+j.length<=sizeLine/\Q (.str (i++j)) H):=by intro pins s σ H x y v u Q I rx ry h;obtain⟨i,j,rfl,rfl,hz,q⟩:=h;obtain⟨t,rfl⟩:=rx;obtain⟨t',rfl⟩:=ry;exact add_str (λt' tk=>⟨.str (i++j),H,I.tok _,⟨_,rfl⟩,q⟩) hz
def z1q{x:V}{us:List Value}(r:z0B [x] us):∃u,us=[u]/\z0y x u:=by
 cases r with
 |cons r1 r2=>cases r2;exact⟨_,rfl,r1⟩
def zaw{x y:V}{us:List Value}(r:z0B [x,y] us):∃u w',us=[u,w']/\z0y x u/\z0y y w':=by
 cases r with
 |cons r1 r2 =>
  cases r2 with
  |cons r3 r4=>cases r4;exact⟨_,_,rfl,r1,r3⟩
def zbZ:z0G X (.builtin "abs") (λxs H Q=>∃i,xs=[.int i]/\Q (.int (if i<0 then -i else i)) H):=by intro pins s σ H xs us Q I r h;obtain⟨i,rfl,q⟩:=h;obtain⟨u,rfl,t,rfl⟩:=z1q r;exact call_abs_int λu tk=>⟨.int (if i<0 then -i else i),H,I.tok _,⟨_,rfl⟩,q⟩
def z9b(hc:X.calm=true):z0G X (.builtin "max") (λxs H Q=>∃i j,xs=[.int i,.int j]/\Q (.int (if j>i then j else i)) H):=by
 intro pins s σ H xs us Q I r h;obtain⟨i,j,rfl,q⟩:=h;obtain⟨u,w',rfl,⟨t,rfl⟩,⟨t',rfl⟩⟩:=zaw r;refine max_two_ints (I.ok.hd hc) λh' tk k=>⟨_,H,I.kept k,?_,q⟩;by_cases hj:j>i
 .rw[if_pos hj,if_pos hj];exact⟨_,rfl⟩
 .rw[if_neg hj,if_neg hj];exact⟨_,rfl⟩
def z5t:z0G X (.type "str") (λxs H Q=>∃i,xs=[.int i]/\i.natAbs.log2<1920/\Q (.str (toString i)) H):=by intro pins s σ H xs us Q I r h;obtain⟨i,rfl,hz,q⟩:=h;obtain⟨u,rfl,t,rfl⟩:=z1q r;exact PySem.P.str_of_int hz ⟨.str _,H,I.tok _,⟨_,rfl⟩,q⟩
end
structure zfF(h:Heap)(x dx C:Addr)(mA:yyS):Prop where
 obj:h.get? x=some (PySem.W.instObj C dx)
 ns:h.Ns1 dx mA
 ne:dx≠x
def z3J{h:Heap}{dx:Addr}{mA:yyS}(n:h.Ns1 dx mA):∃od,h.get? dx=some od/\∀name,PySem.W.lookIn name od=some (mA name):=by
 obtain⟨o,es,ep,ho,hd,hk,_,hm⟩:=n;refine⟨o,ho,λname=>?_⟩;have e:=hm name;unfold nsFind findBy at e;rw[<-Array.find?_toList]at e;unfold PySem.W.lookIn;rw[hd];dsimp only;split
 .rename_i y q;rw[q]at e;exact y1M some e
 .rename_i q;rw[q]at e;have a:es.toList.any (·.refKey)=false:=by
   rw[List.any_eq_false];intro y hy;obtain⟨z,t,hkey⟩:=hk y (Array.mem_toList_iff.mp hy);simp[DictEntry.refKey,hkey]
  have a':¬es.toList.any (·.refKey)=true:=by rw[a];exact y0s
  rw[if_neg a'];exact y1M some e
def zfF.look{h:Heap}{x dx C:Addr}{mA:yyS}(I:zfF h x dx C mA):∃od,PySem.W.InstAt h x (PySem.W.instObj C dx) C (some od)/\∀name,PySem.W.lookIn name od=some (mA name) :=
 let⟨od,ho,hl⟩:=z3J I.ns
 ⟨od,⟨I.obj,rfl,rfl,ho⟩,hl⟩
section
variable{prog:Program}{w:World}{A:Around}{E:yyE}{s:Shared}{K:yyF}{x dx C f:Addr}{mA:yyS}{name:Str}{v:Value}
def zfD{expr:Bool}{Q:yyE}(X:K.In s.heap)(I:zfF s.heap x dx C mA)(hg:PySem.W.plainGet K C name=true)(hh:PySem.W.hasDictIn K C=true)(ha:PySem.W.findIn K (.ref C) name=some none)(hv:mA name=some v)(hv':PySem.W.handedIn v=true)(h:Q v { s with toks:=s.toks+1 }) : wpAny (model prog w) A (getAttr (.ref x) name expr) Q E s:=by obtain⟨od,J,hl⟩:=I.look;exact PySem.W.get_value X J (PySem.W.plainGet_of hg).1 (PySem.W.findObj_own hh ha rfl (by rw[hl,hv])) hv' h
def zdf{pl:Sem Bool}{Q:Value × List Value->Shared->Prop}(X:K.In s.heap)(I:zfF s.heap x dx C mA)(hg:PySem.W.plainGet K C name=true)(hf:PySem.W.findIn K (.ref C) name=some (some (.ref f)))(ht:PySem.W.isFn K (.ref f)=true)(hv:mA name=none)(h:Q (.ref f,[.ref x]) s) : wpAny (model prog w) A (getMethod (.ref x) name pl) Q E s:=by obtain⟨od,J,hl⟩:=I.look;exact PySem.W.method_fn X J (PySem.W.plainGet_of hg).1 (PySem.W.plainGet_of hg).2 hf (y1y.mp ht) (by show(PySem.W.lookIn name od).map (·.isSome)=some false;rw[hl,hv];rfl) h
def zg9{ns:List Str}{Q:Unit->Shared->Prop}(X:K.In s.heap)(I:zfF s.heap x dx C mA)(hs:PySem.W.findIn K (.ref C) "__setattr__"=some (some (.builtin "object.__setattr__")))(hp:PySem.W.plainOver K C=true)(ht:PySem.W.takerIn K C name=some none)(hh:PySem.W.hasDictIn K C=true)(hw:PySem.Within mA ns)(hsz:ns.length<=sizeLine)(h:∀h',zfF h' x dx C (λy=>if y=name then some v else mA y)->Heap.SameBut dx s.heap h'->Q () { s with heap:=h',toks:=s.toks+2 }) : wpAny (model prog w) A (setAttr (.ref x) name v) Q E s:=by obtain⟨od,J,hl⟩:=I.look;refine PySem.W.set_plain X J hs (PySem.W.osa_open (s:={ s with toks:=s.toks+1 }) (r:=none) X J hp ht λb=>?_);obtain⟨cd,hc,hd'⟩:=y2p hh;have hx:s.heap.get? x=some ⟨.ref C,some dx,.plain,#[]⟩:=I.obj;refine y00 (y03 (y00 (y00 (wpAny_loadPart hx (y00 (PySem.W.Looks.here (s:={ s with toks:=s.toks+1 }) (PySem.W.looks_clsIn X hc) ?_))))));rw[hd'];refine y03 (a:=some dx) (y00 (y03 (y00 ?_)));refine wpAny_nsSet1 (s:={ s with toks:=s.toks+1 }) I.ns λh' hn2 hs2=>?_;obtain⟨oD,esD,epD,hoD,hdD,hcD⟩:=hn2.count (PySem.Within.cons name v hw);refine y00 (wpAny_lookBehind hoD (by rw[hdD];exact pastItsLine_dict (y0e hcD (by rw[y0c];lia))) ?_);exact y03 (h _ ⟨(hs2.2 _ (y0N I.ne)).trans I.obj,hn2,I.ne⟩ hs2)
def zcR{R:Result->Shared->Prop}{vs:List Value}{kw:List (Str × Value)}(X:K.In s.heap)(hm:PySem.W.makesIn K C=true)(hi:PySem.W.findIn K (.ref C) "__init__"=some (some (.ref f)))(hf:PySem.W.typeIn K (.ref f)=some (.type "function"))(h:codeAny (model prog w) (A.under (.builtin "type.__call__" ⟨.ref C::vs,kw⟩)) (.call (.ref f) ⟨.ref (s.heap.objs.size+1)::vs,kw⟩) (PySem.W.InitBack (s.heap.objs.size+1) R) { s with heap:=(s.heap.push PySem.W.emptyDict).push (PySem.W.instObj C s.heap.objs.size) }) : codeAny (model prog w) A (.call (.ref C) ⟨vs,kw⟩) R s:=by obtain⟨hh,g,d,t,os⟩:=s;exact PySem.W.make_core (PySem.W.makes_of X hm) (y38 X hi) (λself=>PySem.W.bind_fn X self hf) (.inl rfl) h
end
def z5r(f:Str)(v:V):List (Str × V)->List (Str × V)
 |[]=>[(f,v)]
 | (g,x)::r=>if g=f then(g,v)::r else(g,x)::z5r f v r
theorem z3Y(f g:Str)(v:V):∀fs:List (Str × V),(z5r f v fs).lookup g=if g=f then some v else fs.lookup g
 |[]=>by
  show List.lookup g [(f,v)]=_;by_cases h:g=f
  .have hb:(g==f)=true:=y1y.mpr h;simp only[List.lookup,hb,if_pos h]
  .have hb:(g==f)=false:=y1B.mpr h;simp only[List.lookup,hb,if_neg h]
 | (k,x)::r=>by
  have ih:=z3Y f g v r;rw[show z5r f v ((k,x)::r)=(if k=f then(k,v)::r else(k,x)::z5r f v r)from rfl];by_cases hk:k=f
  .rw[if_pos hk];by_cases h:g=k
   .have hb:(g==k)=true:=y1y.mpr h;simp only[List.lookup,hb,if_pos (h.trans hk)]
   .have hb:(g==k)=false:=y1B.mpr h;simp only[List.lookup,hb,if_neg (λe:g=f=>h (e.trans hk.symm))]
  .rw[if_neg hk];by_cases h:g=k
   .have hb:(g==k)=true:=y1y.mpr h;simp only[List.lookup,hb,if_neg (λe:g=f=>hk (h.symm.trans e))]
   .have hb:(g==k)=false:=y1B.mpr h;simp only[List.lookup,hb];exact ih
theorem z3m(f:Str)(v:V):∀fs:List (Str × V),f∈(z5r f v fs).map (·.1)/\∀g,g∈fs.map (·.1)->g∈(z5r f v fs).map (·.1)
 |[]=>⟨by simp[z5r],λg h=>by simp at h⟩
 | (k,x)::r=>by
  obtain⟨i1,i2⟩:=z3m f v r;rw[show z5r f v ((k,x)::r)=(if k=f then(k,v)::r else(k,x)::z5r f v r)from rfl];by_cases hk:k=f
  .rw[if_pos hk];subst hk;exact⟨by simp,λg h=>by simpa using h⟩
  .rw[if_neg hk];refine⟨?_,λg h=>?_⟩
   .rw[y0o];exact y0d _ i1
   .rw[y0o]at h⊢;rcases y0k.mp h with e|e
    .exact y0k.mpr (.inl e)
    .exact y0d _ (i2 g e)
theorem z3g(f:Str)(v:V):∀fs:List (Str × V),(z5r f v fs).length<=fs.length+1
 |[]=>by simp[z5r]
 | (k,x)::r=>by
  have ih:=z3g f v r;rw[show z5r f v ((k,x)::r)=(if k=f then(k,v)::r else(k,x)::z5r f v r)from rfl];by_cases hk:k=f
  .rw[if_pos hk,y0c,y0c];lia
  .rw[if_neg hk,y0c,y0c];lia
def z5q.some_of{v:V}{o:Option Value}(r:z5q (some v) o):∃u,o=some u/\z0y v u:=by
 cases o with
 |none=>exact(show False from r).elim
 |some u=>exact⟨u,rfl,r⟩
def z5q.none_of{o:Option Value}(r:z5q none o):o=none:=by
 cases o with
 |none=>rfl
 |some u=>exact(show False from r).elim
def zbw{v:V}{u:Value}(r:z0y v u):PySem.W.handedIn u=true:=by
 cases v with
 |non=>cases(show u=Value.none from r);rfl
 |bl b=>cases(show u=Value.bool b from r);rfl
 |int i=>obtain⟨t,e⟩:=(show ∃t,u=Value.int i t from r);cases e;rfl
 |str x=>obtain⟨t,e⟩:=(show ∃t,u=Value.str x t from r);cases e;rfl
 |byt b=>obtain⟨t,e⟩:=(show ∃t,u=Value.bytes b t from r);cases e;rfl
 |flt b=>obtain⟨t,e⟩:=(show ∃t,u=Value.float b t from r);cases e;rfl
 |ref a=>cases(show u=Value.ref a from r);rfl
 |ty n=>cases(show u=Value.type n from r);rfl
section
variable{P:Program}{w:World}{H:Hp}{h:Heap}{a C dx:Addr}{fs:List (Str × V)}
def z50(hok:HOk P w H h)(e:H a=some (.ins C dx fs)):∃mA,zfF h a dx C mA/\(∀f,z5q (fs.lookup f) (mA f))/\PySem.Within mA (fs.map (·.1))/\fs.length<=1000/\H dx=some (.own a):=by obtain⟨d,z,ne,ob,mA,n,r,q⟩:=(show z0K P w H h a (.ins C dx fs)from hok a _ e);exact⟨mA,⟨ob,n,ne⟩,r,q,z,d⟩
end
structure Cls(K:yyF)(C:Addr):Prop where
 pg:PySem.W.plainGet K C Str.empty=true
 hd:PySem.W.hasDictIn K C=true
 po:PySem.W.plainOver K C=true
 sa:PySem.W.findIn K (.ref C) "__setattr__"=some (some (.builtin "object.__setattr__"))
def Cls.get{K:yyF}{C:Addr}(c:Cls K C)(f:Str):PySem.W.plainGet K C f=true:=c.pg
def z2p(K:yyF)(C:Addr)(f:Str):Prop:=PySem.W.findIn K (.ref C) f=some none
def z2p.taker{K:yyF}{C:Addr}{f:Str}(n:z2p K C f):PySem.W.takerIn K C f=some none:=by unfold PySem.W.takerIn;rw[show PySem.W.findIn K (.ref C) f=some none from n];rfl
structure ziX(K:yyF)(C:Addr)(m:Str)(f:Addr):Prop where
 at_:PySem.W.findIn K (.ref C) m=some (some (.ref f))
 fn:PySem.W.isFn K (.ref f)=true
 kp:PySem.W.keepIn K (.ref f)=true
section
variable{X:Cx}{pins:yyP}{σ:St}{H:Hp}{s:Shared}{a C dx:Addr}{fs:List (Str × V)}{f:Str}{v:V}{A:Around}{E:yyE}
def z8Q{b:Bool}{Q:yyE}(I:Inv X pins σ H s)(e:H a=some (.ins C dx fs))(c:Cls X.K C)(n:z2p X.K C f)(l:fs.lookup f=some v)(h:∀u s',Inv X pins σ H s'->z0y v u->Q u s'):wpAny (model X.prog X.w) A (getAttr (.ref a) f b) Q E s:=by obtain⟨mA,O,r,_,_,_⟩:=z50 I.hok e;obtain⟨u,hu,ru⟩:=z5q.some_of (v:=v) (o:=mA f) (by rw[<-l];exact r f);exact zfD I.kIn O (c.get f) c.hd n hu (zbw ru) (h u _ (I.tok _) ru)
def z4r{m:Str}{g:Addr}{pl:Sem Bool}{Q:Value × List Value->Shared->Prop}(I:Inv X pins σ H s)(e:H a=some (.ins C dx fs))(c:Cls X.K C)(k:ziX X.K C m g)(l:fs.lookup m=none)(h:Q (.ref g,[.ref a]) s):wpAny (model X.prog X.w) A (getMethod (.ref a) m pl) Q E s:=by obtain⟨mA,O,r,_,_,_⟩:=z50 I.hok e;have hn:mA m=none:=z5q.none_of (by rw[<-l];exact r m);exact zdf I.kIn O (c.get m) k.at_ k.fn hn h
def z8U{y:V}{u:Value}{Q:Unit->Shared->Prop}(I:Inv X pins σ H s)(e:H a=some (.ins C dx fs))(c:Cls X.K C)(n:z2p X.K C f)(hl:fs.length<1000)(ry:z0y y u)(h:∀s',Inv X pins σ (upd H a (.ins C dx (z5r f y fs))) s'->Q () s'):wpAny (model X.prog X.w) A (setAttr (.ref a) f u) Q E s:=by
 obtain⟨mA,O,r,wi,_,ho⟩:=z50 I.hok e;have hz:(fs.map (·.1)).length<=sizeLine:=by rw[y01,y2d];lia
 refine zg9 I.kIn O c.sa c.po n.taker c.hd wi hz λh' O' sb=>h _ ?_;have hd:∃o,h'.get? dx=some o:=let⟨o,_,_,e',_⟩:=O'.ns;⟨o,e'⟩;refine I.write (x:=a) (e:=dx) (by rw[e];exact y16) (.inr ho) (λb q hb z=>(sb.2 b hb).trans z) hd ?_;refine⟨by rw[z0c O.ne];exact ho,?_,O.ne,O'.obj,_,O'.ns,λg=>?_,λg hg=>?_⟩
 .have:=z3g f y fs;lia
 .show z5q ((z5r f y fs).lookup g) (if g=f then some u else mA g);rw[z3Y];by_cases q:g=f
  .rw[if_pos q,if_pos q];exact ry
  .rw[if_neg q,if_neg q];exact r g
 .by_cases q:g=f
  .rw[q];exact(z3m f y fs).1
  .refine(z3m f y fs).2 g (wi g λz=>hg ?_);show(if g=f then some u else mA g)=none;rw[if_neg q];exact z
def Inv.made(I:Inv X pins σ H s):Inv X pins σ (upd (upd H s.heap.objs.size (.own (s.heap.objs.size+1))) (s.heap.objs.size+1) (.ins C s.heap.objs.size [])) { s with heap:=(s.heap.push PySem.W.emptyDict).push (PySem.W.instObj C s.heap.objs.size) }:=by
 have e1:(s.heap.push PySem.W.emptyDict).get? s.heap.objs.size=some PySem.W.emptyDict:=y04 s.heap rfl;have e2:((s.heap.push PySem.W.emptyDict).push (PySem.W.instObj C s.heap.objs.size)).get? (s.heap.objs.size+1)=some (PySem.W.instObj C s.heap.objs.size):=by
  have:=y04 (s.heap.push PySem.W.emptyDict) (o:=PySem.W.instObj C s.heap.objs.size) rfl
  rwa [y1w]at this
 have e3:(s.heap.push PySem.W.emptyDict).Ns s.heap.objs.size (λ_=>none):=⟨PySem.W.emptyDict,#[],_,e1,rfl,(λe he=>absurd he (by simp)),λ_=>rfl⟩;have I1:=I.laid (a:=s.heap.objs.size) (o:=.own (s.heap.objs.size+1)) (h':=s.heap.push PySem.W.emptyDict) (t':=s.toks) (λb u q=>y02 _ q) (y09 _) ⟨_,e1⟩;refine I1.laid (a:=s.heap.objs.size+1) (o:=.ins C s.heap.objs.size []) (t':=s.toks) (λb u q=>y02 _ q) (y30 (y1w _ _)) ?_;have ne:s.heap.objs.size≠s.heap.objs.size+1:=y0i (y1I _);refine⟨by rw[z0c ne,z0a],y1r _,ne,e2,λ_=>none,(Heap.Ns1.of_empty e3).at λo q=>y02 _ q,λ_=>y16,λy hy=>absurd rfl hy⟩
def zaE{prog:Program}{w:World}{env:Env}{e:Expr}{f:Str}{pos:Pos}{s:Shared}{Q:yyE}(hb:attributeBase e f env (eval e env)=eval e env)(h:wpAny (model prog w) A (eval e env) (λo s₁=>wpAny (model prog w) A (getAttr o f true) Q E s₁) E s):wpAny (model prog w) A (eval (.Attribute e f pos) env) Q E s :=
 Attribute_any_ h (by rw[arm_eval_Attribute,hb])
end
def zmg(K:yyF)(ta:TE)(f:Str):TE:=λσ H Q=>ta σ H λx H1=>∃a C dx fs v,x=.ref a/\H1 a=some (.ins C dx fs)/\Cls K C/\z2p K C f/\fs.lookup f=some v/\Q v H1
section
variable{X:Cx}{e:Expr}{f:Str}{pos:Pos}{ta:TE}
def zhm(he:PE X e ta)(hb:attributeBase e f X.env (eval e X.env)=eval e X.env):PE X (.Attribute e f pos) (zmg X.K ta f):=by intro pins s σ H Q I h;refine zaE hb (thn (he pins s σ H _ I h) λu s1 hz8=>?_);obtain⟨x,H1,I1,rx,a,C,dx,fs,v,ex,ea,c,n,l,q⟩:=hz8;subst ex;obtain rfl:u=Value.ref a:=rx;exact z8Q I1 ea c n l λu' s2 I2 ru=>⟨v,H1,I2,ru,q⟩
end
section
variable{X:Cx}{pins:yyP}{σ:St}{H:Hp}{s:Shared}{A:Around}{E:yyE}{Q:yyE}{c:Value}{b:Bool}
inductive z8Z(K:yyF)(H:Hp):V->Value->Prop where
 |non:z8Z K H .non (.type "NoneType")
 |bl (x:Bool):z8Z K H (.bl x) (.type "bool")
 |int (i:Int):z8Z K H (.int i) (.type "int")
 |str (x:Str):z8Z K H (.str x) (.type "str")
 |flt (x:UInt64):z8Z K H (.flt x) (.type "float")
 |lst {a:Addr} {xs:List V} (e:H a=some (.lst xs)):z8Z K H (.ref a) (.type "list")
 |frz {a:Addr} {o:Obj} {xs:List V} (e:H a=some (.frz o (.lst xs))):z8Z K H (.ref a) (.type "list")
 |tup {a:Addr} {xs:List V} (e:H a=some (.tup xs)):z8Z K H (.ref a) (.type "tuple")
 |dK {a:Addr} {kvs:List (Key × V)} (e:H a=some (.dK kvs)):z8Z K H (.ref a) (.type "dict")
 |dT {a:Addr} {kvs:List (List Key × V)} (e:H a=some (.dT kvs)):z8Z K H (.ref a) (.type "dict")
 |ins {a C dx:Addr} {fs:List (Str × V)} (e:H a=some (.ins C dx fs)) (cl:Cls K C) (ha:PySem.W.findIn K (.ref C) "__class__"=some (some (.builtin "object.__class__")))
   (hn:PySem.W.specialIn K (.builtin "object.__class__") "__get__"=some (some (.builtin "getset_descriptor.__get__"))) (htk:PySem.W.takesIn K (.builtin "object.__class__")=some true)
   (hm:PySem.W.mroIn K C (.type "object")=some true):z8Z K H (.ref a) (.ref C)
def zb4{x:V}{u t:Value}(I:Inv X pins σ H s)(rx:z0y x u)(ty:z8Z X.K H x t)(e:PySem.W.kitOne X.K t c=some b)(h:∀tk,Q (.bool b) { s with toks:=tk }) : wpAny (model X.prog X.w) A (call (.builtin "isinstance") [u,c]) Q E s:=by
 cases ty with
 |non=>cases(show u=Value.none from rx);exact y0R PySem.W.kitx_none I.kIn y16 e (λz=>nomatch z) h
 |bl y=>cases(show u=Value.bool y from rx);exact y0R PySem.W.kitx_bool I.kIn y16 e (λz=>nomatch z) h
 |int i=>obtain⟨t,q⟩:=(show ∃t,u=Value.int i t from rx);cases q;exact y0R PySem.W.kitx_int I.kIn y16 e (λz=>nomatch z) h
 |str y=>obtain⟨t,q⟩:=(show ∃t,u=Value.str y t from rx);cases q;exact y0R PySem.W.kitx_str I.kIn y16 e (λz=>nomatch z) h
 |flt y=>obtain⟨t,q⟩:=(show ∃t,u=Value.float y t from rx);cases q;exact y0R PySem.W.kitx_float I.kIn y16 e (λz=>nomatch z) h
 |@lst a xs ea =>
  cases(show u=Value.ref a from rx);obtain⟨_,_,n,_,h1⟩:=(show z0K X.prog X.w H s.heap a (.lst xs)from I.hok a _ ea);exact y0R PySem.W.kitx_list I.kIn ⟨_,h1,rfl⟩ e (λz=>nomatch z) h
 |@frz a ob xs ea =>
  cases(show u=Value.ref a from rx);obtain⟨_,_,_,n,_,h1⟩:=(show z0K X.prog X.w H s.heap a (.frz ob (.lst xs))from I.hok a _ ea);exact y0R PySem.W.kitx_list I.kIn ⟨_,h1,rfl⟩ e (λz=>nomatch z) h
 |@tup a xs ea =>
  cases(show u=Value.ref a from rx);obtain⟨_,_,n,_,h1⟩:=(show z0K X.prog X.w H s.heap a (.tup xs)from I.hok a _ ea);exact y0R PySem.W.kitx_tuple I.kIn ⟨_,h1,rfl⟩ e (λz=>nomatch z) h
 |@dK a kvs ea =>
  cases(show u=Value.ref a from rx);obtain⟨_,_,vs,_,p⟩:=(show z0K X.prog X.w H s.heap a (.dK kvs)from I.hok a _ ea);obtain⟨o,es,ep,h1,h2,_⟩:=p;exact y0R PySem.W.kitx_dict I.kIn ⟨o,h1,h2.1⟩ e (λz=>nomatch z) h
 |@dT a kvs ea =>
  cases(show u=Value.ref a from rx);obtain⟨_,_,xs,_,o,es,ep,h1,h2,_⟩:=(show z0K X.prog X.w H s.heap a (.dT kvs)from I.hok a _ ea);exact y0R PySem.W.kitx_dict I.kIn ⟨o,h1,h2.1⟩ e (λz=>nomatch z) h
 |@ins a C dx fs ea cl ha hn htk hm =>
  cases(show u=Value.ref a from rx);obtain⟨mA,O,_⟩:=z50 I.hok ea;obtain⟨od,J,_⟩:=O.look;exact y0R (PySem.W.kitx_own (cl.get _) cl.hd ha hn htk hm) I.kIn J e (λz=>nomatch z) h
end
structure z1o(k:Nat)(A:Around):Prop where
 hd:A.handled=none
 dp:A.depth+3*k+5<recursionLimit
 un:A.units+16*k+200<cLine
def z1o.mono{j k:Nat}{A:Around}(r:z1o k A)(h:j<=k):z1o j A:=⟨r.hd,by have:=r.dp;lia,by have:=r.un;lia⟩
theorem z1o.deeper{k:Nat}{A:Around}(r:z1o (k+1) A)(env:Env):z1o k (A.deeper env) :=
 ⟨r.hd,by have:=r.dp;show A.depth+1+3*k+5<_;lia,by have:=r.un;show A.units+3+16*k+200<_;lia⟩
def z4h{A:Around}{C:Addr}{us:List Value}{kw:List (Str × Value)}:(A.under (.builtin "type.__call__" ⟨.ref C::us,kw⟩)).depth=A.depth+1:=by
 first|rfl|simp[Around.under,Code.weight,Code.isCreation,Code.isGuard,Code.isCaller,Code.frames,Code.isFrame,guardIds]
def z8N{A:Around}{C:Addr}{us:List Value}{kw:List (Str × Value)}:(A.under (.builtin "type.__call__" ⟨.ref C::us,kw⟩)).units=A.units+1:=by
 first|rfl|simp[Around.under,Code.cUnits,Code.frames,Code.isFrame]
def z1o.make{k:Nat}{A:Around}(r:z1o (k+1) A)(C:Addr)(us:List Value)(kw:List (Str × Value)):z1o k (A.under (.builtin "type.__call__" ⟨.ref C::us,kw⟩)) :=
 ⟨r.hd,by have:=r.dp;rw[z4h];lia,by have:=r.un;rw[z8N];lia⟩
theorem z1o.depth{k:Nat}{A:Around}(r:z1o k A):A.depth<recursionLimit:=by have:=r.dp;lia
def zky:TA:=λ_ H Q=>Q [] H
def zbi(ta:TE)(tr:TA):TA:=λσ H Q=>ta σ H λx H1=>tr σ H1 λxs H2=>Q (x::xs) H2
section
variable{X:Cx}{e:Expr}{es:List Expr}{te:TE}{t:TA}{pos:Pos}
def z2z:PA X [] zky:=λ_ _ _ _ H Q I h=>Calls.spliced_nil ⟨[],H,I,.nil,h⟩
def z1a(ha:PE X e te)(hr:PA X es t)(hs:starEach (e::es) X.env=(false,eval e X.env)::starEach es X.env:=by rfl):PA X (e::es) (zbi te t):=by intro pos pins s σ H Q I h;rw[hs];show wpAny _ _ (spliced ((false,eval e X.env)::backTo pos (starEach es X.env))) _ _ s;refine Calls.spliced_cons (z2K (ha pins s σ H _ I h) λu s1 x H1 I1 r1 q1=>?_);exact thn (hr pos pins s1 σ H1 _ I1 q1) λus s2 ⟨xs,H2,I2,r2,q2⟩=>⟨x::xs,H2,I2,.cons r1 r2,q2⟩
def zlX(t:TA):TE:=λσ H Q=>t σ H λxs H1=>xs.length<=sizeLine/\∀p,H1 p=none->Q (.ref p) (upd H1 p (.tup xs))
def zlP(t:TA):TE:=λσ H Q=>t σ H λxs H1=>xs.length<=sizeLine/\∀p,H1 p=none->Q (.ref p) (upd H1 p (.lst xs))
def zgY{x1}(h:PA X es t):PE X (.Tuple es x1 pos) (zlX t):=by intro pins s σ H Q I hq;refine wpAny_Tuple_spliced (thn (h pos pins s σ H _ I hq) λus s1 ⟨xs,H1,I1,r,z,q⟩=>⟨by rw[<-r.length];exact z,?_⟩);have hf:H1 s1.heap.objs.size=none:=I1.hok.fresh (y09 _);refine⟨.ref s1.heap.objs.size,upd H1 s1.heap.objs.size (.tup xs),I1.laid (t':=s1.toks) (λb u e=>y02 _ e) (y09 _) ?_,rfl,q _ hf⟩;exact⟨z,us,0,r,y04 _ rfl⟩
def zgE(h:PA X es t):PE X (.List es pos) (zlP t):=by intro pins s σ H Q I hq;refine wpAny_List_spliced (thn (h pos pins s σ H _ I hq) λus s1 ⟨xs,H1,I1,r,z,q⟩=>⟨by rw[<-r.length];exact z,?_⟩);have hf:H1 s1.heap.objs.size=none:=I1.hok.fresh (y09 _);refine⟨.ref s1.heap.objs.size,upd H1 s1.heap.objs.size (.lst xs),I1.laid (t':=s1.toks) (λb u e=>y02 _ e) (y09 _) ?_,rfl,q _ hf⟩;exact⟨z,us,0,r,y04 _ rfl⟩
end
abbrev Sp:=List V->Hp->VK->XK->Prop
abbrev CXT:=List Env->Hp->Shared->XK->yyE
structure zaA(P:Program)(w:World)(K:yyF)(mg:yyS)(base:Heap)(A:Around)(outer:List Env)(s:Shared)(H:Hp):Prop where
 frames:A.frames=some outer
 mod:Mod K mg base
 bs:∀b o,base.get? b=some o->s.heap.get? b=some o/\H b=none
 bsz:base.objs.size<=s.heap.objs.size
 funs:s.heap.FunFrames base outer
 frf:∀b∈frs outer,H b=none
 hok:HOk P w H s.heap
 bare:AllBare s.gens
def CE(outer:List Env)(P:Program)(w:World)(H:Hp)(s:Shared)(Q:VK)(u:Value)(s':Shared):Prop :=
 ∃v H',s'.os=s.os/\AllBare s'.gens/\Un (frs outer) [] H H' s.heap s'.heap/\HOk P w H' s'.heap/\z0y v u/\Q v H'
def CR(CX:CXT)(outer:List Env)(P:Program)(w:World)(H:Hp)(s:Shared)(Q:VK)(E:XK)(r:Result)(s':Shared):Prop :=
 match r with
 |.ok (.ret u)=>CE outer P w H s Q u s'
 |.ok _=>False
 |.error e=>CX outer H s E e s'
structure z2d(P:Program)(w:World)(K:yyF)(mg:yyS)(base:Heap)(CX:CXT)(k:Nat)(f:Addr)(fd:FuncData)(ps:List Str)(sp:Sp):Prop where
 len:∀vs H Q E,sp vs H Q E->vs.length=ps.length
 run:∀(A:Around)(outer:List Env)(s:Shared)(H:Hp)(args:Args)(us:List Value)(vs:List V)(Q:VK)(E:XK),z1o k A->zaA P w K mg base A outer s H->BindsTo s fd args (ps.zip us)->z0B vs us->sp vs H Q E ->
  codeAny (model P w) A (.call (.ref f) args) (CR CX outer P w H s Q E) s
theorem z2d.mono{P:Program}{w:World}{K:yyF}{mg:yyS}{base:Heap}{CX:CXT}{j k:Nat}{f:Addr}{fd:FuncData}{ps:List Str}{sp:Sp}(F:z2d P w K mg base CX j f fd ps sp)(h:j<=k) : z2d P w K mg base CX k f fd ps sp:=⟨F.len,λA outer s H args us vs Q E hr=>F.run A outer s H args us vs Q E (hr.mono h)⟩
def zaA.make{P:Program}{w:World}{K:yyF}{mg:yyS}{base:Heap}{A:Around}{outer:List Env}{s:Shared}{H:Hp}(e:zaA P w K mg base A outer s H)(C:Addr)(us:List Value)(kw:List (Str × Value)) : zaA P w K mg base (A.under (.builtin "type.__call__" ⟨.ref C::us,kw⟩)) outer s H:=⟨by first|exact e.frames|(simpa[Around.under,Code.envs,Code.isFrame,pushEnvs]using e.frames),e.mod,e.bs,e.bsz,e.funs,e.frf,e.hok,e.bare⟩
section
variable{X:Cx}{pins:yyP}{σ:St}{H:Hp}{s s':Shared}
def Inv.env0(I:Inv X pins σ H s):zaA X.prog X.w X.K X.mg X.base X.A X.stack s H :=
 ⟨I.ok.frames,I.ok.mod,I.bs,y0e I.ok.bsz I.sz,I.stack,I.stkFree,I.hok,I.bare⟩
def Inv.after{Q:VK}{u:Value}(I:Inv X pins σ H s)(h:CE X.stack X.prog X.w H s Q u s'):EP X pins σ Q u s':=by obtain⟨v,H',os,bare,un,hok,r,q⟩:=h;obtain⟨hh,g,d,t,os'⟩:=s';obtain rfl:os'=s.os:=os;exact⟨v,H',I.call (h':=hh) (g':=g) (d':=d) (t':=t) (ch:=[]) un hok bare (λb z=>absurd z (by simp)),r,q⟩
end
def zjV(C:Addr)(sp:Sp)(dvs:List V)(E:XK)(t:TA):TE:=λσ H Q=>t σ H λvs H1=>∀x dx,H1 x=none->H1 dx=none->dx≠x ->
 sp (.ref x::(vs++dvs)) (upd (upd H1 dx (.own x)) x (.ins C dx [])) (λv H2=>v=.non/\Q (.ref x) H2) E
def z19(K:yyF)(fd:FuncData)(ps:List Str)(ds:List Value):Prop :=
 ∀(s:Shared)(us:List Value),K.In s.heap->(us++ds).length=ps.length->BindsTo s fd ⟨us,[]⟩ (ps.zip (us++ds))
def z19.all{K:yyF}{fd:FuncData}{ps:List Str}(h:∀us:List Value,us.length=ps.length->bindArgs fd ⟨us,[]⟩=pure (ps.zip us)):z19 K fd ps []:=λs us _ hl=>by rw[y0n]at hl⊢;exact .of_eq (h us hl)
def z2C(CX:CXT)(X:Cx)(E:XK):Prop:=∀(pins:yyP)(σ:St)(H:Hp)(s:Shared)(e:Value)(s':Shared),Inv X pins σ H s->CX X.stack H s E e s'->X.xe e s'
section
variable{X:Cx}{CX:CXT}{k:Nat}{f C:Addr}{fd:FuncData}{ps:List Str}{sp:Sp}{dvs:List V}{ds:List Value}{E:XK}{x:Str}{p pos:Pos}{e:Expr}{es:List Expr}{t:TA}
def zhK{pins:yyP}{σ:St}{H:Hp}{s:Shared}{Q:VK}{us:List Value}{vs:List V}(F:z2d X.prog X.w X.K X.mg X.base CX k f fd ps sp)(hr:z1o k X.A)(hb:z19 X.K fd ps ds)(hd:z0B dvs ds)(hx:z2C CX X E)(I:Inv X pins σ H s)(r:z0B vs us)(h:sp (vs++dvs) H Q E):wpAny (model X.prog X.w) X.A (call (.ref f) us) (EP X pins σ Q) X.xe s:=by
 have r2:z0B (vs++dvs) (us++ds):=r.append hd;have hl:(us++ds).length=ps.length:=by rw[<-r2.length];exact F.len _ _ _ _ h
 refine y2l (y1N (F.run X.A X.stack s H ⟨us,[]⟩ (us++ds) (vs++dvs) Q E hr I.env0 (hb s us I.kIn hl) r2 h) λr s' hq=>?_);cases r with
 |error e=>exact hx pins σ H s e s' I hq
 |ok fl =>
  cases fl with
  |ret u=>exact I.after hq
  |next=>exact False.elim hq
  |brk=>exact False.elim hq
  |cont=>exact False.elim hq
structure Mk(K:yyF)(C f:Addr):Prop where
 makes:PySem.W.makesIn K C=true
 init:PySem.W.findIn K (.ref C) "__init__"=some (some (.ref f))
 fn:PySem.W.isFn K (.ref f)=true
 kp:PySem.W.keepIn K (.ref C)=true
def zcK{pins:yyP}{σ:St}{H:Hp}{s:Shared}{Q:VK}{us:List Value}{vs:List V}(M:Mk X.K C f)(F:z2d X.prog X.w X.K X.mg X.base CX k f fd ps sp)(hr:z1o (k+1) X.A)(hb:z19 X.K fd ps ds)(hd:z0B dvs ds)(hx:z2C CX X E)(I:Inv X pins σ H s)(r:z0B vs us)(h:∀x dx,H x=none->H dx=none->dx≠x->sp (.ref x::(vs++dvs)) (upd (upd H dx (.own x)) x (.ins C dx [])) (λv H2=>v=.non/\Q (.ref x) H2) E) : wpAny (model X.prog X.w) X.A (call (.ref C) us) (EP X pins σ Q) X.xe s:=by
 have hq:=h (s.heap.objs.size+1) s.heap.objs.size (I.hok.fresh (Nat.le_succ _)) (I.hok.fresh (y09 _)) (y0i (y1I _));have I2:=Inv.made (C:=C) I;have r2:z0B (V.ref (s.heap.objs.size+1)::(vs++dvs)) (Value.ref (s.heap.objs.size+1)::(us++ds)):=.cons rfl (r.append hd);have hl:(Value.ref (s.heap.objs.size+1)::us++ds).length=ps.length:=by have e:=r2.length;rw[F.len _ _ _ _ hq]at e;exact e.symm
 refine y2l (zcR (f:=f) I.kIn M.makes M.init (y1y.mp M.fn) (y1N (F.run _ X.stack _ _ ⟨Value.ref (s.heap.objs.size+1)::us,[]⟩ (Value.ref (s.heap.objs.size+1)::(us++ds)) _ _ E (hr.make C us [])
  (I2.env0.make C us []) (hb _ (Value.ref (s.heap.objs.size+1)::us) I2.kIn hl) r2 hq) λr s' hq'=>?_))
 cases r with
 |error e=>exact hx pins σ _ _ e s' I2 hq'
 |ok fl =>
  cases fl with
  |ret u =>
   obtain⟨v,H',I3,rv,ev,q3⟩:=I2.after hq';subst ev;exact⟨rv,⟨V.ref (s.heap.objs.size+1),H',I3,rfl,q3⟩⟩
  |next=>exact False.elim hq'
  |brk=>exact False.elim hq'
  |cont=>exact False.elim hq'
def zeR(M:Mk X.K C f)(F:z2d X.prog X.w X.K X.mg X.base CX k f fd ps sp)(hr:z1o (k+1) X.A)(hg:Gl X x)(hm:X.mg x=some (.ref C))(hb:z19 X.K fd ps ds)(hd:z0B dvs ds)(hx:z2C CX X E)(ha:PA X (e::es) t)(hdb:(x==("__debug__":Str))=false:=by decide)(he:starEach (e::es) X.env=(false,eval e X.env)::starEach es X.env:=by rfl)(hpl:(backTo pos (starEach es X.env)).any (·.1)=false:=by rfl) : PE X (.Call (.Name x p) (e::es) [] pos) (zjV C sp dvs E t):=by intro pins s σ H Q I h;refine y15 (z23 I hg hm ?_ hdb);refine y1O (h₀:=X.base) I.ok.mod.kin M.kp (thn (ha pos pins s σ H _ I h) λus s1 ⟨vs,H1,I1,r,q⟩=>⟨I1.kIn,?_⟩) he hpl;exact zcK M F hr hb hd hx I1 r q
end
structure z1d(N P:List Str)(sc:Scope):Prop where
 kind:sc.kind=.function:=by rfl
 co:sc.isCoroutine=false:=by rfl
 gen:sc.isGenerator=false:=by rfl
 nd:N.Nodup:=by decide +kernel
 pre:N.take P.length=P:=by rfl
 par:∀x∈P,sc.names.lookup x=some .local\/sc.names.lookup x=some .cell:=by decide +kernel
 nofree:∀y∈sc.names,y.2≠.free:=by decide +kernel
theorem z5H{kindOf:Str->Option NameKind}{x:Str}:∀{binds:List (Str × Value)}{m:yyS},(∀v,(x,v)∉binds)->bindL kindOf binds m x=m x
 |[],_,_=>rfl
 | (n,v)::r,m,h=>by
  unfold bindL;rw[z5H λw hw=>h w (y0d _ hw)];split
  .have:x≠n:=by rintro rfl;exact h v y0p
   simp[this]
  .rfl
theorem z6a{kindOf:Str->Option NameKind}{x:Str}:∀{binds:List (Str × Value)}{m:yyS},(∀v,(x,v)∉binds)->bindC kindOf binds m x=m x
 |[],_,_=>rfl
 | (n,v)::r,m,h=>by
  unfold bindC;rw[z6a λw hw=>h w (y0d _ hw)];split
  .rfl
  .have:x≠n:=by rintro rfl;exact h v y0p
   simp[this]
theorem z5E{kindOf:Str->Option NameKind}{x:Str}{v:Value}:∀{P:List Str}{vs:List Value}{i:Nat}{m:yyS},P.Nodup->P[i]?=some x->vs[i]?=some v->kindOf x=some .local ->
  bindL kindOf (P.zip vs) m x=some v
 |[],_,_,_,_,h,_,_=>by simp at h
 |_::_,[],_,_,_,_,h,_=>by simp at h
 |p::P,w::vs,0,m,nd,h1,h2,hk=>by
  simp at h1 h2;subst h1;subst h2;show bindL kindOf ((p,w)::P.zip vs) m p=_;unfold bindL;rw[z5H λv hv=>(y1l.mp nd).1 (y2e hv).1,if_pos hk];simp
 |p::P,w::vs,i+1,m,nd,h1,h2,hk=>by show bindL kindOf ((p,w)::P.zip vs) m x=_;unfold bindL;exact z5E (i:=i) (y1l.mp nd).2 (by simpa using h1) (by simpa using h2) hk
theorem z66{kindOf:Str->Option NameKind}{x:Str}{v:Value}:∀{P:List Str}{vs:List Value}{i:Nat}{m:yyS},P.Nodup->P[i]?=some x->vs[i]?=some v->kindOf x≠some .local ->
  bindC kindOf (P.zip vs) m x=some v
 |[],_,_,_,_,h,_,_=>by simp at h
 |_::_,[],_,_,_,_,h,_=>by simp at h
 |p::P,w::vs,0,m,nd,h1,h2,hk=>by
  simp at h1 h2;subst h1;subst h2;show bindC kindOf ((p,w)::P.zip vs) m p=_;unfold bindC;rw[z6a λv hv=>(y1l.mp nd).1 (y2e hv).1,if_neg hk];simp
 |p::P,w::vs,i+1,m,nd,h1,h2,hk=>by show bindC kindOf ((p,w)::P.zip vs) m x=_;unfold bindC;exact z66 (i:=i) (y1l.mp nd).2 (by simpa using h1) (by simpa using h2) hk
def start(N:List Str)(vs:List V):St:=vs.map some++List.replicate (N.length-vs.length) none
def z2a(CX:CXT)(P:Program)(w:World)(K:yyF)(mg:yyS)(base:Heap)(N:List Str)(qual:Str)(scope:Scope)(f:Addr)(cd:Value)(A:Around)(outer:List Env)(s:Shared)(H:Hp)(E:XK):Cx where
 prog:=P
 w:=w
 K:=K
 mg:=mg
 base:=base
 A:=A.deeper (envOfC qual scope s.heap.objs.size f cd)
 N:=N
 s₀:=s
 H₀:=H
 env:=envOfC qual scope s.heap.objs.size f cd
 outer:=outer
 stack:=envOfC qual scope s.heap.objs.size f cd::outer
 ex:=[]
 calm:=true
 fn:=λ_=>true
 pn:=[]
 xe:=λe s'=>wpAny (model P w) (A.deeper (envOfC qual scope s.heap.objs.size f cd)) (leaving (envOfC qual scope s.heap.objs.size f cd) e) (λ_ s''=>CX outer H s E e s'') (λe' s''=>CX outer H s E e' s'') s'
def z7W{sc:Scope}{n:Nat}{x:Str}(h:sc.names.lookup x=some .cell):∃c,(cellsFrom n sc.names []).lookup x=some c:=by have q:=y2O sc.names n [] (.inl h);exact y2y.mp q
def z6e{CX:CXT}{P:Program}{w:World}{K:yyF}{mg:yyS}{base:Heap}{N ps:List Str}{qual:Str}{scope:Scope}{f:Addr}{cd:Value}{A:Around}{outer:List Env}{s s1:Shared}{H:Hp}{E:XK}{us:List Value}{vs:List V}(S:z1d N ps scope)(hd:A.handled=none)(e0:zaA P w K mg base A outer s H)(hl:vs.length=ps.length)(r:z0B vs us)(x:InCallC s s.heap.objs.size (bindL (envOfC qual scope s.heap.objs.size f cd).kindOf (ps.zip us) λ_=>none) (cellsFrom (s.heap.objs.size+1) scope.names []) (bindC (envOfC qual scope s.heap.objs.size f cd).kindOf (ps.zip us) λ_=>none) s1) : Inv (z2a CX P w K mg base N qual scope f cd A outer s H E) [] (start N vs) H s1:=by
 have hpl:ps.length<=N.length:=by have:=y1M List.length S.pre;rw[y0I]at this;lia
 obtain⟨h1,tk,rfl,hk⟩:=x.done;have noA:∀b:Addr,b∉(z2a CX P w K mg base N qual scope f cd A outer s H E).ex:=λb z=>absurd (show b∈([]:List Addr)from z) (by simp);refine⟨⟨e0.mod,S.kind,rfl,rfl,y09 _,λy z c h1 h2=>?_,λy hy=>?_,λy c _ h=>?_,λ_=>hd,y39 e0.frames,.inr ⟨rfl,rfl⟩,λb z=>absurd z (noA b),e0.bs,e0.bsz,λb _ _=>noA b,λb z=>absurd z (noA b),e0.funs,e0.frf⟩,
  rfl,e0.bare,Un.kept hk,⟨_,x.toInCall.ns,λi y v h1 h2 h3=>?_⟩,λy c h=>⟨_,x.cell y c h⟩,e0.hok.fresh (y09 _),λy c h=>?_,λp hp=>absurd (show p∈([]:yyP)from hp) (by simp),e0.hok.kept hk,?_⟩
 .exact name_of_addr x.apart (y0V h1) (y0V h2)
 .have hy:scope.names.lookup y=some .cell\/scope.names.lookup y=some .free:=hy;rcases hy with hy|hy
  .exact z7W hy
  .exact absurd rfl (S.nofree _ (y0V hy))
 .exact y0Y (x.above y c (y0V h))
 .have hi:i<vs.length:=by
   unfold start at h2;by_cases hi:i<vs.length
   .exact hi
   .rw[y0E (by simpa using hi)]at h2;rw[y2F]at h2;split at h2<;>cases h2
  have ha:vs[i]?=some v:=by
   unfold start at h2;rw[y0A (by simpa using hi),y0l]at h2;cases e:vs[i]? with
   |none=>rw[e]at h2;cases h2
   |some a=>rw[e]at h2;cases h2;rfl
  obtain⟨u,hu,rv⟩:=r.get ha;have hp:ps[i]?=some y:=by rw[<-S.pre,List.getElem?_take_of_lt (by lia)];exact h1
  have ndP:ps.Nodup:=by rw[<-S.pre];exact S.nd.sublist (List.take_sublist _ _)
  refine⟨u,rv,?_⟩;rcases S.par y (y0M hp)with k|k
  .exact .inl ⟨k,z5E ndP hp hu k⟩
  .obtain⟨c,e⟩:=z7W (n:=s.heap.objs.size+1) k;refine .inr ⟨.inl k,c,e,?_⟩;have q:=x.cell y c e;rw[z66 ndP hp hu (by show scope.names.lookup y≠_;rw[k];decide)]at q;exact q
 .exact e0.hok.fresh (y0Y (x.above y c (y0V h)))
 .unfold start;show _=N.length;rw[y07,y01,y2f];lia
def zgB{CX:CXT}{P:Program}{w:World}{K:yyF}{mg:yyS}{base:Heap}{k:Nat}{f:Addr}{name qual:Str}{params:Arguments}{body:List Stmt}{scope:Scope}{dV kV doc pm cdv ct oc:Value}{an od:Option Addr}{osl:Array (Option Value)}{N ps:List Str}{sp:Sp}(lk:K.lookup f=some ⟨oc,od,.func (PySem.W.fnOf name qual params body scope dV kV doc pm an cdv ct),osl⟩)(hcd:PySem.W.codeIn K cdv qual=true)(S:z1d N ps scope)(len:∀vs H Q E,sp vs H Q E->vs.length=ps.length)(hbody:∀(A:Around)(outer:List Env)(s:Shared)(H:Hp)(vs:List V)(Q:VK)(E:XK),z1o k (A.deeper (envOfC qual scope s.heap.objs.size f cdv))->sp vs H Q E -> ∃t,PSs (z2a CX P w K mg base N qual scope f cdv A outer s H E) body t/\t { nx:=λ_ H'=>Q .non H',rt:=Q } (start N vs) H) : z2d P w K mg base CX (k+1) f (PySem.W.fnOf name qual params body scope dV kV doc pm an cdv ct) ps sp:=by
 refine⟨len,λA outer s H args us vs Q E hr e0 hb r hsp=>?_⟩;have hl:=len _ _ _ _ hsp;have KX:K.In s.heap:=e0.mod.kin.keeps λb o e=>(e0.bs b o e).1;have lim:s.heap.NoLimit:=e0.mod.nolimit.keeps λb o e=>(e0.bs b o e).1;have hkind:∀y∈ps.zip us,scope.names.lookup y.1=some .local\/(scope.names.lookup y.1=some .cell/\((cellsFrom (s.heap.objs.size+1) scope.names []).lookup y.1).isSome=true):=λ⟨n,v⟩ hy=>by
  rcases S.par n (y2e hy).1 with q|q
  .exact .inl q
  .exact .inr ⟨q,y2O _ _ _ (.inl q)⟩
 refine codeAny_call_function hr.depth (KX _ _ lk) rfl S.co S.gen rfl (PySem.W.codeRec_of KX hcd) (hb _ _ _ _ ?_);refine wpAny_newFunctionEnv_cells S.kind hkind λenv he s1 x=>?_;subst he;refine⟨lim.keeps x.toInCall.keep,codeAny_func ?_⟩;obtain⟨t,ht,hq⟩:=hbody A outer s H vs Q E (hr.deeper _) hsp;have I:Inv (z2a CX P w K mg base N qual scope f cdv A outer s H E) [] (start N vs) H s1:=z6e S hr.hd e0 hl r x;refine y0B (ht [] s1 (start N vs) H _ I hq) (λfl s' hs=>?_) λe s' hs=>hs;have fin:∀{σ':St}{H':Hp}{v:V}{u:Value},Inv (z2a CX P w K mg base N qual scope f cdv A outer s H E) [] σ' H' s'->z0y v u->Q v H'->CE outer P w H s Q u s' :=
  λ{σ' H' v u} J rv q=>⟨v,H',J.os,J.bare,J.base,J.hok,rv,q⟩
 cases fl with
 |ret u =>
  obtain⟨v,σ',H',J,rv,q⟩:=hs;exact fin J rv q
 |next =>
  obtain⟨σ',H',J,q⟩:=hs;exact fin (v:=V.non) (u:=Value.none) J rfl q
 |brk =>
  obtain⟨_,_,_,q⟩:=hs;exact False.elim q
 |cont =>
  obtain⟨_,_,_,q⟩:=hs;exact False.elim q
section
variable{X:Cx}{x:Str}{p pos:Pos}{e:Expr}{es:List Expr}{t:TA}{id T:String}{r:List V->Hp->VK->Prop}
def tCB(r:List V->Hp->VK->Prop)(t:TA):TE:=λσ H Q=>t σ H λvs H1=>r vs H1 Q
def z5h(hc:z0G X (.builtin id) r)(hg:Gl X x)(hm:X.mg x=none)(hv:bootBuiltins x=some (.builtin id))(ha:PA X (e::es) t)(hn:x≠"__name__":=by decide)(hdb:(x==("__debug__":Str))=false:=by decide)(he:starEach (e::es) X.env=(false,eval e X.env)::starEach es X.env:=by rfl)(hpl:(backTo pos (starEach es X.env)).any (·.1)=false:=by rfl):PE X (.Call (.Name x p) (e::es) [] pos) (tCB r t):=by intro pins s σ H Q I h;refine y15 (z3Q I hg hm hv ?_ hn hdb);exact PyProof.Rows.callWith_builtin1 (thn (ha pos pins s σ H _ I h) λus s1 ⟨vs,H1,I1,r1,q1⟩=>hc pins s1 σ H1 vs us Q I1 r1 q1) he hpl
def z1Q(hc:z0G X (.type T) r)(hg:Gl X x)(hm:X.mg x=none)(hv:bootBuiltins x=some (.type T))(ha:PA X (e::es) t)(hn:x≠"__name__":=by decide)(hdb:(x==("__debug__":Str))=false:=by decide)(he:starEach (e::es) X.env=(false,eval e X.env)::starEach es X.env:=by rfl)(hpl:(backTo pos (starEach es X.env)).any (·.1)=false:=by rfl):PE X (.Call (.Name x p) (e::es) [] pos) (tCB r t):=by intro pins s σ H Q I h;refine y15 (z3Q I hg hm hv ?_ hn hdb);exact y1C (thn (ha pos pins s σ H _ I h) λus s1 ⟨vs,H1,I1,r1,q1⟩=>hc pins s1 σ H1 vs us Q I1 r1 q1) he hpl
end
end L2
namespace HT
open PySem PyProof.Rows
section
variable{prog:Program}{w:World}{A:Around}{E:yyE}{s:Shared}
def cat_tup{t b:Addr}{vs ws:List Value}{Q:yyE}(ht:IsTup s.heap t vs.toArray)(hb:IsTup s.heap b ws.toArray)(hv:vs≠[])(h1:ws=[]->Q (.ref t) s)(h2:ws≠[]->Q (.ref s.heap.objs.size) { s with heap:=s.heap.push { cls:=.type "tuple",data:=.seq (vs++ws).toArray } })(hsz:vs.length+ws.length<=sizeLine):wpAny (model prog w) A (binaryOp .Add (.ref t) (.ref b)) Q E s:=by
 obtain⟨⟨cls,dd,data,sl⟩,ho,hc,n,hd⟩:=id ht;obtain⟨⟨cls2,dd2,data2,sl2⟩,ho2,hc2,n2,hd2⟩:=id hb;simp only at hc hd hc2 hd2;subst hc hd hc2 hd2;have e:vs.toArray++ws.toArray=(vs++ws).toArray:=by simp
 by_cases hw:ws=[]
 .exact concat_meets ⟨_,ho,rfl⟩ ⟨_,ho2,rfl⟩ noFill_tuple_add seq_tuple_add y2P y2G (y2z _ _)
   (tuple_addW1 t b vs.toArray ws.toArray n n2 dd dd2 sl sl2 (by simpa using hv) (by simp[hw])) ⟨ho,ho2,h1 hw⟩
 .refine concat_meets ⟨_,ho,rfl⟩ ⟨_,ho2,rfl⟩ noFill_tuple_add seq_tuple_add y2P y2G (y2z _ _)
   (tuple_addW2 t b vs.toArray ws.toArray n n2 dd dd2 sl sl2 (by simpa using hv) (by simpa using hw) (by rw[y0g,y0g];exact hsz)) ⟨ho,ho2,?_⟩
  rw[e];exact h2 hw
def sIx(n d:Nat):Option Int->Nat
 |none=>d
 |some v=>if v<0 then(v+(n:Int)).toNat else min v.toNat n
def sIx_none(n d:Nat):sIx n d none=d:=rfl
def sIx_nat(n d k:Nat):sIx n d (some (k:Int))=min k n:=by show(if(k:Int)<0 then((k:Int)+(n:Int)).toNat else min (k:Int).toNat n)=min k n;rw[if_neg (by lia),y19]
def zin(n d:Nat)(hd:d<=n)(o:Option Int):sIx n d o<=n:=by
 cases o with
 |none=>exact hd
 |some v =>
  show(if v<0 then(v+(n:Int)).toNat else min v.toNat n)<=n;by_cases hv:v<0
  .rw[if_pos hv];lia
  .rw[if_neg hv];exact Nat.min_le_right _ _
def z9A(v:Int)(n d:Nat):(if v<0 then max (v+(n:Int)) 0 else min v (n:Int))=((sIx n d (some v):Nat):Int):=by
 show(if v<0 then max (v+(n:Int)) 0 else min v (n:Int))=(((if v<0 then(v+(n:Int)).toNat else min v.toNat n):Nat):Int);by_cases hv:v<0
 .simp only[if_pos hv];lia
 .simp only[if_neg hv];lia
def z91(lo hi:Option Int)(n:Nat):Builtin.Slice.sliceAdjust lo hi 1 (n:Int)=(((sIx n 0 lo:Nat):Int),((sIx n n hi:Nat):Int)):=by
 have h1:¬((1:Int)<0):=by lia
 unfold Builtin.Slice.sliceAdjust;simp only[h1,if_false];refine Prod.ext ?_ ?_
 .cases lo with
  |none=>rfl
  |some v=>exact z9A v n 0
 .cases hi with
  |none=>rfl
  |some v=>exact z9A v n n
def z92(i j:Nat):Builtin.Slice.slicePlaces (i:Int) (j:Int) 1=j-i:=by
 unfold Builtin.Slice.slicePlaces;have h1:(1:Int)>0:=by lia
 simp only[h1,if_true,Int.ediv_one];split<;>lia
def z4g{v:Value}{o:Option Int}{Q:Option Int->Shared->Prop}(p:IsPart v o)(h:Q o s):wpAny (model prog w) A (Builtin.Slice.slicePartIndex v) Q E s:=by
 cases p with
 |none=>exact slicePart_none h
 |int i t=>exact slicePart_int h
def sliceApplied_gen{sl:Addr}{vl vu:Value}{lo hi:Option Int}{n:Nat}{Q:Int × Int × Nat->Shared->Prop}(hs:s.heap.IsSliceOf sl vl vu .none)(pl:IsPart vl lo)(pu:IsPart vu hi)(h:Q (((sIx n 0 lo:Nat):Int),1,sIx n n hi-sIx n 0 lo) s):wpAny (model prog w) A (Builtin.Slice.sliceApplied (.ref sl) (pure (n:Int))) Q E s:=by
 obtain⟨os,hos,hcs,hds⟩:=id hs;unfold Builtin.Slice.sliceApplied Builtin.Slice.sliceFields;refine y00 (y00 (y14 hos hds (x:=vl) rfl (y00 (y14 hos hds (x:=vu) rfl (y00 (y14 hos hds (x:=.none) rfl (y03 ?_)))))));refine y00 (slicePart_none ?_);show wpAny _ _ (if((1:Int)==0)=true then _ else _) _ _ s;rw[if_neg (by decide)];refine y00 (z4g pl (y00 (z4g pu (y00 (y03 ?_)))));show wpAny _ _ (match Builtin.Slice.sliceAdjust lo hi 1 (n:Int)with|(lo,hi)=>pure (lo,(1:Int),Builtin.Slice.slicePlaces lo hi 1)) _ _ s
 rw[z91 lo hi n];show wpAny _ _ (pure (((sIx n 0 lo:Nat):Int),(1:Int),Builtin.Slice.slicePlaces ((sIx n 0 lo:Nat):Int) ((sIx n n hi:Nat):Int) 1)) _ _ s;rw[z92];exact y03 h
def zcN(xs:Array Value)(i k:Nat):((List.range k).filterMap λ(m:Nat)=>xs[((i:Int)+(m:Int)*1).toNat]?).toArray=((xs.toList.drop i).take k).toArray:=by
 have e:(λ(m:Nat)=>xs[((i:Int)+(m:Int)*1).toNat]?)=λm=>xs[i+m]?:=by
  funext m;have:((i:Int)+(m:Int)*1).toNat=i+m:=by lia
  rw[this]
 rw[e];have:=pick_run xs i k;rw[List.filterMap_map]at this;have e2:((λx=>xs[x]?)∘λx=>i+x)=λm=>xs[i+m]?:=rfl;rw[e2]at this;rw[this]
def getItem_tuple_cut{t sl:Addr}{items:Array Value}{vl vu:Value}{lo hi:Option Int}{Q:yyE}(ht:IsTup s.heap t items)(hs:s.heap.IsSliceOf sl vl vu .none)(pl:IsPart vl lo)(pu:IsPart vu hi)(hw:¬(sIx items.size 0 lo=0/\sIx items.size items.size hi=items.size))(h:Q (.ref s.heap.objs.size) { s with heap:=s.heap.push { cls:=.type "tuple",data:=.seq ((items.toList.drop (sIx items.size 0 lo)).take (sIx items.size items.size hi-sIx items.size 0 lo)).toArray } })(hsz:items.size<=sizeLine):wpAny (model prog w) A (getItem (.ref t) (.ref sl)) Q E s:=by
 have htake:sizeOk (.seq ((items.toList.drop (sIx items.size 0 lo)).take (sIx items.size items.size hi-sIx items.size 0 lo)).toArray):=by show((items.toList.drop (sIx items.size 0 lo)).take (sIx items.size items.size hi-sIx items.size 0 lo)).toArray.size<=sizeLine;rw[y0g,y0I,y1g,y18];lia
 have hj:sIx items.size items.size hi<=items.size:=zin _ _ (y09 _) hi;obtain⟨os,hos,hcs,hds⟩:=id hs;have hTs:s.TypeIs (.ref sl) "slice":=⟨os,hos,hcs⟩;unfold getItem;try with_reducible refine y0C ?_
 first|refine y00 (y03 ?_)|skip
 refine y00 (wpAny_sequenceKey ht.typeIs (by decide) ?_);refine y00 (y0P (name:=Str.ofString "__getitem__") ht.typeIs y0S
  (y0Q y0S ht.typeIs entry_tuple_getitem ?_ (args_tuple_getitem _ _)))
 show wpAny _ _ (Builtin.Tuple.tupleItemsOf (.ref t)>>=_) _ _ s;refine y00 (tupleItemsOf_ ht ?_);refine y00 (y3p hTs ?_);rw[if_pos (by decide)];refine y00 (sliceApplied_gen hs pl pu ?_);have hno:¬((((sIx items.size 0 lo:Nat):Int)==0&&(1:Int)==1&&(sIx items.size items.size hi-sIx items.size 0 lo)==items.size)=true):=by intro q;rw[y0b,y0b]at q;have q1:((sIx items.size 0 lo:Nat):Int)=0:=eq_of_beq q.1.1;have q2:sIx items.size items.size hi-sIx items.size 0 lo=items.size:=eq_of_beq q.2;exact hw ⟨by lia,by lia⟩
 show wpAny _ _ (if(((sIx items.size 0 lo:Nat):Int)==0&&(1:Int)==1&&(sIx items.size items.size hi-sIx items.size 0 lo)==items.size)=true then _ else _) _ _ s;rw[if_neg hno,zcN];first
  |exact y00 (m:=Builtin.Tuple.tupleExact _) (y0T (y03 ⟨_,rfl,y03 h⟩) htake)
  |exact y00 (m:=Builtin.Tuple.tupleExact _) (y0T (y00 (y03 (y03 ⟨_,rfl,y03 h⟩))) htake)
  |exact y00 (y00 (m:=Builtin.Tuple.tupleExact _) (y0T (y03 (y03 ⟨_,rfl,y03 h⟩)) htake))
  |exact y00 (y00 (m:=Builtin.Tuple.tupleExact _) (y0T (y03 ⟨_,rfl,y03 h⟩) htake))
end
end HT
namespace L2
open PySem PySem.Spec PyProof.Rows
abbrev TO:=St->Hp->(Option Int->Hp->Prop)->Prop
def PO(X:Cx)(e:Option Expr)(t:TO):Prop :=
 ∀(pins:yyP)(s:Shared)(σ:St)(H:Hp)(Q:Option Int->Hp->Prop),Inv X pins σ H s->t σ H Q ->
  wpAny (model X.prog X.w) X.A (evalPart e X.env) (λu s'=>∃o H',Inv X pins σ H' s'/\IsPart u o/\Q o H') X.xe s
def zfd:TO:=λ_ H Q=>Q none H
def zka(t:TE):TO:=λσ H Q=>t σ H λx H1=>∃i,x=.int i/\Q (some i) H1
section
variable{X:Cx}{e:Expr}{te:TE}{lo hi:Option Expr}{tl th:TO}{pos p2:Pos}
def zfm:PO X none zfd:=by intro pins s σ H Q I h;rw[evalPart_none];exact y03 ⟨none,H,I,.none,h⟩
def zey(h:PE X e te):PO X (some e) (zka te):=by intro pins s σ H Q I hw;rw[evalPart_some];refine z2K (h pins s σ H _ I hw) λu s1 x H1 I1 r1 q1=>?_;obtain⟨i,rfl,q⟩:=q1;obtain⟨t,rfl⟩:=r1;exact⟨some i,H1,I1,.int i t,q⟩
def SlR(X:Cx)(r:V->Option Int->Option Int->Hp->VK->Prop):Prop :=
 ∀(pins:yyP)(s:Shared)(σ:St)(H:Hp)(x:V)(v vl vu:Value)(lo hi:Option Int)(sl:Addr)(Q:VK),Inv X pins σ H s->z0y x v->s.heap.IsSliceOf sl vl vu .none->IsPart vl lo->IsPart vu hi->r x lo hi H Q ->
  ∃T id,typeLookup (.type T) "__getitem__"=pure (some (.builtin id))/\s.TypeIs v T/\wpAny (model X.prog X.w) X.A (getItem v (.ref sl)) (EP X pins σ Q) X.xe s
def tSl(r:V->Option Int->Option Int->Hp->VK->Prop)(te:TE)(tl th:TO):TE:=λσ H Q=>te σ H λx H1=>tl σ H1 λl H2=>th σ H2 λu H3=>r x l u H3 Q
def zbP{r:V->Option Int->Option Int->Hp->VK->Prop}(hr:SlR X r)(he:PE X e te)(hl:PO X lo tl)(hu:PO X hi th):PE X (.Subscript e (.Slice lo hi none p2) pos) (tSl r te tl th):=by intro pins s σ H Q I h;refine Subscript_ (z2K (he pins s σ H _ I h) λv s1 x H1 I1 r1 q1=>?_);refine wpAny_Slice (thn (hl pins s1 σ H1 _ I1 q1) λvl s2 ⟨l,H2,I2,pl,q2⟩=>thn (hu pins s2 σ H2 _ I2 q2) λvu s3 hz8=>?_);obtain⟨u,H3,I3,pu,q3⟩:=hz8;rw[evalPart_none];refine y03 ?_;have I4:Inv X pins σ H3 { s3 with heap:=s3.heap.push { cls:=.type "slice",data:=.fields #[vl,vu,.none] } }:=I3.kept (t':=s3.toks) λb ob q=>y02 _ q;obtain⟨T,id,hT,ht,hg⟩:=hr pins { s3 with heap:=s3.heap.push { cls:=.type "slice",data:=.fields #[vl,vu,.none] } } σ H3 x v vl vu l u s3.heap.objs.size Q I4 r1 (Heap.IsSliceOf.new ..) pl pu q3;show wpAny (model X.prog X.w) X.A (subscriptTail e (.Slice lo hi none p2) v (.ref s3.heap.objs.size)) (EP X pins σ Q) X.xe { s3 with heap:=s3.heap.push { cls:=.type "slice",data:=.fields #[vl,vu,.none] } };exact tail_any (ops:=[.ref s3.heap.objs.size,v]) ht hT hg (by with_unfolding_all rfl)
def za5(xs:List V)(lo hi:Option Int):List V:=(xs.drop (HT.sIx xs.length 0 lo)).take (HT.sIx xs.length xs.length hi-HT.sIx xs.length 0 lo)
def z3e(xs:List V)(lo hi:Option Int):(za5 xs lo hi).length<=xs.length:=by unfold za5;rw[y0I,y1g];lia
def zlA(K:yyF):V->Option Int->Option Int->Hp->VK->Prop:=λx lo hi H Q=>∃a xs,x=.ref a/\SqT K H a xs /\
 ¬(HT.sIx xs.length 0 lo=0/\HT.sIx xs.length xs.length hi=xs.length)/\∀p,H p=none->Q (.ref p) (upd H p (.tup (za5 xs lo hi)))
def zhN:SlR X (zlA X.K):=by
 intro pins s σ H x v vl vu lo hi sl Q I rx hs pl pu h;obtain⟨a,xs,rfl,hx,hw,q⟩:=h;cases rx;obtain⟨its,r,ht,hz⟩:=I.tuple hx;have hlen:its.toArray.size=xs.length:=by rw[y0g];exact r.length.symm
 refine⟨"tuple",_,y0S.lookup,ht.typeIs,?_⟩;refine HT.getItem_tuple_cut ht hs pl pu (by rw[hlen];exact hw) ?_ (by rw[hlen];exact hz);rw[hlen];refine⟨.ref s.heap.objs.size,_,I.laid (t':=s.toks) (o:=.tup (za5 xs lo hi)) (λb ob q=>y02 _ q) (y09 _) ?_,rfl,q _ (I.hok.fresh (y09 _))⟩;exact⟨y0e (z3e xs lo hi) hz,_,0,(r.drop (HT.sIx xs.length 0 lo)).take (HT.sIx xs.length xs.length hi-HT.sIx xs.length 0 lo),y04 _ rfl⟩
def zk3(K:yyF):R2:=λx y H Q=>∃a b xs ys,x=.ref a/\y=.ref b/\SqT K H a xs/\SqT K H b ys/\xs≠[]/\xs.length+ys.length<=sizeLine /\
 (ys=[]->Q (.ref a) H)/\(ys≠[]->∀p,H p=none->Q (.ref p) (upd H p (.tup (xs++ys))))
def z0B.nil_iff{xs:List V}{us:List Value}(r:z0B xs us):us=[]↔xs=[]:=by
 cases r with
 |nil=>simp
 |cons _ _=>simp
def zeM:OpR X (binaryOp .Add) (zk3 X.K):=by intro pins s σ H x y v u Q I rx ry h;obtain⟨a,b,xs,ys,rfl,rfl,ha,hb,hx,hz,q1,q2⟩:=h;cases rx;cases ry;obtain⟨its,r1,p1,_⟩:=I.tuple ha;obtain⟨its2,r2,p2,_⟩:=I.tuple hb;refine HT.cat_tup p1 p2 (λz=>hx (r1.nil_iff.mp z)) (λz=>⟨.ref a,H,I,rfl,q1 (r2.nil_iff.mp z)⟩) (λz=>?_) (by rw[<-r1.length,<-r2.length];exact hz);refine⟨.ref s.heap.objs.size,_,I.laid (t':=s.toks) (o:=.tup (xs++ys)) (λb ob q=>y02 _ q) (y09 _) ?_,rfl,q2 (λw=>z (r2.nil_iff.mpr w)) _ (I.hok.fresh (y09 _))⟩;exact⟨by rw[y07];exact hz,_,0,r1.append r2,y04 _ rfl⟩
end
def ixN(n:Nat)(i:Int):Option Nat:=if 0<=i then(if i<n then some i.toNat else none)else if -(n:Int)<=i then some (i+n).toNat else none
def atI{α:Type}(xs:List α)(i:Int):Option α:=(ixN xs.length i).bind λj=>xs[j]?
def zer{n:Nat}{i:Int}{j:Nat}(h:ixN n i=some j):seqIndex? i n=some j/\j<n/\-(n:Int)<=i/\i<n:=by
 unfold ixN at h;by_cases h0:0<=i
 .rw[if_pos h0]at h;by_cases h1:i<n
  .rw[if_pos h1]at h;have e:i.toNat=j:=y06 h;exact⟨by rw[seqIndex_of h0 h1,e],by lia,by lia,h1⟩
  .rw[if_neg h1]at h;cases h
 .rw[if_neg h0]at h;by_cases h1:-(n:Int)<=i
  .rw[if_pos h1]at h;have e:(i+n).toNat=j:=y06 h;exact⟨by rw[seqIndex_neg (by lia) h1,e],by lia,h1,by lia⟩
  .rw[if_neg h1]at h;cases h
def zaV{α:Type}{xs:List α}{i:Int}{v:α}(h:atI xs i=some v):∃j,seqIndex? i xs.length=some j/\xs[j]?=some v/\j<xs.length/\-(xs.length:Int)<=i/\i<xs.length:=by
 unfold atI at h;cases e:ixN xs.length i with
 |none=>rw[e]at h;cases h
 |some j =>
  rw[e]at h;obtain⟨h1,h2,h3,h4⟩:=zer e;exact⟨j,h1,h,h2,h3,h4⟩
def z9N(b:Expr):Prop:=∀o i,subscripted b false o i=operate [o,i] (getItem o i)
def IxR(X:Cx)(r:R2):Prop :=
 ∀(value slice:Expr)(pins:yyP)(s:Shared)(σ:St)(H:Hp)(x y:V)(v u:Value)(Q:VK),Inv X pins σ H s->z0y x v->z0y y u->r x y H Q ->
  subscripted slice false v u=operate [v,u] (getItem v u)->wpAny (model X.prog X.w) X.A (subscriptTail value slice v u) (EP X pins σ Q) X.xe s
def MtR(X:Cx)(id:String)(r:V->List V->Hp->VK->Prop):Prop :=
 ∀(pins:yyP)(s:Shared)(σ:St)(H:Hp)(x:V)(xs:List V)(v:Value)(us:List Value)(Q:VK),Inv X pins σ H s->z0y x v->z0B xs us->r x xs H Q ->
  wpAny (model X.prog X.w) X.A (call (.builtin id) (v::us)) (EP X pins σ Q) X.xe s
section
variable{X:Cx}{a b:Expr}{ta tb:TE}{pos:Pos}
def zkc{r:R2}(hr:IxR X r)(ha:PE X a ta)(hb:PE X b tb)(hs:z9N b):PE X (.Subscript a b pos) (tOp r ta tb):=by intro pins s σ H Q I h;exact Subscript_ (zjK ha hb I h λv u s2 x y H2 I2 rx ry q=>hr a b pins s2 σ H2 x y v u Q I2 rx ry q (hs _ _))
def zlu(K:yyF):R2:=λx y H Q=>∃p xs i v,x=.ref p/\y=.int i/\SqL K H p xs/\atI xs i=some v/\Q v H
def zlM(K:yyF):R2:=λx y H Q=>∃p xs i v,x=.ref p/\y=.int i/\SqT K H p xs/\atI xs i=some v/\Q v H
def zem:IxR X (zlu X.K):=by
 intro value slice pins s σ H x y v u Q I rx ry h hs;obtain⟨p,xs,i,z,rfl,rfl,hq,he,q⟩:=h;cases rx;obtain⟨t,rfl⟩:=ry;obtain⟨its,r,pl,hz⟩:=I.list hq;obtain⟨j,h1,h2,h3,h4,h5⟩:=zaV he;obtain⟨w,ew,rw'⟩:=r.get h2;have hl:=r.length;have hn:=z3A;have fin:EP X pins σ Q w s:=⟨z,H,I,rw',q⟩;by_cases h0:0<=i
 .have hj:i.toNat=j:=by
   rw[seqIndex_of h0 h5]at h1;exact y06 h1
  exact item_listR pl.isList h0 (by lia) (by rw[hj];simpa using ew) fin hs
 .have hj:(i+(its.toArray.size:Int)).toNat=j:=by
   rw[seqIndex_neg (by lia) h4]at h1;rw[y0g,<-hl];exact y06 h1
  exact subscriptTail_builtinR (x:=w) pl.isList.typeIs slot_list_getitem.lookup
   (wpAny_getItem_list_neg (Q:=λr s'=>r=w/\EP X pins σ Q r s') pl.isList (by lia) (by rw[y0g]<;>lia) (by lia) (by rw[hj];simpa using ew) ⟨rfl,fin⟩) hs
def zhH:IxR X (zlM X.K):=by
 intro value slice pins s σ H x y v u Q I rx ry h hs;obtain⟨p,xs,i,z,rfl,rfl,hq,he,q⟩:=h;cases rx;obtain⟨t,rfl⟩:=ry;obtain⟨its,r,pl,hz⟩:=I.tuple hq;obtain⟨j,h1,h2,h3,h4,h5⟩:=zaV he;obtain⟨w,ew,rw'⟩:=r.get h2;have hl:=r.length;have hn:=z3A;have fin:EP X pins σ Q w s:=⟨z,H,I,rw',q⟩;exact subscriptTail_builtinR (x:=w) pl.typeIs slot_tuple_getitem.lookup
  (getItem_tuple (j:=j) (Q:=λr s'=>r=w/\EP X pins σ Q r s') pl (by lia) (by lia) (by rw[y0g,<-hl];exact h1) (by simpa using ew) ⟨rfl,fin⟩) hs
def z6m(lo hi:Option Int)(n:Nat):(sliceBounds lo hi none n).1=((HT.sIx n 0 lo:Nat):Int)/\(sliceBounds lo hi none n).2.1=((HT.sIx n n hi:Nat):Int)/\(sliceBounds lo hi none n).2.2=1:=by
 refine⟨?_,?_,rfl⟩
 .cases lo with
  |none=>simp[sliceBounds,HT.sIx]
  |some i =>
   simp only[sliceBounds,HT.sIx,Option.getD_none,show(1:Int)>0 by decide,if_true];by_cases h:i<0
   .simp only[h,if_true]<;>lia
   .simp only[h,if_false]<;>lia
 .cases hi with
  |none=>simp[sliceBounds,HT.sIx]
  |some i =>
   simp only[sliceBounds,HT.sIx,Option.getD_none,show(1:Int)>0 by decide,if_true];by_cases h:i<0
   .simp only[h,if_true]<;>lia
   .simp only[h,if_false]<;>lia
def z53(its:List Value)(lo hi:Option Int):slicePick its.toArray lo hi none=((its.drop (HT.sIx its.length 0 lo)).take (HT.sIx its.length its.length hi-HT.sIx its.length 0 lo)).toArray:=by obtain⟨h1,h2,h3⟩:=z6m lo hi its.toArray.size;unfold slicePick;rw[h1,h2,h3];simp only[sliceRange_one,pick_run,y0g]<;>rfl
def zmk(K:yyF):V->Option Int->Option Int->Hp->VK->Prop:=λx lo hi H Q=>∃a xs,x=.ref a/\SqL K H a xs/\∀p,H p=none->Q (.ref p) (upd H p (.lst (za5 xs lo hi)))
def zfc:SlR X (zmk X.K):=by intro pins s σ H x v vl vu lo hi sl Q I rx hs pl pu h;obtain⟨a,xs,rfl,hx,q⟩:=h;cases rx;obtain⟨its,r,ht,hz⟩:=I.list hx;have hlen:=r.length;refine⟨"list",_,slot_list_getitem.lookup,ht.isList.typeIs,?_⟩;refine wpAny_getItem_list_slice ht.isList hs pl pu .none (by simp) ?_ (by rw[y0g]<;>lia);rw[z53,<-hlen];refine⟨.ref s.heap.objs.size,_,I.laid (t':=s.toks) (o:=.lst (za5 xs lo hi)) (λb ob q=>y02 _ q) (y09 _) ?_,rfl,q _ (I.hok.fresh (y09 _))⟩;exact⟨y0e (z3e xs lo hi) hz,_,0,(r.drop (HT.sIx xs.length 0 lo)).take (HT.sIx xs.length xs.length hi-HT.sIx xs.length 0 lo),y04 _ rfl⟩
def z1X:z0G X (.builtin "len") (λxs H Q=>∃p ys,xs=[.ref p]/\(SqL X.K H p ys\/SqT X.K H p ys)/\Q (.int ys.length) H):=by
 intro pins s σ H xs us Q I r h;obtain⟨p,ys,rfl,hq,q⟩:=h;obtain⟨u,rfl,rx⟩:=z1q r;cases rx;have hn:=z3A;rcases hq with hq|hq
 .obtain⟨its,r',pl,hz⟩:=I.list hq;have hlen:=r'.length;exact Calls.call_len_list pl.isList (by simp only[y0g]<;>lia) ⟨.int ys.length,H,I.tok _,⟨s.toks+1,by rw[y0g,hlen]⟩,q⟩
 .obtain⟨its,r',pl,hz⟩:=I.tuple hq;have hlen:=r'.length;exact len_tuple pl (by simp only[y0g]<;>lia) ⟨.int ys.length,H,I.tok _,⟨s.toks+1,by rw[y0g,hlen]⟩,q⟩
def z6f:z0G X (.builtin "len") (λxs H Q=>∃z,xs=[.str z]/\z.length<=sizeLine/\Q (.int z.length) H):=by intro pins s σ H xs us Q I r h;obtain⟨z,rfl,hz,q⟩:=h;obtain⟨u,rfl,t,rfl⟩:=z1q r;have hn:=z3A;exact len_str (by lia) ⟨.int z.length,H,I.tok _,⟨_,rfl⟩,q⟩
def z2q:z0G X (.type "tuple") (λxs H Q=>∃p ys,xs=[.ref p]/\((SqL X.K H p ys/\∀l,H l=none->Q (.ref l) (upd H l (.tup ys)))\/(SqT X.K H p ys/\Q (.ref p) H))):=by
 intro pins s σ H xs us Q I r h;obtain⟨p,ys,rfl,h⟩:=h;obtain⟨u,rfl,rx⟩:=z1q r;cases rx;rcases h with⟨hq,q⟩|⟨hq,q⟩
 .obtain⟨its,r',pl,hz⟩:=I.list hq;have hlen:=r'.length;refine call_tuple_list pl.isList (λh' kp=>?_) (by simp only[y0g]<;>lia);have I1:Inv X pins σ H { s with heap:=h' }:=I.kept (t':=s.toks) kp;have I2:Inv X pins σ (upd H h'.objs.size (.tup ys)) { s with heap:=h'.push { cls:=.type "tuple",data:=.seq its.toArray } } :=
   I1.laid (t':=s.toks) (λb o e=>y02 _ e) (y09 _) (show z0K X.prog X.w _ _ _ (.tup ys)from⟨hz,its,0,r',y04 _ rfl⟩)
  exact⟨.ref h'.objs.size,_,I2,rfl,q _ (I1.hok.fresh (y09 _))⟩
 .obtain⟨its,r',pl,hz⟩:=I.tuple hq;exact call_tuple_same pl ⟨.ref p,H,I,rfl,q⟩
def tyV(K:yyF)(T:String)(x:V)(H:Hp):Prop:=match x with
 |.str _=>T="str"
 |.int _=>T="int"
 |.ref p=>(T="list"/\∃xs,SqL K H p xs)\/(T="tuple"/\((∃o,K.lookup p=some o/\o.cls=.type "tuple"/\o.dict=none)\/∃xs,H p=some (.tup xs))) \/
   (T="dict"/\((∃kvs,H p=some (.dK kvs))\/∃kvs,H p=some (.dT kvs)))\/(T="set"/\∃S n,H p=some (.set S n))
 |_=>False
def zdA{pins:yyP}{σ:St}{H:Hp}{s:Shared}{T:String}{x:V}{v:Value}(I:Inv X pins σ H s)(r:z0y x v)(ty:tyV X.K T x H) : s.TypeIs v T/\∀a,v=.ref a->∃ob,s.heap.get? a=some ob/\ob.dict=none:=by
 cases x with
 |str z =>
  obtain⟨t,rfl⟩:=r;cases(show T="str" from ty);exact⟨y3i s z t,λ_ e=>nomatch e⟩
 |int i =>
  obtain⟨t,rfl⟩:=r;cases(show T="int" from ty);exact⟨y3j s i t,λ_ e=>nomatch e⟩
 |ref p =>
  cases r;rcases ty with⟨rfl,xs,hq⟩|⟨rfl,⟨o,hk,hc,hd⟩|⟨xs,hq⟩⟩|⟨rfl,hk⟩|⟨rfl,S,n,hk⟩
  .obtain⟨its,_,pl,_⟩:=I.list hq;refine⟨pl.isList.typeIs,λa e=>?_⟩;cases e;obtain⟨o,n,e,c,hd,_⟩:=pl;exact⟨o,e,hd⟩
  .refine⟨⟨o,I.kIn p o hk,hc⟩,λa e=>?_⟩;cases e;exact⟨o,I.kIn _ o hk,hd⟩
  .obtain⟨_,its,n,_,h1⟩:=(show z0K X.prog X.w H s.heap p (.tup xs)from I.hok p _ hq);refine⟨⟨_,h1,rfl⟩,λa e=>?_⟩;cases e;exact⟨_,h1,rfl⟩
  .have z:∃o,s.heap.get? p=some o/\o.ExactDict:=by
    rcases hk with⟨kvs,hk⟩|⟨kvs,hk⟩
    .obtain⟨_,_,_,_,o,_,_,e,ex,_⟩:=I.hok p _ hk;exact⟨o,e,ex⟩
    .obtain⟨_,_,_,_,o,_,_,e,ex,_⟩:=I.hok p _ hk;exact⟨o,e,ex⟩
   obtain⟨o,e,ex⟩:=z;refine⟨⟨o,e,ex.1⟩,λa e2=>?_⟩;cases e2;exact⟨o,e,ex.2.1⟩
  .obtain⟨o,_,_,_,e,ex,_⟩:=I.hok p _ hk;refine⟨⟨o,e,ex.1⟩,λa e2=>?_⟩;cases e2;exact⟨o,e,ex.2.1⟩
 |_=>exact False.elim ty
def zm8(K:yyF)(T:String)(r:V->List V->Hp->VK->Prop)(to:TE):TE:=λσ H Q=>to σ H λx H1=>tyV K T x H1/\r x [] H1 Q
def tBM(K:yyF)(T:String)(r:V->List V->Hp->VK->Prop)(to:TE)(t:TA):TE:=λσ H Q=>to σ H λx H1=>tyV K T x H1/\t σ H1 λxs H2=>r x xs H2 Q
variable{o e:Expr}{es:List Expr}{to:TE}{t:TA}{name:Str}{apos cpos:Pos}{T id:String}{r:V->List V->Hp->VK->Prop}
def zh1(pa:PlainAttrs T)(slot:Slot T name id)(hty:typeOf (.builtin id)=pure (.type "method_descriptor"))(hm:MtR X id r)(ho:PE X o to)(hbase:attributeBase o name X.env (eval o X.env)=eval o X.env:=by rfl)(hline:(apos.endLine==cpos.line)=true:=by rfl):PE X (.Call (.Attribute o name apos) [] [] cpos) (zm8 X.K T r to):=by intro pins s σ H Q I h;refine wpAny_Call_method0_late hbase hline (z2K (ho pins s σ H _ I h) λv s1 x H1 I1 r1 hz9=>?_);obtain⟨ty,q1⟩:=hz9;obtain⟨h1,h2⟩:=zdA I1 r1 ty;exact⟨T,id,pa,slot,hty,h1,h2,y2Q rfl (PySem.evalArgs_none (hm pins s1 σ H1 x [] v [] Q I1 r1 .nil q1))⟩
def zjh(pa:PlainAttrs T)(slot:Slot T name id)(hty:typeOf (.builtin id)=pure (.type "method_descriptor"))(hm:MtR X id r)(ho:PE X o to)(ha:PA X (e::es) t)(hbase:attributeBase o name X.env (eval o X.env)=eval o X.env:=by rfl)(hfew:((backTo cpos (starEach (e::es) X.env)).all (λx=>!x.1)&&(backToKw cpos (keywordEach [] X.env)).all (λx=>x.1.isSome)&&decide ((e::es).length+([]:List Keyword).length+(if([]:List Keyword).isEmpty then 0 else 1)<30))=true:=by rfl)(hline:(apos.endLine==cpos.line)=true:=by rfl)(hs:starEach (e::es) X.env=(false,eval e X.env)::starEach es X.env:=by rfl)(hplain:(backTo cpos (starEach es X.env)).any (·.1)=false:=by rfl) : PE X (.Call (.Attribute o name apos) (e::es) [] cpos) (tBM X.K T r to t):=by intro pins s σ H Q I h;refine wpAny_Call_method_late hbase hfew hline rfl (z2K (ho pins s σ H _ I h) λv s1 x H1 I1 r1 hz9=>?_);obtain⟨ty,q1⟩:=hz9;obtain⟨h1,h2⟩:=zdA I1 r1 ty;refine⟨T,id,pa,slot,hty,h1,h2,?_⟩;have hA:=ha cpos pins s1 σ H1 _ I1 q1;rw[hs]at hA⊢;refine y2Q (by show(false||(backTo cpos (starEach es X.env)).any (·.1))=false;rw[hplain]<;>rfl) (y3a ?_);exact thn hA λus s2 ⟨vs,H2,I2,r2,q2⟩=>hm pins s2 σ H2 x vs v us Q I2 r1 r2 q2
end
def MtM(X:Cx)(id:String)(r:V->List V->Hp->VK->Prop):Prop :=
 ∀(pins:yyP)(s:Shared)(σ:St)(H:Hp)(x:V)(xs:List V)(v:Value)(us:List Value)(Q:VK),Inv X pins σ H s->z0y x v->z0B xs us->r x xs H Q ->
  wpAny (model X.prog X.w) X.A (call (.builtin id) (v::us)) (EP X pins σ Q) X.xe s
def z0B.one:∀{x:V}{us:List Value},z0B [x] us->∃u,us=[u]/\z0y x u
 |_,_,.cons r .nil=>⟨_,rfl,r⟩
def z0B.zero:∀{us:List Value},z0B [] us->us=[]
 |_,.nil=>rfl
theorem z0B.rep{xs:List V}{us:List Value}(h:z0B xs us):∀k:Nat,z0B (List.replicate k xs).flatten (List.replicate k us).flatten
 |0=>.nil
 |k+1=>by rw[y0Z,y0Z,y1i,y1i];exact z0B.append h (z0B.rep h k)
theorem z5x(its:List Value):∀(k:Nat)(acc:List Value),
  List.foldl (λx1 x2=>x1++x2) acc.toArray (List.replicate k its.toArray)=(acc++(List.replicate k its).flatten).toArray
 |0,acc=>by simp
 |k+1,acc=>by
  have e:acc.toArray++its.toArray=(acc++its).toArray:=by simp
  have e2:(acc++its)++(List.replicate k its).flatten=acc++(List.replicate (k+1) its).flatten:=by rw[y0Z,y1i,y1a]
  rw[<-e2,<-z5x its k (acc++its),<-e,y0Z,List.foldl_cons]
section
variable{X:Cx}{pins:yyP}{σ:St}{H:Hp}{s:Shared}{l:Addr}{xs ys:List V}
def Inv.lset{its its':List Value}{n:Nat}{f:Array Value->Array Value}{t':Nat}(I:Inv X pins σ H s)(hH:H l=some (.lst xs))(e:s.heap.get? l=some { cls:=.type "list",data:=.seq its.toArray n })(hf:f its.toArray=its'.toArray)(hv:z0B ys its')(hz:ys.length<=sizeLine) : Inv X pins σ (upd H l (.lst ys)) { s with heap:=s.heap.update l (Obj.mapSeq f),toks:=t' }:=by have q:=PySem.IsL.update e f;rw[hf]at q;refine I.write (x:=l) (e:=l) (by rw[hH];exact trivial) (.inl rfl) (λb' u hb hu=>(y1F s.heap (Obj.mapSeq f) (y0N hb)).trans hu) ⟨_,q⟩ ?_;exact⟨hz,its',_,hv,q⟩
def Inv.lnew{its:List Value}{t':Nat}(I:Inv X pins σ H s)(hv:z0B ys its)(hz:ys.length<=sizeLine) : Inv X pins σ (upd H s.heap.objs.size (.lst ys)) { s with heap:=s.heap.push { cls:=.type "list",data:=.seq its.toArray },toks:=t' } :=
 I.laid (λ_ _ q=>y02 _ q) (y09 _) ⟨hz,its,0,hv,y04 _ rfl⟩
theorem Inv.fresh(I:Inv X pins σ H s):H s.heap.objs.size=none:=I.hok.fresh (y09 _)
def Inv.lstM(I:Inv X pins σ H s)(hH:H l=some (.lst xs)):xs.length<=sizeLine/\∃(its:List Value) (n:Nat),z0B xs its/\xs.length=its.length/\s.heap.get? l=some { cls:=.type "list",data:=.seq its.toArray n }:=by obtain⟨z,its,n,r,e⟩:=I.hok l _ hH;exact⟨z,its,n,r,r.length,e⟩
end
section
variable{X:Cx}
def zeI:V->List V->Hp->VK->Prop:=λx vs H Q=>∃l xs y,x=.ref l/\vs=[y]/\H l=some (.lst xs)/\xs.length<sizeLine/\Q .non (upd H l (.lst (xs++[y])))
def z5C:MtM X "list.append" zeI:=by intro pins s σ H x vs v us Q I rx rv h;obtain⟨l,xs,y,rfl,rfl,hH,hz,q⟩:=h;cases rx;obtain⟨u,rfl,ru⟩:=rv.one;obtain⟨z,its,n,r,hl,e⟩:=I.lstM hH;refine y1z F.slot_list_append ⟨_,e,rfl⟩ F.entry_list_append (F.args_list_append_2 _ _) (PySem.list_append l its.toArray n u (by rw[y0g];lia)) ⟨e,?_⟩;refine⟨.non,_,I.lset (its':=its++[u]) hH e (by simp) (r.append (.cons ru .nil)) ?_,rfl,q⟩;rw[y07,List.length_singleton];lia
def zij:V->List V->Hp->VK->Prop:=λx vs H Q=>∃l xs,x=.ref l/\vs=[]/\H l=some (.lst xs)/\Q .non (upd H l (.lst []))
def zct:MtM X "list.clear" zij:=by intro pins s σ H x vs v us Q I rx rv h;obtain⟨l,xs,rfl,rfl,hH,q⟩:=h;cases rx;have hus:=rv.zero;subst hus;obtain⟨z,its,n,r,hl,e⟩:=I.lstM hH;refine y1z F.slot_list_clear ⟨_,e,rfl⟩ F.entry_list_clear (F.args_list_clear_1 _) (AutoSeq1.list_clear_list_0 l its.toArray n (by rw[y0g];lia)) ⟨e,?_⟩;exact⟨.non,_,I.lset (its':=[]) (ys:=[]) hH e rfl .nil (y1r _),rfl,q⟩
def zlU:R2:=λx y H Q=>∃l b xs zs,x=.ref l/\y=.ref b/\H l=some (.lst xs)/\H b=some (.lst zs)/\xs.length+zs.length<=sizeLine/\∀p,H p=none->Q (.ref p) (upd H p (.lst (xs++zs)))
def zhA:OpR X (binaryOp .Add) zlU:=by
 intro pins s σ H x y v u Q I rx ry h;obtain⟨l,b,xs,zs,rfl,rfl,hH,hB,hz,q⟩:=h;cases rx;cases ry;obtain⟨z,its,n,r,hl,e⟩:=I.lstM hH;obtain⟨z2,its2,n2,r2,hl2,e2⟩:=I.lstM hB;refine PySem.P.add_list e e2 ?_ (by rw[y0g,y0g];lia);have ea:its.toArray++its2.toArray=(its++its2).toArray:=by simp
 rw[ea];exact⟨.ref _,_,I.lnew (t':=s.toks) (r.append r2) (by rw[y07];lia),rfl,q _ I.fresh⟩
def z7k{α:Type}(xs:List α)(k:Nat):(List.replicate k xs).flatten.length=k*xs.length:=by
 induction k with
 |zero=>simp
 |succ k ih=>rw[y0Z,y1i,y07,ih,Nat.succ_mul,Nat.add_comm]
end
section
variable{κ:Type}[DecidableEq κ]
def z7m(kvs:List (κ × V))(k:κ):Option V:=(kvs.find? λkv=>decide (kv.1=k)).map (·.2)
def z6C(kvs:List (κ × V))(k:κ)(v:V):List (κ × V) :=
 if(kvs.any λkv=>decide (kv.1=k))=true then kvs.map (λkv=>if kv.1=k then(kv.1,v)else kv)else kvs++[(k,v)]
def z7u(kvs:List (κ × V))(k:κ):List (κ × V):=kvs.filter λkv=>decide (kv.1≠k)
def z3c{p:κ × V}{r:List (κ × V)}{k:κ}(e:p.1=k):z7m (p::r) k=some p.2:=by simp[z7m,y1D,e]
def z33{p:κ × V}{r:List (κ × V)}{k:κ}(e:¬p.1=k):z7m (p::r) k=z7m r k:=by simp[z7m,y1D,e]
theorem z5o(k:κ):∀kvs:List (κ × V),(kvs.any λkv=>decide (kv.1=k))=(z7m kvs k).isSome
 |[]=>rfl
 |p::r=>by
  rw[y3e];by_cases e:p.1=k
  .simp only[z3c e,y1x e,Bool.true_or,Option.isSome_some]
  .rw[z33 e,y0v e,Bool.false_or];exact z5o k r
def z2c(kvs:List (κ × V))(k:κ)(v:V):(z6C kvs k v).length<=kvs.length+1:=by
 unfold z6C;split
 .rw[y01];lia
 .rw[y07,y0c,y2g];lia
def z5q.isSome_eq{o:Option V}{u:Option Value}(r:z5q o u):o.isSome=u.isSome:=by
 cases o with
 |none=>cases u with
  |none=>rfl
  |some _=>exact(show False from r).elim
 |some _=>cases u with
  |none=>exact(show False from r).elim
  |some _=>rfl
theorem z5q.getD{o:Option V}{u:Option Value}{d:V}{d':Value}(r:z5q o u)(rd:z0y d d'):z0y (o.getD d) (u.getD d'):=by
 cases o with
 |none=>cases u with
  |none=>exact rd
  |some _=>exact(show False from r).elim
 |some _=>cases u with
  |none=>exact(show False from r).elim
  |some _=>exact r
def KV.val{kvs:List (κ × V)}{vs:List (κ × Value)}(r:KV kvs vs)(k:κ):z5q (z7m kvs k) (valueAt vs k):=by
 unfold KV at r;induction r with
 |nil=>exact y16
 |@cons p q ps qs h t ih =>
  obtain⟨h1,h2⟩:=h;by_cases e:p.1=k
  .have e':q.1=k:=h1.symm.trans e;have b:valueAt (q::qs) k=some q.2:=by simp[valueAt,y1D,e']
   rw[z3c e,b];exact h2
  .have e':¬q.1=k:=λz=>e (h1.trans z);have b:valueAt (q::qs) k=valueAt qs k:=by simp[valueAt,y1D,e']
   rw[z33 e,b];exact ih
theorem KV.any{kvs:List (κ × V)}{vs:List (κ × Value)}(r:KV kvs vs)(k:κ):(kvs.any λkv=>decide (kv.1=k))=vs.any λkv=>decide (kv.1=k):=by
 unfold KV at r;induction r with
 |nil=>rfl
 |cons h t ih=>rw[y3e,y3e,ih,h.1]
def KV.repl{kvs:List (κ × V)}{vs:List (κ × Value)}(r:KV kvs vs)(k:κ){y:V}{u:Value}(ry:z0y y u) : KV (kvs.map λkv=>if kv.1=k then(kv.1,y)else kv) (vs.map λkv=>if kv.1=k then(kv.1,u)else kv):=by
 unfold KV at r⊢;induction r with
 |nil=>exact .nil
 |@cons p q ps qs h t ih =>
  rw[y0o,y0o];refine .cons ?_ ih;obtain⟨h1,h2⟩:=h;by_cases e:p.1=k
  .rw[if_pos e,if_pos (h1.symm.trans e)];exact⟨h1,ry⟩
  .rw[if_neg e,if_neg (λz=>e (h1.trans z))];exact⟨h1,h2⟩
def KV.put{kvs:List (κ × V)}{vs:List (κ × Value)}(r:KV kvs vs)(k:κ){y:V}{u:Value}(ry:z0y y u):KV (z6C kvs k y) (stored vs k u):=by
 unfold z6C stored;rw[r.any k];by_cases e:(vs.any λkv=>decide (kv.1=k))=true
 .rw[if_pos e,if_pos e];exact r.repl k ry
 .rw[if_neg e,if_neg e];exact Paired.snoc r ⟨rfl,ry⟩
def KV.drop{kvs:List (κ × V)}{vs:List (κ × Value)}(r:KV kvs vs)(k:κ):KV (z7u kvs k) (without vs k):=by
 unfold KV at r⊢;unfold z7u without;induction r with
 |nil=>exact .nil
 |@cons p q ps qs h t ih =>
  obtain⟨h1,h2⟩:=h;rw[y34,y34];by_cases e:p.1=k
  .have a:¬decide (p.1≠k)=true:=by simp[e]
   have b:¬decide (q.1≠k)=true:=by simp[h1.symm.trans e]
   rw[if_neg a,if_neg b];exact ih
  .have e':¬q.1=k:=λz=>e (h1.trans z);have a:decide (p.1≠k)=true:=by simp[e]
   have b:decide (q.1≠k)=true:=by simp[e']
   rw[if_pos a,if_pos b];exact .cons ⟨h1,h2⟩ ih
theorem KV.length{kvs:List (κ × V)}{vs:List (κ × Value)}(r:KV kvs vs):kvs.length=vs.length:=y1t r
def zcu(kvs:List (κ × V))(k:κ):(z7u kvs k).length<=kvs.length:=y31 _ _
end
def z6s{P:Program}{w:World}{k:Key}{u:Value}(r:z0y (kV k) u):(z0H P w).is k u=true:=by
 cases k with
 |inl i=>obtain⟨t,e⟩:=(show ∃t,u=Value.int i t from r);subst e;exact z7y P w i t
 |inr x=>obtain⟨t,e⟩:=(show ∃t,u=Value.str x t from r);subst e;exact z7b P w x t
theorem z6o{P:Program}{w:World}:∀{ks:List Key}{us:List Value},z0B (ks.map kV) us->ItemsAre (z0H P w) ks us
 |[],_,r=>by rw[y2h]at r;cases r;exact .nil
 |k::ks,_,r=>by
  rw[y0o]at r;cases r with
  |cons h t=>exact .cons (z6s h) (z6o t)
abbrev KT(H:Hp):List (List Key × V)->List (List Key × Addr × Value)->Prop:=Paired λp q=>p.1=q.1/\H q.2.1=some (.tup (p.1.map kV))/\z0y p.2 q.2.2
def KT.val{H:Hp}{kvs:List (List Key × V)}{xs:List (List Key × Addr × Value)}(r:KT H kvs xs)(k:List Key):z5q (z7m kvs k) ((atKey xs k).map (·.2)):=by
 induction r with
 |nil=>exact y16
 |@cons p q ps qs h t ih =>
  obtain⟨h1,_,h2⟩:=h;by_cases e:p.1=k
  .have e':q.1=k:=h1.symm.trans e;have b:atKey (q::qs) k=some q.2:=by simp[atKey,y1D,e']
   rw[z3c e,b];exact h2
  .have e':¬q.1=k:=λz=>e (h1.trans z);have b:atKey (q::qs) k=atKey qs k:=by simp[atKey,y1D,e']
   rw[z33 e,b];exact ih
def KT.repl{H:Hp}{kvs:List (List Key × V)}{xs:List (List Key × Addr × Value)}(r:KT H kvs xs)(k:List Key){y:V}{u:Value}(ry:z0y y u) : KT H (kvs.map λkv=>if kv.1=k then(kv.1,y)else kv) (xs.map (putAt k u)):=by
 induction r with
 |nil=>exact .nil
 |@cons p q ps qs h t ih =>
  rw[y0o,y0o];refine .cons ?_ ih;obtain⟨h1,h2,h3⟩:=h;unfold putAt;by_cases e:p.1=k
  .rw[if_pos e,if_pos (h1.symm.trans e)];exact⟨h1,h2,ry⟩
  .rw[if_neg e,if_neg (λz=>e (h1.trans z))];exact⟨h1,h2,h3⟩
def KT.put{H:Hp}{kvs:List (List Key × V)}{xs:List (List Key × Addr × Value)}(r:KT H kvs xs)(k:List Key){b:Addr}{y:V}{u:Value}(hb:H b=some (.tup (k.map kV)))(ry:z0y y u) : KT H (z6C kvs k y) (storedH xs k b u):=by
 have e:(kvs.any λkv=>decide (kv.1=k))=(atKey xs k).isSome:=by rw[z5o,(r.val k).isSome_eq,y2V]
 unfold z6C storedH;rw[e];by_cases q:(atKey xs k).isSome=true
 .rw[if_pos q,if_pos q];exact r.repl k ry
 .rw[if_neg q,if_neg q];exact Paired.snoc r ⟨rfl,hb,ry⟩
def KT.keeps{H H':Hp}{kvs:List (List Key × V)}{xs:List (List Key × Addr × Value)}(r:KT H kvs xs)(ht:∀b ys,H b=some (.tup ys)->H' b=some (.tup ys)):KT H' kvs xs :=
 Paired.mapP r λ_ _ z=>⟨z.1,ht _ _ z.2.1,z.2.2⟩
section
variable{P:Program}{w:World}{H:Hp}{h:Heap}{a:Addr}
def zhM{u:HO}(ok:HOk P w H h)(e:Rd H a u):z0K P w H h a u:=e.ok ok
def z6H{kvs:List (Key × V)}(ok:HOk P w H h)(e:Rd H a (.dK kvs)):kvs.length<=sizeLine/\(a==sysModules)=false/\∃vs,KV kvs vs/\h.DictOf (z0H P w) a vs :=
 show z0K P w H h a (.dK kvs)from zhM ok e
def zdq{kvs:List (Key × V)}(ok:HOk P w H h)(e:H a=some (.dK kvs)):kvs.length<=sizeLine/\(a==sysModules)=false/\∃vs,KV kvs vs/\h.DictOf (z0H P w) a vs:=z6H ok (.inl e)
def z4v{ks:List Key}(ok:HOk P w H h)(e:H a=some (.tup (ks.map kV))):(tupleKind (z0H P w)).is h ks a:=by obtain⟨_,its,n,r,h1⟩:=(show z0K P w H h a (.tup (ks.map kV))from ok a _ e);exact⟨_,its.toArray,n,h1,rfl,rfl,by simpa using z6o r⟩
def z8z{kvs:List (List Key × V)}(ok:HOk P w H h)(e:Rd H a (.dT kvs)):kvs.length<=sizeLine/\(a==sysModules)=false /\ ∃xs,KT H kvs xs/\h.DictOfH (tupleKind (z0H P w)) a xs:=by
 obtain⟨z,y,xs,r,o,es,ep,h1,h2,h3,h4,h5⟩:=(show z0K P w H h a (.dT kvs)from zhM ok e);refine⟨z,y,xs,r,o,es,ep,h1,h2,h3,h4,λx hx=>?_,h5⟩;have all:∀{l:List (List Key × V)}{m:List (List Key × Addr × Value)},KT H l m->∀x∈m,(tupleKind (z0H P w)).is h x.1 x.2.1:=by
  intro l m q;induction q with
  |nil=>intro x hx;exact nomatch hx
  |@cons p q ps qs hq t ih =>
   intro x hx;rcases y0k.mp hx with e|hx
   .subst e;exact z4v ok (by rw[<-hq.1];exact hq.2.1)
   .exact ih x hx
 exact all r x hx
def zkk{kvs:List (List Key × V)}(ok:HOk P w H h)(e:H a=some (.dT kvs)):kvs.length<=sizeLine/\(a==sysModules)=false /\ ∃xs,KT H kvs xs/\h.DictOfH (tupleKind (z0H P w)) a xs:=z8z ok (.inl e)
end
def zbB(H:Hp)(a:Addr)(y:V)(r:Option V):Prop :=
 (∃kvs k,Rd H a (.dK kvs)/\y=kV k/\r=z7m kvs k)\/∃kvs k b,Rd H a (.dT kvs)/\y=.ref b/\H b=some (.tup (k.map kV))/\r=z7m kvs k
def zj0(H:Hp)(a:Addr)(y v:V)(H':Hp):Prop :=
 (∃kvs k,H a=some (.dK kvs)/\y=kV k/\kvs.length<sizeLine/\H'=upd H a (.dK (z6C kvs k v))) \/
 ∃kvs k b,H a=some (.dT kvs)/\y=.ref b/\H b=some (.tup (k.map kV))/\kvs.length<sizeLine/\H'=upd H a (.dT (z6C kvs k v))
theorem zbB.k{H:Hp}{a:Addr}{kvs:List (Key × V)}{k:Key}(e:H a=some (.dK kvs)):zbB H a (kV k) (z7m kvs k):=.inl ⟨kvs,k,.inl e,rfl,rfl⟩
theorem zj0.k{H:Hp}{a:Addr}{kvs:List (Key × V)}{k:Key}{v:V}(e:H a=some (.dK kvs))(hl:kvs.length<sizeLine):zj0 H a (kV k) v (upd H a (.dK (z6C kvs k v))):=.inl ⟨kvs,k,e,rfl,hl,rfl⟩
section
variable{X:Cx}{pins:yyP}{σ:St}{H:Hp}{s:Shared}{a:Addr}{y v:V}{u r:Value}{o:Option V}{A:Around}{E:yyE}
def Inv.big(I:Inv X pins σ H s):sysModules<s.heap.objs.size:=by have h:mainGlobals<s.heap.objs.size:=(I.mod.glob.keeps I.bk).lt;exact y3q (by decide) h
def z9z{Q:yyE}(hu:A.units+1<cLine)(I:Inv X pins σ H s)(g:zbB H a y (some v))(ry:z0y y u)(h:∀w' s',Inv X pins σ H s'->z0y v w'->Q w' s') : wpAny (model X.prog X.w) A (getItem (.ref a) u) Q E s:=by
 rcases g with⟨kvs,k,e,ey,l⟩|⟨kvs,k,b,e,ey,eb,l⟩
 .subst ey;obtain⟨z,hd,vs,rel,dd⟩:=z6H I.hok e;obtain⟨w',hw,rw'⟩:=z5q.some_of (v:=v) (o:=valueAt vs k) (by rw[l];exact rel.val k);exact wpAny_getItem_of (z6s ry) dd.mapOf hw (h w' _ (I.tok _) rw')
 .subst ey;cases(show u=Value.ref b from ry);obtain⟨z,hd,xs,rel,dd⟩:=z8z I.hok e;obtain⟨w',hw,rw'⟩:=z5q.some_of (v:=v) (o:=(atKey xs k).map (·.2)) (by rw[l];exact rel.val k);obtain⟨p,hp,hp2⟩:=y1G.mp hw;refine wpAny_getItem_heap (y29 hu) (z4v I.hok eb) dd hp ?_;rw[hp2];exact h w' _ (I.tok _) rw'
def zlN{Q:yyE}(hu:A.units+1<cLine)(I:Inv X pins σ H s)(g:zbB H a y o)(ry:z0y y u)(h:∀s',Inv X pins σ H s'->Q (.bool o.isSome) s') : wpAny (model X.prog X.w) A (compareOp .In u (.ref a)) Q E s:=by
 rcases g with⟨kvs,k,e,ey,l⟩|⟨kvs,k,b,e,ey,eb,l⟩
 .subst ey;obtain⟨z,hd,vs,rel,dd⟩:=z6H I.hok e;refine wpAny_in_of (z6s ry) hd dd.mapOf ?_;rw[<-(rel.val k).isSome_eq,<-l];exact h _ (I.tok _)
 .subst ey;cases(show u=Value.ref b from ry);obtain⟨z,hd,xs,rel,dd⟩:=z8z I.hok e;refine wpAny_in_heap (y29 hu) (z4v I.hok eb) hd dd ?_;have q:=(rel.val k).isSome_eq;rw[y2V]at q;rw[<-q,<-l];exact h _ (I.tok _)
def zf8{Q:yyE}(hu:A.units+1<cLine)(I:Inv X pins σ H s)(g:zbB H a y o)(ry:z0y y u)(h:∀s',Inv X pins σ H s'->Q (.bool (!o.isSome)) s') : wpAny (model X.prog X.w) A (compareOp .NotIn u (.ref a)) Q E s:=by
 rcases g with⟨kvs,k,e,ey,l⟩|⟨kvs,k,b,e,ey,eb,l⟩
 .subst ey;obtain⟨z,hd,vs,rel,dd⟩:=z6H I.hok e;refine wpAny_notIn_of (z6s ry) hd dd.mapOf ?_;rw[<-(rel.val k).isSome_eq,<-l];exact h _ (I.tok _)
 .subst ey;cases(show u=Value.ref b from ry);obtain⟨z,hd,xs,rel,dd⟩:=z8z I.hok e;refine wpAny_notIn_heap (y29 hu) (z4v I.hok eb) hd dd ?_;have q:=(rel.val k).isSome_eq;rw[y2V]at q;rw[<-q,<-l];exact h _ (I.tok _)
def z1H{h':Heap}{t':Nat}{ob:HO}(I:Inv X pins σ H s)(mu:Mut (H a))(hs:Heap.SameBut a s.heap h')(he:∃q,h'.get? a=some q)(new:z0K X.prog X.w (upd H a ob) h' a ob) : Inv X pins σ (upd H a ob) { s with heap:=h',toks:=t' } :=
 I.write (x:=a) (e:=a) mu (.inl rfl) (λb q hb z=>(hs.2 b hb).trans z) he new
def zbs{P:Program}{w:World}{H':Hp}{h':Heap}{kvs:List (Key × V)}{vs:List (Key × Value)}(z:kvs.length<=sizeLine)(hd:(a==sysModules)=false)(rel:KV kvs vs)(dd:h'.DictOf (z0H P w) a vs) : z0K P w H' h' a (.dK kvs):=⟨z,hd,vs,rel,dd⟩
def zaT{H':Hp}{Q:Unit->Shared->Prop}(hu:A.units+1<cLine)(I:Inv X pins σ H s)(g:zj0 H a y v H')(ry:z0y y u)(rv:z0y v r)(h:∀s',Inv X pins σ H' s'->Q () s') : wpAny (model X.prog X.w) A (setItem (.ref a) u r) Q E s:=by
 rcases g with⟨kvs,k,e,ey,l,eH⟩|⟨kvs,k,b,e,ey,eb,l,eH⟩
 .subst ey eH;obtain⟨z,hd,vs,rel,dd⟩:=zdq I.hok e;have hz:vs.length<=sizeLine:=by rw[<-rel.length];exact z
  have hl:(z6C kvs k v).length<=sizeLine:=by have:=z2c kvs k v;lia
  refine wpAny_setItem_pairs (hsz:=hz) (z6s ry) dd λh' dd' hs=>h _ ?_;have he:∃q,h'.get? a=some q:=let⟨q,_,_,hq,_⟩:=dd';⟨q,hq⟩;exact z1H I (by rw[e];exact y16) hs he (zbs hl hd (rel.put k rv) dd')
 .subst ey eH;cases(show u=Value.ref b from ry);obtain⟨z,hd,xs,rel,dd⟩:=zkk I.hok e;have hz:xs.length<=sizeLine:=by rw[<-y1t rel];exact z
  have hl:(z6C kvs k v).length<=sizeLine:=by have:=z2c kvs k v;lia
  refine wpAny_setItem_heap (hsz:=hz) (y29 hu) (z4v I.hok eb) dd λh' dd' hs=>h _ ?_;obtain⟨q,es,ep,hq,h2,h3,h4,_,h5⟩:=dd';refine z1H I (by rw[e];exact y16) hs ⟨q,hq⟩ ⟨hl,hd,_,(rel.put k eb rv).keeps λc ys ec=>?_,q,es,ep,hq,h2,h3,h4,h5⟩;rw[z0c (zjj ec e (λz=>nomatch z))];exact ec
end
section
variable{X:Cx}{pins:yyP}{σ:St}{H:Hp}{s:Shared}{a:Addr}{kvs:List (Key × V)}{k:Key}{u:Value}{A:Around}{E:yyE}
def zaX{Q:Unit->Shared->Prop}(I:Inv X pins σ H s)(e:H a=some (.dK kvs))(ry:z0y (kV k) u)(l:(z7m kvs k).isSome=true)(h:∀s',Inv X pins σ (upd H a (.dK (z7u kvs k))) s'->Q () s') : wpAny (model X.prog X.w) A (delItem (.ref a) u) Q E s:=by
 obtain⟨z,hd,vs,rel,dd⟩:=zdq I.hok e;refine wpAny_delItem_slot dd.typeIs (by decide) y1P
  (call_meetsIn y1P dd.typeIs PySem.F.entry_dict_delitem (PySem.F.args_dict_delitem_2 _ _) (meets_dict_delitem_pairs (z0H X.prog X.w) a (z6s ry)) ⟨vs,dd,by rw[<-rel.length];exact z,by rw[<-(rel.val k).isSome_eq];exact l,λh' dd' hs=>h _ ?_⟩)
 have he:∃q,h'.get? a=some q:=let⟨q,_,_,hq,_⟩:=dd';⟨q,hq⟩;exact z1H I (by rw[e];exact y16) hs he (zbs (y0e (zcu kvs k) z) hd (rel.drop k) dd')
def zke{Q:yyE}(I:Inv X pins σ H s)(e:Rd H a (.dK kvs))(h:∀t s',Inv X pins σ H s'->Q (.int kvs.length t) s'):wpAny (model X.prog X.w) A (call (.builtin "len") [.ref a]) Q E s:=by obtain⟨z,hd,vs,rel,dd⟩:=z6H I.hok e;refine call_len_dict hd dd (by rw[<-rel.length];rw[y2d]at z;lia) ?_;rw[<-rel.length];exact h _ _ (I.tok _)
end
def zkx(i:Expr):Prop:=∀ov iv,subscripted i false ov iv=operate [ov,iv] (getItem ov iv)
def zeo{prog:Program}{w:World}{A:Around}{E:yyE}{s:Shared}{env:Env}{value slice:Expr}{pos:Pos}{T id:String}{Q:yyE}(hl:typeLookup (.type T) "__getitem__"=pure (some (.builtin id)))(hs:zkx slice)(h:wpAny (model prog w) A (eval value env) (λo s₁=>wpAny (model prog w) A (eval slice env) (λi s₂=>s₂.TypeIs o T/\wpAny (model prog w) A (getItem o i) Q E s₂) E s₁) E s) : wpAny (model prog w) A (eval (.Subscript value slice pos) env) Q E s:=by
 refine Subscript_ (y0B h (λo s₁ h₁=>y0B h₁ (λi s₂ h₂=>?_) λ_ _ x=>x) λ_ _ x=>x);obtain⟨hT,h₂⟩:=h₂;unfold subscriptTail;refine y00 ?_;rw[getitemInPython_of_ne hT.not_modules];refine y00 (y1T hT hl ?_);have fin:wpAny (model prog w) A (subscripted slice false o i) (λr s₃=>wpAny (model prog w) A (letTemporaryGo value o r>>=λ_=>pure r) Q E s₃) E s₂:=by rw[hs o i];exact wpAny_operating (y0B h₂ (λr s₃ h₃=>y00 (wpAny_letTemporaryGo (y03 h₃))) λ_ _ x=>x)
 first
  |exact y03 (y00 fin)
  |exact y00 (y03 (y00 fin))
  |exact y00 fin
def z5m{P:Program}{w:World}{H:Hp}(h:Heap)(hb:sysModules<h.objs.size):z0K P w H (h.push { cls:=.type "dict",data:=.dict #[] }) h.objs.size (.dK []) :=
 ⟨y1r _,y1B.mpr (y0N (y0i hb)),[],.nil,Heap.DictOf.new h⟩
structure M1(X:Cx)(o:Expr)(m:Str)(apos:Pos)(e:Expr)(cpos:Pos):Prop where
 base:attributeBase o m X.env (eval o X.env)=eval o X.env
 few:((backTo cpos (starEach [e] X.env)).all (λx=>!x.1)&&(backToKw cpos (keywordEach [] X.env)).all (λx=>x.1.isSome)
  && decide (([e]:List Expr).length+([]:List Keyword).length+(if([]:List Keyword).isEmpty then 0 else 1)<30))=true
 line:(apos.endLine==cpos.line)=true
 trees:backTo cpos (starEach [e] X.env)=[(false,eval e X.env)]
def IsD(H:Hp)(a:Addr):Prop:=(∃kvs,Rd H a (.dK kvs))\/∃kvs,Rd H a (.dT kvs)
def zgS{X:Cx}{pins:yyP}{σ:St}{H:Hp}{s:Shared}{a:Addr}(I:Inv X pins σ H s)(d:IsD H a) : s.TypeIs (.ref a) "dict"/\(∀b,Value.ref a=.ref b->∃ob,s.heap.get? b=some ob/\ob.dict=none)/\(a==sysModules)=false:=by
 rcases d with⟨kvs,e⟩|⟨kvs,e⟩
 .obtain⟨_,hd,vs,_,dd⟩:=z6H I.hok e;refine⟨dd.typeIs,λb q=>?_,hd⟩;cases q;obtain⟨ob,_,_,h1,h2,_⟩:=dd;exact⟨ob,h1,h2.2.1⟩
 .obtain⟨_,hd,xs,_,dd⟩:=z8z I.hok e;refine⟨dd.typeIs,λb q=>?_,hd⟩;cases q;obtain⟨ob,_,_,h1,h2,_⟩:=dd;exact⟨ob,h1,h2.2.1⟩
section
variable{X:Cx}{pins:yyP}{σ:St}{H:Hp}{s:Shared}{a:Addr}{y:V}{u:Value}{o:Option V}{A:Around}{E:yyE}
def zhl{Q:yyE}(hu:A.units+1<cLine)(I:Inv X pins σ H s)(g:zbB H a y o)(ry:z0y y u)(h:∀w' s',Inv X pins σ H s'->z0y (o.getD .non) w'->Q w' s') : wpAny (model X.prog X.w) A (call (.builtin "dict.get") [.ref a,u]) Q E s:=by
 rcases g with⟨kvs,k,e,ey,l⟩|⟨kvs,k,b,e,ey,eb,l⟩
 .subst ey;obtain⟨z,hd,vs,rel,dd⟩:=z6H I.hok e;refine call_meetsIn y2i dd.typeIs y2R (y2H _ _) (meets_dict_get (z0H X.prog X.w) a (z6s ry) hd) ⟨_,dd.mapOf,h _ _ (I.tok _) ?_⟩;rw[l];exact(rel.val k).getD rfl
 .subst ey;cases(show u=Value.ref b from ry);obtain⟨z,hd,xs,rel,dd⟩:=z8z I.hok e;refine call_meetsIn y2i dd.typeIs y2R (y2H _ _) (meetsH_dict_get (tupleKind (z0H X.prog X.w)) a b hd) ⟨y29 hu,k,xs,z4v I.hok eb,dd,h _ _ (I.tok _) ?_⟩;rw[l];exact(rel.val k).getD rfl
end
end L2
namespace Att
open PySem PySem.W PySem.Calls PyProof.Rows
def z3W{P:Params}{h:Heap}:∀(ns:List Int)(vs:List Value),WellAll P h vs (ns.map WData.int)->IntsAre vs ns:=by
 intro ns;induction ns with
 |nil =>
  intro vs w;rw[y2h]at w;cases w;exact .nil
 |cons n ns ih =>
  intro vs w;rw[y0o]at w;cases w with
  |cons a b =>
   cases a;exact .cons _ _ (ih _ b)
def zbn{l:OpenLaw}{n:Nat}(hn:l.most=some n){P:Params}{h:Heap}{args:List WData}{vals:List Value}(hpre:l.row.toRowW.claim.pre args=true)(hwl:WellAll P h vals args) : ∃a vs ns,vals=[Value.ref a]/\args=[WData.list (ns.map WData.int)]/\h.get? a=some { cls:=.type "list",data:=.seq vs.toArray }/\IntsAre vs ns/\ns.length<=n:=by
 have hsh:WShape.hasAll [] args [.list .int]=true:=(pre_splitW hpre).1;have hc:l.pre.holds [] { args:=args }=true:=(pre_splitW hpre).2;obtain⟨d,r,rfl,h1,h2⟩:=hasAllW_cons hsh;obtain rfl:=hasAllW_nil h2;obtain⟨xs,rfl,h3⟩:=hasW_list h1;obtain⟨ns,rfl⟩:=items_int h3;have hlen:ns.length<=n:=by
  unfold OpenLaw.pre at hc;have h4:(WTm.not (.lt (.lit (.int (n:Int))) (.len (.arg 0)))).holds [] { args:=[.list (ns.map .int)] }=true:=by have h4:=(holds_andW hc).1;rw[hn]at h4;exact h4
  have h5:=condW_of h4 (w_not (w_lt w_lit (w_len_list (w_arg rfl))));rw[y01]at h5;refine Nat.le_of_not_lt λq=>?_;have q':(n:Int)<((ns.length:Nat):Int):=by lia
  first
   | (rw[y1x q']at h5;exact absurd h5 (by decide))
   | (simp at h5;lia)
 cases hwl with
 |cons w1 w2 =>
  cases w2;cases w1 with
  |list ho hall=>exact⟨_,_,ns,rfl,rfl,ho,z3W ns _ hall,hlen⟩
def z9E(l:OpenLaw)(args:List WData):l.row.toRowW.claim.post args (.bool true) args=true :=
 postW_of (r:=l.row.toRowW) (X:=(true==true))
  (show WShape.has [] (.bool true) .bool=true by first|rfl|decide|simp[WShape.has,WShape.arms,WShape.armsAll])
  (show(WTm.eq .res (.lit (.bool true))).value [] { args:=args,res:=some (.bool true),after:=args }=some (.bool (true==true))from w_eq_bool (w_res rfl) w_lit) rfl
def attach_call{l:OpenLaw}{n:Nat}{q:Program}{loose:List Str}{XP:(yyS)->Heap->Prop}{YP:World->Heap->Prop}{d:DefRec}(hn:l.most=some n)(hdf:d.params.defaults=[])(call:∀(w:World) (s₀ s₁:Shared) (mg mb:yyS) (fa:Addr) (o:Obj) (pm cd doc:Value) (a:Addr) (vs:List Value) (ns:List Int), Ground q loose [] XP w s₀ mg mb s₁.heap->YP w s₁.heap -> s₁.heap.get? fa=some o->o.data=.func (docDef d.name d.params d.body d.scope pm cd doc)->s₁.heap.CodeRec cd d.name->mg d.name=some (.ref fa) -> s₁.heap.get? a=some { cls:=.type "list",data:=.seq vs.toArray }->IntsAre vs ns->ns.length<=n->s₁.gens=#[] -> codeAny (model l.prog w) callerA (.call (.ref fa) ⟨[.ref a],[]⟩) (λr s'=>r=.ok (.ret (.bool true))/\OldK s₁.heap s'.heap/\s'.os=s₁.os/\AllBare s'.gens) s₁) : WalkO q loose XP YP l.row.toRowW d [] (λf vs=>PySem.call f vs):=by intro w s₀ s₁ mg mb G Y fa o pm cd doc dV kV ho hd hcd hD hmg hg args vals as hpre hlay hrd hwl hlo;obtain rfl:dV=.none:=Dflts.none hD hdf;obtain rfl:kV=.none:=Dflts.noKw hD;obtain⟨a,vs,ns,rfl,rfl,hobj,hints,hlen⟩:=zbn hn hpre hwl;refine enter_call (y1N (call w s₀ s₁ mg mb fa o pm cd doc a vs ns G Y ho (fd_plain hd) hcd hmg hobj hints hlen hg) λr s' hq=>?_);obtain⟨rfl,h2,h3,h4⟩:=hq;exact⟨.inl ⟨.bool true,.bool true,[],rfl,λ_=>rfl,.bool true,z9E l _,λ_=>⟨List.Pairwise.nil,λ_ hm=>(nomatch hm)⟩⟩,h2,h3,h4⟩
end Att
namespace L2
open PySem PySem.Spec PyProof.Rows
theorem z5F:∀{vs:List Value}{ns:List Int},IntsAre vs ns->z0B (ns.map V.int) vs
 |_,_,.nil=>.nil
 |_,_,.cons n t h=>.cons ⟨t,rfl⟩ (z5F h)
def z0Q(s:Stmt)(j:Nat):Stmt:=match s with
 |.ClassDef _ _ _ body _ _ _ _ _ _ _=>body.getD j (.Pass ⟨0,0,0,0⟩)
 |_=>.Pass ⟨0,0,0,0⟩
def z0U(s:Stmt):Arguments:=match s with
 |.FunctionDef _ a _ _ _ _ _ _ _ _=>a
 |_=>{ posonlyargs:=[],args:=[],vararg:=none,kwonlyargs:=[],kw_defaults:=[],kwarg:=none,defaults:=[] }
def z0v(s:Stmt):List Stmt:=match s with
 |.FunctionDef _ _ b _ _ _ _ _ _ _=>b
 |_=>[]
def z07(s:Stmt):Scope:=match s with
 |.FunctionDef _ _ _ _ _ _ sc _ _ _=>sc
 |_=>{ kind:=.function,names:=[],isGenerator:=false,isCoroutine:=false }
abbrev CX0:CXT:=λ_ _ _ _ _ _=>False
abbrev E0:XK:=λ_ _ _=>False
structure Fun(K:yyF)(x qual:Str)(st:Stmt)(f:Addr)(fd:FuncData):Prop where
 ex:∃(oc:Value)(od:Option Addr)(kV doc pm:Value)(an:Option Addr)(cdv ct:Value)(osl:Array (Option Value)),
  fd=PySem.W.fnOf x qual (z0U st) (z0v st) (z07 st) .none kV doc pm an cdv ct/\K.lookup f=some ⟨oc,od,.func fd,osl⟩/\PySem.W.codeIn K cdv qual=true
 kp:PySem.W.keepIn K (.ref f)=true
section
variable{K:yyF}
def Fun.binds{x qual:Str}{st:Stmt}{f:Addr}{fd:FuncData}{ps:List Str}(F:Fun K x qual st f fd)(h:∀(kV doc pm:Value)(an:Option Addr)(cdv ct:Value)(us:List Value),us.length=ps.length->bindArgs (PySem.W.fnOf x qual (z0U st) (z0v st) (z07 st) .none kV doc pm an cdv ct) ⟨us,[]⟩=pure (ps.zip us)):z19 K fd ps []:=by obtain⟨oc,od,kV,doc,pm,an,cdv,ct,osl,rfl,lk,hcd⟩:=F.ex;exact .all (h kV doc pm an cdv ct)
def z5K{x qual:Str}{st:Stmt}{f:Addr}{oc:Value}{od an:Option Addr}{osl:Array (Option Value)}{kV doc pm cdv ct:Value}(l:K.lookup f=some ⟨oc,od,.func (PySem.W.fnOf x qual (z0U st) (z0v st) (z07 st) .none kV doc pm an cdv ct),osl⟩)(c:PySem.W.codeIn K cdv qual=true)(k:PySem.W.keepIn K (.ref f)=true):Fun K x qual st f (PySem.W.fnOf x qual (z0U st) (z0v st) (z07 st) .none kV doc pm an cdv ct):=⟨⟨oc,od,kV,doc,pm,an,cdv,ct,osl,rfl,l,c⟩,k⟩
end
def zbr{n:Nat}(h:n<=1000):n<sizeLine:=y0J h (by decide)
section
variable{X:Cx}
def zaN:z0G X (.builtin "len") (λxs H Q=>∃a kvs,xs=[V.ref a]/\H a=some (.dK kvs)/\Q (.int kvs.length) H):=by intro pins s σ H xs us Q I r h;obtain⟨a,kvs,rfl,ha,q⟩:=h;obtain⟨u,rfl,ru⟩:=z1q r;cases ru;exact zke I (.inl ha) λt s' I'=>⟨.int kvs.length,H,I',⟨t,rfl⟩,q⟩
end
def Same(H H':Hp):Prop:=∀b o,H b=some o->H' b=some o
def Same.refl(H:Hp):Same H H:=λ_ _ h=>h
section
variable{κ:Type}[DecidableEq κ]
theorem zaK:∀{l:List κ}{k:κ},l.Nodup->¬k∈l->(l++[k]).Nodup
 |[],k,_,_=>by simp
 |a::r,k,h,hk=>by
  obtain⟨h1,h2⟩:=y1l.mp h;show(a::(r++[k])).Nodup;refine y1l.mpr ⟨λm=>?_,zaK h2 λm=>hk (y0k.mpr (Or.inr m))⟩;rcases y1c.mp m with q|q
  .exact h1 q
  .exact hk (y0k.mpr (Or.inl (y0q.mp q).symm))
end
end L2
namespace Gu
open PySem L2
noncomputable def top(i:Nat):Stmt:=PySem.Challenge.pw_guisery_k57_refusals_apart.main.body.getD i (.Pass ⟨0,0,0,0⟩)
abbrev z8D:Stmt:=z0Q (top 16) 0
abbrev zgo:Stmt:=top 18
abbrev zaH:Stmt:=top 21
abbrev zet:Stmt:=top 25
abbrev zax:Stmt:=top 26
abbrev z58:Stmt:=top 27
abbrev zbb:Stmt:=top 29
abbrev z80:Stmt:=top 30
abbrev zak:Stmt:=top 31
abbrev zbI:Stmt:=top 32
abbrev z60:Stmt:=top 33
abbrev zc0:Stmt:=top 34
abbrev z2v:Stmt:=top 35
abbrev z4I:Stmt:=top 37
abbrev z51:Stmt:=top 38
abbrev zfs:Stmt:=top 39
abbrev z6K:Stmt:=top 40
abbrev z70:Stmt:=top 41
abbrev z77:Stmt:=top 42
abbrev z9p:Stmt:=top 54
abbrev zei:Stmt:=top 57
abbrev zaZ:Stmt:=top 58
abbrev z4z:Stmt:=top 59
abbrev z4X:Stmt:=top 65
abbrev za1:Stmt:=top 66
abbrev z5i:Stmt:=top 75
abbrev z5l:Stmt:=top 76
abbrev z4M:Stmt:=top 77
abbrev z5d:Stmt:=top 78
abbrev z8m:Stmt:=top 79
abbrev z4Q:Stmt:=top 80
abbrev z1V:Stmt:=top 82
abbrev z6J:Stmt:=top 83
abbrev zdz:Stmt:=top 84
abbrev z8o:Stmt:=top 85
abbrev z6S:Stmt:=top 86
abbrev zag:Stmt:=top 89
abbrev z9U:Stmt:=top 91
abbrev z4O:Stmt:=top 92
abbrev z6R:Stmt:=top 93
abbrev z1h:Stmt:=top 96
abbrev z1j:Stmt:=top 97
abbrev z2D:Stmt:=top 98
abbrev z7R:Stmt:=top 99
abbrev z22:Stmt:=top 100
abbrev zf1:Stmt:=z0Q (top 107) 0
abbrev zj8:Stmt:=z0Q (top 107) 1
abbrev zgd:Stmt:=z0Q (top 107) 6
abbrev zeN:Stmt:=z0Q (top 107) 7
abbrev zeh:Stmt:=z0Q (top 107) 8
abbrev zf0:Stmt:=z0Q (top 107) 9
abbrev z7w:Stmt:=z0Q (top 107) 10
abbrev zg0:Stmt:=z0Q (top 107) 11
abbrev z9Y:Stmt:=z0Q (top 107) 17
abbrev z3f:Stmt:=z0Q (top 107) 27
abbrev z7r:Stmt:=z0Q (top 107) 28
abbrev zgf:Stmt:=z0Q (top 107) 30
abbrev zk1:Stmt:=z0Q (top 107) 31
abbrev z6D:Stmt:=top 109
abbrev z3X:Stmt:=top 111
abbrev z3E:Stmt:=top 112
abbrev z2k:Stmt:=top 113
abbrev zeD:Stmt:=top 115
abbrev zbp:Stmt:=top 116
abbrev zfS:Stmt:=top 117
abbrev z7l:Stmt:=top 118
abbrev z3s:Stmt:=top 119
abbrev z3z:Stmt:=top 120
abbrev z3C:Stmt:=top 121
abbrev zbG:Stmt:=top 122
open PySem.W PyProof.Rows
section
variable(tb:String->Option Builtin)(p:Program)(w:World)(m:Nat)(an:Option Value)
def zgP:Nat->SharedT->Thread->Option SharedT
 |0,_,_=>none
 |n+1,x,y=>match through y,stepOk m an y with
  |true,_=>some x
  |false,false=>none
  |false,true=>match stepT (denote tb) p w x y with
   |some z=>zgP n z.1 z.2
   |none=>none
end
section
variable{tb:String->Option Builtin}{p:Program}{w:World}{m:Nat}{an:Option Value}
theorem zav:∀(n:Nat)(x r:SharedT)(y:Thread),zgP tb p w m an n x y=some r->topRun tb p w m an n x.abs y=some r.abs
 |0,_,_,_,h=>by cases h
 |n+1,x,r,y,h=>by
  unfold zgP at h;unfold topRun;cases ht:through y<;>cases hk:stepOk m an y<;>rw[ht,hk]at h<;>dsimp only at h⊢
  .cases h
  .cases hs:stepT (denote tb) p w x y with
   |none=>rw[hs]at h;cases h
   |some z =>
    rw[hs]at h;rw[stepT_spec (s':=z.1) (t':=z.2) hs];exact zav n _ _ _ h
  .cases h;rfl
  .cases h;rfl
end
noncomputable def zcV(P:Params):BT:=(.node (boot_o_0 P) (.node (boot_o_1 P) (.node (boot_o_3 P) (.node (boot_o_7 P) .nil .nil) .nil) (.node (boot_o_5 P) (.node (boot_o_9 P) .nil .nil) .nil)) (.node (boot_o_2 P) (.node (boot_o_4 P) (.node (boot_o_8 P) .nil .nil) .nil) (.node (boot_o_6 P) (.node (boot_o_10 P) .nil .nil) .nil)))
noncomputable def zde(w:World)(os:OsState):SharedT:=⟨zcV w.params,11,(boot_heap w.params).life,Array.mk [],boot_drawn,boot_toks,os⟩
def boot_abs(P:Params):absHeap (zcV P) 11 (boot_heap P).life=boot_heap P:=by kernel_rfl
section
variable(tb:String->Option Builtin)(p:Program)(w:World)(m:Nat)(an:Option Value)
def z8B:Nat->SharedT->Thread->Option (SharedT × Thread)
 |0,x,y=>some (x,y)
 |n+1,x,y=>match through y,stepOk m an y with
  |true,_=>none
  |false,false=>none
  |false,true=>match stepT (denote tb) p w x y with
   |some z=>z8B n z.1 z.2
   |none=>none
end
section
variable{tb:String->Option Builtin}{p:Program}{w:World}{m:Nat}{an:Option Value}
theorem z7G:∀(n:Nat)(x x':SharedT)(y y':Thread),z8B tb p w m an n x y=some (x',y')->topGo tb p w m an n x.abs y=some (x'.abs,y')
 |0,_,_,_,_,h=>by cases h;rfl
 |n+1,x,x',y,y',h=>by
  unfold z8B at h;unfold topGo;cases ht:through y<;>cases hk:stepOk m an y<;>rw[ht,hk]at h<;>dsimp only at h⊢
  .cases h
  .cases hs:stepT (denote tb) p w x y with
   |none=>rw[hs]at h;cases h
   |some z =>
    rw[hs]at h;rw[stepT_spec (s':=z.1) (t':=z.2) hs];exact z7G n _ _ _ _ h
  .cases h
  .cases h
end
abbrev St0:=World->OsState->SharedT
def z9D(T:BT)(l:List (Nat × Obj)):BT:=l.foldl (λt x=>t.ins x.1 x.2) T
noncomputable def z17(T:Params->BT)(n k:Nat):St0:=λw os=>⟨T w.params,n,(boot_heap w.params).life,Array.mk [],boot_drawn,k,os⟩
def z8I(p:Program)(c:Value)(fr:Addr):Env:={ scope:=p.main.scope,locals:=mainNs,globals:=mainNs,cells:=[],code:=c,frame:=some fr }
def cdP(p:Program)(c:Value)(fr:Addr):Code:=.body (behindTheImports p) (z8I p c fr)
def zgr(p:Program)(a n:Nat):List Stmt:=((behindTheImports p).drop a).take n
def zP:Pos:=⟨0,0,0,0⟩
def z0x(tb:String->Option Builtin)(p:Program)(c:Value)(fr:Addr)(a n k:Nat)(S S':St0)(q q':Pos):Prop :=
 ∀w os,segRunT tb p w 11 (some (.ref 6)) 1 k (S w os) (piecesOf (zgr p a n) (z8I p c fr) (cdP p c fr) q [topFrame zP])=some (.next,S' w os,cdP p c fr,q')
def zdR{tb:String->Option Builtin}{p:Program}{c:Value}{fr:Addr}{a n k:Nat}{S S':St0}{q q':Pos}(hf:∀(w:World) os,segRunT tb p (w.withFollow "special-get-raises" false) 11 (some (.ref 6)) 1 k (S (w.withFollow "special-get-raises" false) os) (piecesOf (zgr p a n) (z8I p c fr) (cdP p c fr) q [topFrame zP])=some (.next,S' (w.withFollow "special-get-raises" false) os,cdP p c fr,q'))(ht:∀(w:World) os,segRunT tb p (w.withFollow "special-get-raises" true) 11 (some (.ref 6)) 1 k (S (w.withFollow "special-get-raises" true) os) (piecesOf (zgr p a n) (z8I p c fr) (cdP p c fr) q [topFrame zP])=some (.next,S' (w.withFollow "special-get-raises" true) os,cdP p c fr,q')):z0x tb p c fr a n k S S' q q' :=
 λw os=>byRow2 "special-get-raises" (P:=λw=>∀os,segRunT tb p w 11 (some (.ref 6)) 1 k (S w os) (piecesOf (zgr p a n) (z8I p c fr) (cdP p c fr) q [topFrame zP])=some (.next,S' w os,cdP p c fr,q')) hf ht w os
def z0x.app{tb:String->Option Builtin}{p:Program}{c:Value}{fr:Addr}{a n k N:Nat}{S S':St0}{q q':Pos}{w:World}{os:OsState}{r:Shared}(h:z0x tb p c fr a n k S S' q q')(z:topRun tb p w 11 (some (.ref 6)) N (S' w os).abs (restOf ((behindTheImports p).drop (a+n)) (z8I p c fr) (cdP p c fr) q' [topFrame zP])=some r) : topRun tb p w 11 (some (.ref 6)) (k+N) (S w os).abs (restOf ((behindTheImports p).drop a) (z8I p c fr) (cdP p c fr) q [topFrame zP])=some r:=by
 have e:(behindTheImports p).drop a=zgr p a n++(behindTheImports p).drop (a+n):=by unfold zgr;rw[<-List.drop_drop,y2j]
 rw[e];exact piece_app (segRun_of (h w os)) z
def z79{p q:Program}{loose:List Str}{Xt:Shared->Bool}{α:Type}{Yf:Shared->α}{Ya:World->α}{N M k0:Nat}{c:Value}{fr:Addr}{q0:Pos}{Sa Sf:St0}{Tf:Params->BT}{nf kf:Nat}(eo:opening p=plainProg p.main.scope.names)(hN:Nat.ble 600 N=true)(f:∀s,fenceModules? p s=some s)(hSf:Sf=z17 Tf nf kf){Hf:Params->Heap}(hH:∀P,absHeap (Tf P) nf (boot_heap P).life=Hf P)(pre:∀w os,z8B treeTable p w 11 (some (.ref 6)) k0 (zde w os) (topStub p)=some (Sa w os,⟨denote treeTable (cdP p c fr),cdP p c fr,q0,[topFrame zP]⟩))(blk:∀w os,segRunT treeTable p w 11 (some (.ref 6)) 1 1 (Sa w os) (blockOf (behindTheImports p) (z8I p c fr) (cdP p c fr) q0 [topFrame zP])=some (.next,Sa w os,cdP p c fr,q0))(run:∀w os,topRun treeTable p w 11 (some (.ref 6)) M (Sa w os).abs (restOf ((behindTheImports p).drop 0) (z8I p c fr) (cdP p c fr) q0 [topFrame zP])=some (Sf w os).abs)(le:Nat.ble (k0+(1+M)) N=true)(looks:∀w os,((staticsOk (importedModules p.main.body) (boot_heap w.params) (Hf w.params)&&namesBound p (Hf w.params)&&gensDone ⟨Hf w.params,Array.mk [],boot_drawn,kf,os⟩&&laidKept (boot_heap w.params) (Hf w.params)),openSeen q loose (importedModules p.main.body) Xt true ⟨Hf w.params,Array.mk [],boot_drawn,kf,os⟩,Yf ⟨Hf w.params,Array.mk [],boot_drawn,kf,os⟩)=(true,openGood q loose,Ya w)):LeftO p q loose Xt Yf Ya N:=by
 subst hSf;refine LeftO.of_pieces (H₀:=boot_heap) (H₁:=Hf) (gs₀:=Array.mk []) (gs₁:=Array.mk []) (d₀:=boot_drawn) (d₁:=boot_drawn) (k₀:=boot_toks) (k₁:=kf) (m₀:=11) (ann:=some (.ref 6)) (M:=k0+(1+M)) (boot_open eo hN f) (λw=>by kernel_rfl) (λw os=>?_) le (λw=>funext λos=>looks w os);have z0:(⟨boot_heap w.params,Array.mk [],boot_drawn,boot_toks,os⟩:Shared)=(zde w os).abs:=by show _=(⟨absHeap (zcV w.params) 11 (boot_heap w.params).life,_,_,_,_⟩:Shared);rw[boot_abs];rfl
 rw[z0];have z1:(⟨Hf w.params,Array.mk [],boot_drawn,kf,os⟩:Shared)=(z17 Tf nf kf w os).abs:=by show _=(⟨absHeap (Tf w.params) nf (boot_heap w.params).life,_,_,_,_⟩:Shared);rw[hH];rfl
 rw[z1];exact go_top (z7G _ _ _ _ _ (pre w os)) (piece_block (segRun_of (blk w os)) (run w os))
noncomputable def yE(P:Params)(x:Str)(t:Tok)(v:Value):DictEntry:={ hash:=PyData.keyHash P x,key:=Value.str x t,val:=v }
def yR(P:Params)(x:Str)(t:Tok)(a:Addr):DictEntry:=yE P x t (.ref a)
def yN(P:Params)(x:Str)(t:Tok):DictEntry:=yE P x t .none
noncomputable def yDi(l:Array DictEntry)(n:Nat):Obj:={ cls:=.type "dict",data:=.dict l n }
noncomputable def yF(s:Stmt)(x y:Str)(kV dc pm:Value)(an:Option Addr)(cd ct:Value):Obj:=⟨.type "function",none,.func (PySem.W.fnOf x y (z0U s) (z0v s) (z07 s) .none kV dc pm an cd ct),#[]⟩
def yM(s:Stmt)(x y m:Str)(t:Tok)(c:Addr):Obj:=yF s x y .none .none (.str m t) none (.ref c) .none
noncomputable def yP(s:Stmt)(x y:Str):Obj:=⟨.none,none,.func { PySem.W.fnOf x y (z0U s) (z0v s) (z07 s) .none .none .none .none none .none .none with globals:=0 },#[]⟩
noncomputable def yC(vs:Array Value):Obj:={ cls:=.type "code",data:=.fields vs }
noncomputable def yT(vs:Array Value):Obj:={ cls:=.type "tuple",data:=.seq vs }
noncomputable def yQ(vs:Array Value):Obj:={ cls:=.none,data:=.fields vs }
noncomputable def yB(t:String)(vs:Array Value):Obj:={ cls:=.type t,data:=.fields vs }
noncomputable def yG(a b:Addr)(x:Str)(t:Tok):Obj:={ cls:=.type "frame",slots:=#[some (.ref a),some (.ref 3),some (.ref b),none,some (.str x t),none,some (.ref 0)] }
def yK(n q:Str)(a:Tok)(l r f:Int)(A:Addr)(t:Bool)(B:Addr)(v w x y:Value)(k:Int)(d:Tok):Obj:=yC #[.str n a,.str q (a+1),.str "/claim/cut.py" (a+2),.int l 0,.int r 0,.int 0 0,.int 0 0,.int f 0,.ref A,.bool t,.int 181 0,.ref B,v,w,x,y,.int k 0,.int l 0,.str "/claim/cut.py" d]
def yL(n q:Str)(a:Tok)(l r:Int)(A B w x y:Addr)(k:Nat):Obj:=yK n q a l r 3 A true B .none (.ref w) (.ref x) (.ref y) k (k+1)
noncomputable def yX(n:Str)(b m s a:Addr)(t u:Tok):Obj:={ cls:=.type "type",data:=Data.cls { name:=n,bases:=[.ref b],mro:=[.ref m,.ref b,.type "ValueError",.type "Exception",.type "BaseException",.type "object"],ns:=s,qualname:=n },slots:=#[some (.ref a),none,some (.str n t),some (.str n u),some (.builtin "ValueError.__new__"),some (.bool true)] }
def eT:Obj:=yT #[]
def eQ:Obj:=yQ #[]
def yl(n q:Str)(a:Tok)(l r:Int)(A:Nat)(k:Nat):Obj:=yL n q a l r A (A+1) (A+2) (A+3) (A+4) k
def yS(t:Tok)(l:List Str):Obj:=yT ((l.zipIdx t).map λp=>Value.str p.1 p.2).toArray
def zbF(t:BT)(b:Nat)(l:List Obj):BT:=z9D t ((l.zipIdx b).map λp=>(p.2,p.1))
def nI(s:Stmt):Str × Nat × Nat × List (Str × NameKind):=match s with
 |.FunctionDef n a _ _ _ _ sc _ _ p=>(n,p.line,a.args.length,sc.names)
 |.ClassDef n _ _ _ _ _ _ _ _ _ p=>(n,p.line,0,[])
 |_=>("",0,0,[])
def vN(s:Stmt):List Str:=(nI s).2.2.2.filterMap λp=>match p.2 with
 |.local=>some p.1
 |.cell=>some p.1
 |_=>none
def cN(s:Stmt):List Str:=(nI s).2.2.2.filterMap λp=>match p.2 with
 |.cell=>some p.1
 |_=>none
structure GX where
 s:Stmt
 a:Nat
 A:Nat
 w:Nat
def gO(m:Str)(t:Tok)(q:Str->Str)(x:GX):List Obj :=
 let n:=(nI x.s).1;let l:=(nI x.s).2.1;let k:=(nI x.s).2.2.1;match Nat.beq x.w 0 with
 |true=>[eT,eQ,yP x.s n (q n),yK n (q n) x.a l k 3 x.A true (x.A+1) .none .none .none (.ref (x.A+2)) (x.a+3:Nat) (x.a+4),yM x.s n (q n) m t (x.A+3)]
 |false=>[eT,eQ,yS (x.a+3) (vN x.s),yS (x.a+3+(vN x.s).length) (cN x.s),yP x.s n (q n),yl n (q n) x.a l k x.A (x.a+3+x.w),yM x.s n (q n) m t (x.A+5)]
def gf(x:GX):Nat:=x.A+match Nat.beq x.w 0 with
 |true=>3
 |false=>5
def gE(P:Params)(x:GX):DictEntry:=yR P (nI x.s).1 (x.a+x.w+5) (gf x+1)
def gQ(c:Nat)(x:GX):List Value:=[.int (nI x.s).2.1 0,.int c 0,.ref (gf x)]
def gC(P:Params)(m:Str)(mt:Tok)(x:GX):List Obj :=
 let n:=(nI x.s).1;let l:Int:=(nI x.s).2.1;let t:=x.a;let A:=x.A;let c:=A+9
 [yT #[.ref 31],yB "builtin_function_or_method" #[.builtin "type.__prepare__",.type "type"],yDi (#[yE P "__module__" (t+7) (.str m mt),yE P "__qualname__" (t+9) (.str n (t+8)),yE P "__firstlineno__" (t+11) (.int l (t+10)),yR P "__static_attributes__" (t+12) (A+7)]) 4,eT,eQ,yK n n (t+2) l 0 0 (A+3) false (A+4) .none .none .none .none (t+5:Nat) (t+6),yG (A+5) (A+2) m mt,eT,
  yDi (#[yE P "__module__" (t+7) (.str m mt),yE P "__firstlineno__" (t+11) (.int l (t+10)),yR P "__static_attributes__" (t+12) (A+7),yN P "__doc__" (t+13)]) 2,yX n 31 c (A+8) A t (t+8),yB "super" #[.ref c,.ref c,.ref c],yB "builtin_function_or_method" #[.builtin "object.__init_subclass__",.ref c]]
def gF(P:Params)(x:GX):DictEntry:=yR P (nI x.s).1 (x.a+15) (x.A+9)
def gV(x:GX):List Value:=[.int (nI x.s).2.1 0,.int 0 0,.ref (x.A+5)]
def zkM(s:Stmt)(n q:Str)(c:Addr):Obj:=yM s n q "guisery.errors" 194 c
def Mo3(s:Stmt)(n:Str)(c:Addr):Obj:=yM s n n "guisery.letters" 447 c
def Mo4(s:Stmt)(n:Str)(c:Addr):Obj:=yM s n n "guisery.machines" 480 c
def Mo5(s:Stmt)(n:Str)(c:Addr):Obj:=yM s n n "guisery.words" 578 c
def Mo7(s:Stmt)(n:Str)(c:Addr):Obj:=yM s n n "guisery.crews" 705 c
def Mo8(s:Stmt)(n:Str)(c:Addr):Obj:=yM s n n "guisery.wearing" 719 c
def Mo9(s:Stmt)(n:Str)(c:Addr):Obj:=yM s n n "guisery.floors" 753 c
def z6P(s:Stmt)(n:Str)(c:Addr):Obj:=yM s n n "guisery.lines" 799 c
def zi4(s:Stmt)(n:Str)(c:Addr):Obj:=yM s n n "guisery.sewing" 1001 c
def z2J(s:Stmt)(n q:Str)(c:Addr):Obj:=yM s n q "guisery.house" 1041 c
def zlR(s:Stmt)(n:Str)(c:Addr):Obj:=yM s n n "guisery.doing" 1355 c
def zjb(s:Stmt)(n:Str)(c:Addr):Obj:=yM s n n "guisery.notes" 1366 c
def zdU(s:Stmt)(n:Str)(c:Addr):Obj:=yM s n n "law_guisery_k57_refusals_apart" 1395 c
def r0:List GX:=[⟨top 0,187,15,1⟩]
def r1:List GX:=[⟨top 3,214,35,0⟩,⟨top 4,230,47,0⟩,⟨top 5,246,59,0⟩]
def r2:List GX:=[⟨top 6,262,71,0⟩,⟨top 7,278,83,0⟩,⟨top 8,294,95,0⟩,⟨top 9,310,107,0⟩]
def r3:List GX:=[⟨top 10,326,119,0⟩,⟨top 11,342,131,0⟩,⟨top 12,358,143,0⟩,⟨top 13,374,155,0⟩]
def r4:List GX:=[⟨top 14,390,167,0⟩,⟨top 15,406,179,0⟩]
def r5:List GX:=[⟨top 18,449,210,1⟩,⟨top 19,456,217,0⟩,⟨top 20,462,222,4⟩,⟨top 21,472,229,2⟩]
def r6:List GX:=[⟨top 25,486,236,3⟩,⟨top 26,495,243,1⟩]
def r7:List GX:=[⟨top 27,502,250,3⟩,⟨top 28,511,257,3⟩,⟨top 29,520,264,8⟩,⟨top 30,534,271,0⟩,⟨top 31,540,276,8⟩,⟨top 32,554,283,0⟩,⟨top 33,560,288,0⟩,⟨top 34,566,293,0⟩,⟨top 35,572,298,0⟩]
def r8:List GX:=[⟨top 37,580,303,0⟩,⟨top 38,586,308,4⟩,⟨top 39,596,315,1⟩,⟨top 40,603,322,5⟩,⟨top 41,614,329,2⟩,⟨top 42,622,336,3⟩,⟨top 43,631,343,4⟩,⟨top 44,641,350,4⟩]
def r9:List GX:=[⟨top 47,655,357,4⟩,⟨top 48,665,364,0⟩,⟨top 49,671,369,2⟩,⟨top 50,679,376,0⟩,⟨top 51,685,381,4⟩,⟨top 52,695,388,4⟩]
def r10:List GX:=[⟨top 54,707,395,5⟩]
def r11:List GX:=[⟨top 57,721,402,4⟩,⟨top 58,731,409,10⟩,⟨top 59,747,416,0⟩]
def r12:List GX:=[⟨top 63,759,421,4⟩,⟨top 64,769,428,7⟩,⟨top 65,782,435,4⟩,⟨top 66,792,442,0⟩]
def r13:List GX:=[⟨top 75,853,458,0⟩,⟨top 76,859,463,0⟩,⟨top 77,865,468,1⟩,⟨top 78,872,475,0⟩,⟨top 79,878,480,0⟩,⟨top 80,884,485,0⟩]
def r14:List GX:=[⟨top 82,901,491,6⟩,⟨top 83,913,498,1⟩,⟨top 84,920,505,2⟩,⟨top 85,928,512,0⟩,⟨top 86,934,517,1⟩,⟨top 87,941,524,2⟩,⟨top 88,949,531,0⟩,⟨top 89,955,536,0⟩]
def r15:List GX:=[⟨top 91,972,542,1⟩,⟨top 92,979,549,8⟩,⟨top 93,993,556,2⟩]
def r16:List GX:=[⟨top 96,1005,563,0⟩,⟨top 97,1011,568,0⟩,⟨top 98,1017,573,4⟩,⟨top 99,1027,580,0⟩,⟨top 100,1033,585,2⟩]
def cM(i:Nat):Stmt:=z0Q (top 107) i
def r17:List GX:=[⟨cM 0,1065,599,2⟩,⟨cM 1,1073,606,0⟩,⟨cM 2,1079,611,4⟩,⟨cM 3,1089,618,3⟩,⟨cM 4,1098,625,4⟩,⟨cM 5,1108,632,4⟩,⟨cM 6,1118,639,2⟩,⟨cM 7,1126,646,4⟩,⟨cM 8,1136,653,6⟩,⟨cM 9,1148,660,4⟩,⟨cM 10,1158,667,2⟩,⟨cM 11,1166,674,6⟩,⟨cM 12,1178,681,1⟩,⟨cM 13,1185,688,1⟩,⟨cM 14,1192,695,1⟩,⟨cM 15,1199,702,1⟩,⟨cM 16,1206,709,1⟩,⟨cM 17,1213,716,2⟩,⟨cM 18,1221,723,4⟩,⟨cM 19,1231,730,2⟩,⟨cM 20,1239,737,4⟩,⟨cM 21,1249,744,3⟩,⟨cM 22,1258,751,3⟩,⟨cM 23,1267,758,3⟩,⟨cM 24,1276,765,3⟩,⟨cM 25,1285,772,3⟩,⟨cM 26,1294,779,0⟩,⟨cM 27,1300,784,3⟩,⟨cM 28,1309,791,2⟩,⟨cM 29,1317,798,0⟩,⟨cM 30,1323,803,5⟩,⟨cM 31,1334,810,3⟩]
def r18:List GX:=[⟨top 109,1357,824,3⟩]
def r19:List GX:=[⟨top 111,1368,831,1⟩,⟨top 112,1375,838,6⟩,⟨top 113,1387,845,2⟩]
def r20:List GX:=[⟨top 115,1397,852,2⟩,⟨top 116,1405,859,1⟩,⟨top 117,1412,866,0⟩,⟨top 118,1418,871,2⟩,⟨top 119,1426,878,2⟩,⟨top 120,1434,885,3⟩,⟨top 121,1443,892,4⟩,⟨top 122,1453,899,0⟩]
def q12:List Value:=List.flatten [[.int 1 0,.int 0 0,.ref 20,.int 5 0,.int 0 0,.ref 27],r1.flatMap gV,r2.flatMap gV,r3.flatMap gV,r4.flatMap gV,[.int 33 0,.int 0 0,.ref 196],r5.flatMap (gQ 0),r6.flatMap (gQ 0),r7.flatMap (gQ 0),r8.flatMap (gQ 0),r9.flatMap (gQ 0),r10.flatMap (gQ 0),r11.flatMap (gQ 0),r12.flatMap (gQ 0),r13.flatMap (gQ 0),r14.flatMap (gQ 0),r15.flatMap (gQ 0),r16.flatMap (gQ 0),[.int 345 0,.int 0 0,.ref 597],r18.flatMap (gQ 0),r19.flatMap (gQ 0),r20.flatMap (gQ 0)]
def s31:List Value:=List.flatten [[.ref 44,.ref 56,.ref 68],(r2.map λx=>Value.ref (x.A+9)),(r3.map λx=>Value.ref (x.A+9)),[.ref 176,.ref 188,.ref 207]]
noncomputable def e31(l:List Value):Obj:={ cls:=.type "type",data:=Data.cls { name:="GuiseError",bases:=[.type "ValueError"],mro:=[.ref 31,.type "ValueError",.type "Exception",.type "BaseException",.type "object"],ns:=30,qualname:="GuiseError",subclasses:=l },slots:=#[some (.ref 22),none,some (.str "GuiseError" 196),some (.str "GuiseError" 204),some (.builtin "ValueError.__new__"),some (.bool true)] }
noncomputable def KA:List Addr:=[3,30,31,32,43,44,55,56,67,68,79,80,91,92,103,104,115,116,127,128,139,140,151,152,163,164,175,176,187,188,203,204,206,207,215,216,234,235,241,242,248,249,255,256,269,270,274,275,281,282,286,287,291,292,296,297,301,302,306,307,313,314,320,321,327,328,334,335,341,342,400,401,407,408,414,415,419,420,440,441,445,446,447,448,449,450,451,452,453,454,455,456,457,461,462,466,467,473,474,478,479,483,484,488,489,490,496,497,503,504,510,511,515,516,522,523,539,540,541,547,548,554,555,561,562,566,567,571,572,578,579,583,584,590,591,604,605,609,610,644,645,651,652,658,659,665,666,672,673,679,680,721,722,789,790,796,797,808,809,815,816,818,819,820,821,829,830,836,837,843,844,850,851,857,858,864,865,869,870,876,877,883,884,890,891,897,898,902,903]
variable(P:Params)
def g3e:List DictEntry:=List.flatten [[yE P "__name__" 165 (.str "law_guisery_k57_refusals_apart" 1395),yN P "__doc__" 166,yN P "__package__" 167,yE P "__loader__" 168 (.builtin "__main__.__loader__#opaque"),yN P "__spec__" 169,yR P "__annotations__" 170 6,yR P "__builtins__" 171 4,yE P "__file__" 173 (.str "/claim/cut.py" 172),yN P "__cached__" 174,yR P "_wall" 193 21,yR P "GuiseError" 213 31],r1.map (gF P),r2.map (gF P),r3.map (gF P),r4.map (gF P),[yR P "BadPage" 446 207],r5.map (gE P),[yE P "MOST_ROWS" 483 (.int 400 482),yE P "MOST_FORM_ROWS" 485 (.int 60 484)],r6.map (gE P),r7.map (gE P),r8.map (gE P),[yE P "MOST_TIMES" 654 (.int 64 653)],r9.map (gE P),[yR P "order" 717 401,yR P "order_crews" 718 401],r11.map (gE P),[yE P "MOST_WORDS" 756 (.int 1024 755),yE P "MOST_LETTERS_TOLD" 758 (.int 1000 757)],r12.map (gE P),[yR P "floor_floors" 798 446,yE P "SMALL_LETTERS" 802 (.str "abcdefghijklmnopqrstuvwxyz" 801),yE P "FIGURES" 804 (.str "0123456789" 803),yE P "MOST_LETTERS_OF_NAME" 806 (.int 12 805),yE P "MOST_FIGURES" 808 (.int 60 807),yE P "EMPTY" 810 (.str "-" 809),yR P "DEEDS" 852 447],r13.map (gE P),[yR P "WRITERS" 900 490],r14.map (gE P),[yR P "READERS" 971 541],r15.map (gE P),[yE P "MOST_SEWN_ROWS" 1004 (.int 60 1003)],r16.map (gE P),[yE P "LEAST_BREADTH" 1044 (.int 2 1043),yE P "MOST_BREADTH" 1046 (.int 5 1045),yE P "MOST_WORN" 1048 (.int 1000 1047),yE P "GUISE" 1050 (.str "guise" 1049),yE P "PEG" 1052 (.str "peg" 1051),yR P "House" 1354 819,yR P "do_deed" 1365 830],r19.map (gE P),r20.map (gE P)]
def L1(P:Params):List Obj:=[eT,eQ,yK "<module>" "<module>" 182 1 0 0 11 false 12 .none .none .none .none 185 186,yG 13 3 "__main__" 164]
noncomputable def T1:BT:=zbF (z9D (zcV P) []) 11 (L1 P)
def L2(P:Params):List Obj:=List.flatten [(r0.flatMap (gO "__main__" 164 id)),[yT #[.type "ValueError"],yB "builtin_function_or_method" #[.builtin "type.__prepare__",.type "type"],yDi (#[yE P "__module__" 203 (.str "guisery.errors" 194),yE P "__qualname__" 205 (.str "GuiseError" 204),yE P "__firstlineno__" 207 (.int 5 206),yR P "__static_attributes__" 208 29]) 4,eT,eQ,yK "GuiseError" "GuiseError" 198 5 0 0 25 false 26 .none .none .none .none 201 202,yG 27 24 "guisery.errors" 194,eT,yDi (#[yE P "__module__" 203 (.str "guisery.errors" 194),yE P "__firstlineno__" 207 (.int 5 206),yR P "__static_attributes__" 208 29,yR P "__weakref__" 210 32,yN P "__doc__" 211]) 3,e31 (s31.take 3),yB "getset_descriptor" #[.str "__weakref__" 209,.ref 31,.builtin "ExceptionGroup.__weakref__",.none],yB "super" #[.ref 31,.ref 31,.ref 31],yB "builtin_function_or_method" #[.builtin "object.__init_subclass__",.ref 31]],(r1.flatMap (gC P "guisery.errors" 194))]
noncomputable def T2:BT:=zbF (z9D (T1 P) [(3,yDi ⟨((g3e P).take 14).set 0 (yE P "__name__" 165 (.str "guisery.errors" 194))⟩ 14),(12,yQ ⟨q12.take 15⟩)]) 15 (L2 P)
def L3(P:Params):List Obj:=(r2.flatMap (gC P "guisery.errors" 194))
noncomputable def T3:BT:=zbF (z9D (T2 P) [(3,yDi ⟨((g3e P).take 18).set 0 (yE P "__name__" 165 (.str "guisery.errors" 194))⟩ 18),(12,yQ ⟨q12.take 27⟩),(31,e31 (s31.take 7))]) 71 (L3 P)
def L4(P:Params):List Obj:=(r3.flatMap (gC P "guisery.errors" 194))
noncomputable def T4:BT:=zbF (z9D (T3 P) [(3,yDi ⟨((g3e P).take 22).set 0 (yE P "__name__" 165 (.str "guisery.errors" 194))⟩ 22),(12,yQ ⟨q12.take 39⟩),(31,e31 (s31.take 11))]) 119 (L4 P)
def L5(P:Params):List Obj:=List.flatten [(r4.flatMap (gC P "guisery.errors" 194)),[yT #[.ref 31],yB "builtin_function_or_method" #[.builtin "type.__prepare__",.type "type"],yDi (#[yE P "__module__" 429 (.str "guisery.errors" 194),yE P "__qualname__" 431 (.str "BadPage" 430),yE P "__firstlineno__" 433 (.int 33 432),yR P "__init__" 441 204,yR P "__static_attributes__" 443 205]) 5,eT,yQ #[.int 35 0,.int 4 0,.ref 203],yK "BadPage" "BadPage" 424 33 0 0 194 false 195 .none .none .none .none 427 428,yG 196 193 "guisery.errors" 194,eT,eQ,yS 437 ["self","at"],eT,yP z8D "__init__" "BadPage.__init__",yl "__init__" "BadPage.__init__" 434 35 2 198 439,zkM z8D "__init__" "BadPage.__init__" 203,yS 442 ["at"],yDi (#[yE P "__module__" 429 (.str "guisery.errors" 194),yE P "__firstlineno__" 433 (.int 33 432),yR P "__init__" 441 204,yR P "__static_attributes__" 443 205,yN P "__doc__" 444]) 2,yX "BadPage" 31 207 206 191 422 430,yB "super" #[.ref 207,.ref 207,.ref 207],yB "builtin_function_or_method" #[.builtin "object.__init_subclass__",.ref 207]],(r5.flatMap (gO "guisery.letters" 447 id)),(r6.flatMap (gO "guisery.machines" 480 id))]
noncomputable def T5:BT:=zbF (z9D (T4 P) [(3,yDi ⟨((g3e P).take 33).set 0 (yE P "__name__" 165 (.str "guisery.machines" 480))⟩ 33),(12,yQ ⟨q12.take 66⟩),(31,e31 (s31.take 14))]) 167 (L5 P)
def L6(P:Params):List Obj:=List.flatten [(r7.flatMap (gO "guisery.machines" 480 id)),(r8.flatMap (gO "guisery.words" 578 id)),(r9.flatMap (gO "guisery.joining" 651 id)),(r10.flatMap (gO "guisery.crews" 705 id)),(r11.flatMap (gO "guisery.wearing" 719 id))]
noncomputable def T6:BT:=zbF (z9D (T5 P) [(3,yDi ⟨((g3e P).take 64).set 0 (yE P "__name__" 165 (.str "guisery.floors" 753))⟩ 64),(12,yQ ⟨q12.take 147⟩)]) 250 (L6 P)
def L7(P:Params):List Obj:=List.flatten [(r12.flatMap (gO "guisery.floors" 753 id)),[yDi (#[yR P "sew" 811 448,yR P "join" 814 449,yR P "turn" 818 450,yR P "look" 821 451,yR P "power" 825 452,yR P "drop" 829 453,yR P "hang" 831 454,yR P "wear" 835 455,yR P "doff" 838 456,yR P "unhang" 840 457]) 10,yS 812 ["name","rows"],yS 815 ["name","name","name"],yS 819 ["name","name"],yS 822 ["name","name","word"],yS 826 ["name","name","number"],yS 830 ["name"],yS 832 ["name","word","ring"],yS 836 ["name","name"],yS 839 ["name"],yS 841 ["name"]],(r13.flatMap (gO "guisery.lines" 799 id)),[yDi (#[yR P "name" 890 474,yR P "number" 891 474,yR P "word" 892 479,yR P "ring" 893 479,yR P "rows" 894 489]) 5],(r14.flatMap (gO "guisery.lines" 799 id))]
noncomputable def T7:BT:=zbF (z9D (T6 P) [(3,yDi ⟨((g3e P).take 90).set 0 (yE P "__name__" 165 (.str "guisery.lines" 799))⟩ 90),(12,yQ ⟨q12.take 201⟩)]) 421 (L7 P)
def L8(P:Params):List Obj:=List.flatten [[yDi (#[yR P "name" 961 504,yR P "number" 962 511,yR P "word" 963 523,yR P "ring" 964 516,yR P "rows" 965 540]) 5],(r15.flatMap (gO "guisery.lines" 799 id)),(r16.flatMap (gO "guisery.sewing" 1001 id))]
noncomputable def T8:BT:=zbF (z9D (T7 P) [(3,yDi ⟨((g3e P).take 105).set 0 (yE P "__name__" 165 (.str "guisery.house" 1041))⟩ 105),(12,yQ ⟨q12.take 225⟩)]) 541 (L8 P)
def L9(P:Params):List Obj:=List.flatten [[eT,yB "builtin_function_or_method" #[.builtin "type.__prepare__",.type "type"],yDi ⟨List.flatten [[yE P "__module__" 1060 (.str "guisery.house" 1041),yE P "__qualname__" 1062 (.str "House" 1061),yE P "__firstlineno__" 1064 (.int 345 1063)],r17.map (gE P),[yR P "__static_attributes__" 1347 817]]⟩ 36,eT,yQ ⟨r17.flatMap (gQ 4)⟩,yK "House" "House" 1055 345 0 0 595 false 596 .none .none .none .none 1058 1059,yG 597 594 "guisery.house" 1041],(r17.flatMap (gO "guisery.house" 1041 (λn=>"House."++n))),[yS 1343 ["done","many_letters","taken_back","things"],yDi ⟨List.flatten [[yE P "__module__" 1060 (.str "guisery.house" 1041),yE P "__firstlineno__" 1064 (.int 345 1063)],r17.map (gE P),[yR P "__static_attributes__" 1347 817,yR P "__dict__" 1349 820,yR P "__weakref__" 1351 821,yN P "__doc__" 1352]]⟩ 4,({ cls:=.type "type",data:=Data.cls { name:="House",bases:=[.type "object"],mro:=[.ref 819,.type "object"],ns:=818,qualname:="House" },slots:=#[none,none,some (.str "House" 1053),some (.str "House" 1061),some (.builtin "object.__new__"),some (.bool true)] }:Obj),yB "getset_descriptor" #[.str "__dict__" 1348,.ref 819,.builtin "function.__dict__",.builtin "function.__dict__#set"],yB "getset_descriptor" #[.str "__weakref__" 1350,.ref 819,.builtin "ExceptionGroup.__weakref__",.none],yB "super" #[.ref 819,.ref 819,.ref 819],yB "builtin_function_or_method" #[.builtin "object.__init_subclass__",.ref 819]]]
noncomputable def T9:BT:=zbF (z9D (T8 P) [(3,yDi ⟨((g3e P).take 106).set 0 (yE P "__name__" 165 (.str "guisery.house" 1041))⟩ 106),(12,yQ ⟨q12.take 228⟩)]) 592 (L9 P)
def L10(P:Params):List Obj:=List.flatten [(r18.flatMap (gO "guisery.doing" 1355 id)),(r19.flatMap (gO "guisery.notes" 1366 id)),(r20.flatMap (gO "law_guisery_k57_refusals_apart" 1395 id))]
noncomputable def T10:BT:=zbF (z9D (T9 P) [(3,yDi ⟨g3e P⟩ 118),(12,yQ ⟨q12⟩)]) 824 (L10 P)
def al:List Obj:=(((List.flatten [L1 P,L2 P,L3 P,L4 P,L5 P,L6 P,L7 P,L8 P,L9 P,L10 P]).set 1 (yQ ⟨q12⟩)).set 20 (e31 s31))
def oB(a:Nat):Obj:=(al P).getD (a-11) eT
def KH(P:Params):PySem.W.Frag:=(nat_lit 3,yDi ⟨g3e P⟩ 118)::(nat_lit 30,oB P 30)::(nat_lit 31,oB P 31)::(nat_lit 32,oB P 32)::(nat_lit 43,oB P 43)::(nat_lit 44,oB P 44)::(nat_lit 55,oB P 55)::(nat_lit 56,oB P 56)::(nat_lit 67,oB P 67)::(nat_lit 68,oB P 68)::(nat_lit 79,oB P 79)::(nat_lit 80,oB P 80)::(nat_lit 91,oB P 91)::(nat_lit 92,oB P 92)::(nat_lit 103,oB P 103)::(nat_lit 104,oB P 104)::(nat_lit 115,oB P 115)::(nat_lit 116,oB P 116)::(nat_lit 127,oB P 127)::(nat_lit 128,oB P 128)::(nat_lit 139,oB P 139)::(nat_lit 140,oB P 140)::(nat_lit 151,oB P 151)::(nat_lit 152,oB P 152)::(nat_lit 163,oB P 163)::(nat_lit 164,oB P 164)::(nat_lit 175,oB P 175)::(nat_lit 176,oB P 176)::(nat_lit 187,oB P 187)::(nat_lit 188,oB P 188)::(nat_lit 203,oB P 203)::(nat_lit 204,zkM z8D "__init__" "BadPage.__init__" 203)::(nat_lit 206,oB P 206)::(nat_lit 207,oB P 207)::(nat_lit 215,oB P 215)::(nat_lit 216,Mo3 zgo "same_letters" 215)::(nat_lit 234,oB P 234)::(nat_lit 235,Mo3 zaH "rearranges" 234)::(nat_lit 241,oB P 241)::(nat_lit 242,Mo4 zet "form" 241)::(nat_lit 248,oB P 248)::(nat_lit 249,Mo4 zax "still" 248)::(nat_lit 255,oB P 255)::(nat_lit 256,Mo4 z58 "breadth" 255)::(nat_lit 269,oB P 269)::(nat_lit 270,Mo4 zbb "read_from" 269)::(nat_lit 274,oB P 274)::(nat_lit 275,Mo4 z80 "check_machine" 274)::(nat_lit 281,oB P 281)::(nat_lit 282,Mo4 zak "least_form" 281)::(nat_lit 286,oB P 286)::(nat_lit 287,Mo4 zbI "rows_come_to" 286)::(nat_lit 291,oB P 291)::(nat_lit 292,Mo4 z60 "kinds_of_rows" 291)::(nat_lit 296,oB P 296)::(nat_lit 297,Mo4 zc0 "kinds_gone_to" 296)::(nat_lit 301,oB P 301)::(nat_lit 302,Mo4 z2v "numbered" 301)::(nat_lit 306,oB P 306)::(nat_lit 307,Mo5 z4I "check_word" 306)::(nat_lit 313,oB P 313)::(nat_lit 314,Mo5 z51 "check_endless" 313)::(nat_lit 320,oB P 320)::(nat_lit 321,Mo5 zfs "check_ring" 320)::(nat_lit 327,oB P 327)::(nat_lit 328,Mo5 z6K "plain_word" 327)::(nat_lit 334,oB P 334)::(nat_lit 335,Mo5 z70 "least_ring" 334)::(nat_lit 341,oB P 341)::(nat_lit 342,Mo5 z77 "count_ringed" 341)::(nat_lit 400,oB P 400)::(nat_lit 401,Mo7 z9p "order" 400)::(nat_lit 407,oB P 407)::(nat_lit 408,Mo8 zei "worn" 407)::(nat_lit 414,oB P 414)::(nat_lit 415,Mo8 zaZ "worn_endless" 414)::(nat_lit 419,oB P 419)::(nat_lit 420,Mo8 z4z "strung" 419)::(nat_lit 440,oB P 440)::(nat_lit 441,Mo9 z4X "words_on_floor" 440)::(nat_lit 445,oB P 445)::(nat_lit 446,Mo9 za1 "floor" 445)::(nat_lit 447,oB P 447)::(nat_lit 448,oB P 448)::(nat_lit 449,oB P 449)::(nat_lit 450,oB P 450)::(nat_lit 451,oB P 451)::(nat_lit 452,oB P 452)::(nat_lit 453,oB P 453)::(nat_lit 454,oB P 454)::(nat_lit 455,oB P 455)::(nat_lit 456,oB P 456)::(nat_lit 457,oB P 457)::(nat_lit 461,oB P 461)::(nat_lit 462,z6P z5i "is_name" 461)::(nat_lit 466,oB P 466)::(nat_lit 467,z6P z5l "are_figures" 466)::(nat_lit 473,oB P 473)::(nat_lit 474,z6P z4M "plainly_written" 473)::(nat_lit 478,oB P 478)::(nat_lit 479,z6P z5d "word_written" 478)::(nat_lit 483,oB P 483)::(nat_lit 484,z6P z8m "row_written" 483)::(nat_lit 488,oB P 488)::(nat_lit 489,z6P z4Q "rows_written" 488)::(nat_lit 490,oB P 490)::(nat_lit 496,oB P 496)::(nat_lit 497,z6P z1V "line_written" 496)::(nat_lit 503,oB P 503)::(nat_lit 504,z6P z6J "read_name" 503)::(nat_lit 510,oB P 510)::(nat_lit 511,z6P zdz "read_number" 510)::(nat_lit 515,oB P 515)::(nat_lit 516,z6P z8o "read_figures" 515)::(nat_lit 522,oB P 522)::(nat_lit 523,z6P z6S "read_word" 522)::(nat_lit 539,oB P 539)::(nat_lit 540,z6P zag "read_rows" 539)::(nat_lit 541,oB P 541)::(nat_lit 547,oB P 547)::(nat_lit 548,z6P z9U "head_of_line" 547)::(nat_lit 554,oB P 554)::(nat_lit 555,z6P z4O "read_parts" 554)::(nat_lit 561,oB P 561)::(nat_lit 562,z6P z6R "read_line" 561)::(nat_lit 566,oB P 566)::(nat_lit 567,zi4 z1h "check_sewing" 566)::(nat_lit 571,oB P 571)::(nat_lit 572,zi4 z1j "names_gone_to" 571)::(nat_lit 578,oB P 578)::(nat_lit 579,zi4 z2D "sewn" 578)::(nat_lit 583,oB P 583)::(nat_lit 584,zi4 z7R "row_at" 583)::(nat_lit 590,oB P 590)::(nat_lit 591,zi4 z22 "place_gone_to" 590)::(nat_lit 604,oB P 604)::(nat_lit 605,z2J zf1 "__init__" "House.__init__" 604)::(nat_lit 609,oB P 609)::(nat_lit 610,z2J zj8 "sew" "House.sew" 609)::(nat_lit 644,oB P 644)::(nat_lit 645,z2J zgd "drop" "House.drop" 644)::(nat_lit 651,oB P 651)::(nat_lit 652,z2J zeN "hang" "House.hang" 651)::(nat_lit 658,oB P 658)::(nat_lit 659,z2J zeh "wear" "House.wear" 658)::(nat_lit 665,oB P 665)::(nat_lit 666,z2J zf0 "doff" "House.doff" 665)::(nat_lit 672,oB P 672)::(nat_lit 673,z2J z7w "unhang" "House.unhang" 672)::(nat_lit 679,oB P 679)::(nat_lit 680,z2J zg0 "undo" "House.undo" 679)::(nat_lit 721,oB P 721)::(nat_lit 722,z2J z9Y "guise" "House.guise" 721)::(nat_lit 789,oB P 789)::(nat_lit 790,z2J z3f "check_new" "House.check_new" 789)::(nat_lit 796,oB P 796)::(nat_lit 797,z2J z7r "held_by" "House.held_by" 796)::(nat_lit 808,oB P 808)::(nat_lit 809,z2J zgf "keep" "House.keep" 808)::(nat_lit 815,oB P 815)::(nat_lit 816,z2J zk1 "put" "House.put" 815)::(nat_lit 818,oB P 818)::(nat_lit 819,oB P 819)::(nat_lit 820,oB P 820)::(nat_lit 821,oB P 821)::(nat_lit 829,oB P 829)::(nat_lit 830,zlR z6D "do_deed" 829)::(nat_lit 836,oB P 836)::(nat_lit 837,zjb z3X "first_row" 836)::(nat_lit 843,oB P 843)::(nat_lit 844,zjb z3E "read_page" 843)::(nat_lit 850,oB P 850)::(nat_lit 851,zjb z2k "house_begun" 850)::(nat_lit 857,oB P 857)::(nat_lit 858,zdU zeD "_law_cell" 857)::(nat_lit 864,oB P 864)::(nat_lit 865,zdU zbp "_law_whole" 864)::(nat_lit 869,oB P 869)::(nat_lit 870,zdU zfS "_law_like" 869)::(nat_lit 876,oB P 876)::(nat_lit 877,zdU z7l "_law_house" 876)::(nat_lit 883,oB P 883)::(nat_lit 884,zdU z3s "_law_plainly" 883)::(nat_lit 890,oB P 890)::(nat_lit 891,zdU z3z "_law_in_house" 890)::(nat_lit 897,oB P 897)::(nat_lit 898,zdU z3C "_law_classes" 897)::(nat_lit 902,oB P 902)::(nat_lit 903,zdU zbG "law" 902)::[]
noncomputable def Hf:Heap:=⟨Array.mk ([boot_o_0 P,boot_o_1 P,boot_o_2 P,yDi ⟨g3e P⟩ 118,boot_o_4 P,boot_o_5 P,boot_o_6 P,boot_o_7 P,boot_o_8 P,boot_o_9 P,boot_o_10 P]++al P),(boot_heap P).life⟩
end Gu
lay_quick PySem.Challenge.pw_guisery_k57_refusals_apart
namespace Gu
open PySem PySem.W PyProof.Rows PySem.W.Fast
noncomputable abbrev pY:Program:=PySem.Challenge.pw_guisery_k57_refusals_apart
noncomputable abbrev pQ:Program:=tw12212570298688440110
noncomputable abbrev tQ:String->Option Builtin:=tw14364793385576792824
def pqe:pY=pQ:=te12212570298688440110
def tqe:treeTable=tQ:=te14364793385576792824
set_option maxHeartbeats 0
def zlG:∀w os,z8B tQ pQ w 11 (some (.ref 6)) 12 (zde w os) (topStub pQ)=some ((z17 T1 15 187) w os,⟨denote tQ (cdP pQ (Value.ref 13) 14),cdP pQ (Value.ref 13) 14,⟨0,0,0,0⟩,[topFrame zP]⟩):=λw os=>by kernel_rfl
def zlQ:∀w os,segRunT tQ pQ w 11 (some (.ref 6)) 1 1 ((z17 T1 15 187) w os) (blockOf (behindTheImports pQ) (z8I pQ (Value.ref 13) 14) (cdP pQ (Value.ref 13) 14) ⟨0,0,0,0⟩ [topFrame zP])=some (.next,(z17 T1 15 187) w os,cdP pQ (Value.ref 13) 14,⟨0,0,0,0⟩):=λw os=>by kernel_rfl
def pc1:z0x tQ pQ (Value.ref 13) 14 0 6 864 (z17 T1 15 187) (z17 T2 71 262) ⟨0,0,0,0⟩ ⟨11,0,12,8⟩:=λw os=>by kernel_rfl
def pc2:z0x tQ pQ (Value.ref 13) 14 6 4 853 (z17 T2 71 262) (z17 T3 119 326) ⟨11,0,12,8⟩ ⟨19,0,20,8⟩:=λw os=>by kernel_rfl
def pc3:z0x tQ pQ (Value.ref 13) 14 10 4 853 (z17 T3 119 326) (z17 T4 167 390) ⟨19,0,20,8⟩ ⟨27,0,28,8⟩:=λw os=>by kernel_rfl
def pc4:z0x tQ pQ (Value.ref 13) 14 14 13 885 (z17 T4 167 390) (z17 T5 250 502) ⟨27,0,28,8⟩ ⟨55,0,56,53⟩:=λw os=>by kernel_rfl
def pc5:z0x tQ pQ (Value.ref 13) 14 27 36 899 (z17 T5 250 502) (z17 T6 421 759) ⟨55,0,56,53⟩ ⟨218,0,218,17⟩:=λw os=>by kernel_rfl
def pc6:z0x tQ pQ (Value.ref 13) 14 63 27 860 (z17 T6 421 759) (z17 T7 541 961) ⟨218,0,218,17⟩ ⟨305,0,306,55⟩:=zdR (λw os=>by kernel_rfl) (λw os=>by kernel_rfl)
def pc7:z0x tQ pQ (Value.ref 13) 14 90 17 398 (z17 T7 541 961) (z17 T8 592 1053) ⟨305,0,306,55⟩ ⟨344,0,344,3⟩:=zdR (λw os=>by kernel_rfl) (λw os=>by kernel_rfl)
def pc8:z0x tQ pQ (Value.ref 13) 14 107 1 1234 (z17 T8 592 1053) (z17 T9 824 1355) ⟨344,0,344,3⟩ ⟨345,0,484,36⟩:=λw os=>by kernel_rfl
def pc9:z0x tQ pQ (Value.ref 13) 14 108 15 386 (z17 T9 824 1355) (z17 T10 904 1459) ⟨345,0,484,36⟩ ⟨596,0,606,54⟩:=λw os=>by kernel_rfl
def zlL:∀w os,zgP tQ pQ w 11 (some (.ref 6)) 2 ((z17 T10 904 1459) w os) ⟨doneF .next,cdP pQ (Value.ref 13) 14,⟨596,0,606,54⟩,[topFrame zP]⟩=some ((z17 T10 904 1459) w os):=λw os=>by kernel_rfl
def zlE:∀w os,z8B treeTable pY w 11 (some (.ref 6)) 12 (zde w os) (topStub pY)=some ((z17 T1 15 187) w os,⟨denote treeTable (cdP pY (Value.ref 13) 14),cdP pY (Value.ref 13) 14,⟨0,0,0,0⟩,[topFrame zP]⟩):=by rw[tqe,pqe];exact zlG
def zmd:∀w os,segRunT treeTable pY w 11 (some (.ref 6)) 1 1 ((z17 T1 15 187) w os) (blockOf (behindTheImports pY) (z8I pY (Value.ref 13) 14) (cdP pY (Value.ref 13) 14) ⟨0,0,0,0⟩ [topFrame zP])=some (.next,(z17 T1 15 187) w os,cdP pY (Value.ref 13) 14,⟨0,0,0,0⟩):=by rw[tqe,pqe];exact zlQ
def pY1:z0x treeTable pY (Value.ref 13) 14 0 6 864 (z17 T1 15 187) (z17 T2 71 262) ⟨0,0,0,0⟩ ⟨11,0,12,8⟩:=by rw[tqe,pqe];exact pc1
def pY2:z0x treeTable pY (Value.ref 13) 14 6 4 853 (z17 T2 71 262) (z17 T3 119 326) ⟨11,0,12,8⟩ ⟨19,0,20,8⟩:=by rw[tqe,pqe];exact pc2
def pY3:z0x treeTable pY (Value.ref 13) 14 10 4 853 (z17 T3 119 326) (z17 T4 167 390) ⟨19,0,20,8⟩ ⟨27,0,28,8⟩:=by rw[tqe,pqe];exact pc3
def pY4:z0x treeTable pY (Value.ref 13) 14 14 13 885 (z17 T4 167 390) (z17 T5 250 502) ⟨27,0,28,8⟩ ⟨55,0,56,53⟩:=by rw[tqe,pqe];exact pc4
def pY5:z0x treeTable pY (Value.ref 13) 14 27 36 899 (z17 T5 250 502) (z17 T6 421 759) ⟨55,0,56,53⟩ ⟨218,0,218,17⟩:=by rw[tqe,pqe];exact pc5
def pY6:z0x treeTable pY (Value.ref 13) 14 63 27 860 (z17 T6 421 759) (z17 T7 541 961) ⟨218,0,218,17⟩ ⟨305,0,306,55⟩:=by rw[tqe,pqe];exact pc6
def pY7:z0x treeTable pY (Value.ref 13) 14 90 17 398 (z17 T7 541 961) (z17 T8 592 1053) ⟨305,0,306,55⟩ ⟨344,0,344,3⟩:=by rw[tqe,pqe];exact pc7
def pY8:z0x treeTable pY (Value.ref 13) 14 107 1 1234 (z17 T8 592 1053) (z17 T9 824 1355) ⟨344,0,344,3⟩ ⟨345,0,484,36⟩:=by rw[tqe,pqe];exact pc8
def pY9:z0x treeTable pY (Value.ref 13) 14 108 15 386 (z17 T9 824 1355) (z17 T10 904 1459) ⟨345,0,484,36⟩ ⟨596,0,606,54⟩:=by rw[tqe,pqe];exact pc9
def zm0:∀w os,zgP treeTable pY w 11 (some (.ref 6)) 2 ((z17 T10 904 1459) w os) ⟨doneF .next,cdP pY (Value.ref 13) 14,⟨596,0,606,54⟩,[topFrame zP]⟩=some ((z17 T10 904 1459) w os):=by rw[tqe,pqe];exact zlL
def zmn:(behindTheImports pY).drop 123=[]:=by kernel_rfl
def zlp:∀w os,topRun treeTable pY w 11 (some (.ref 6)) (864+(853+(853+(885+(899+(860+(398+(1234+(386+2))))))))) ((z17 T1 15 187) w os).abs (restOf ((behindTheImports pY).drop 0) (z8I pY (Value.ref 13) 14) (cdP pY (Value.ref 13) 14) ⟨0,0,0,0⟩ [topFrame zP])=some ((z17 T10 904 1459) w os).abs:=λw os=>by
 have z:=zav _ _ _ _ (zm0 w os);have z0:topRun treeTable pY w 11 (some (.ref 6)) 2 ((z17 T10 904 1459) w os).abs (restOf ((behindTheImports pY).drop 123) (z8I pY (Value.ref 13) 14) (cdP pY (Value.ref 13) 14) ⟨596,0,606,54⟩ [topFrame zP])=some ((z17 T10 904 1459) w os).abs:=by rw[zmn];exact piece_nil z
 have z1:=z0x.app pY9 z0;have z2:=z0x.app pY8 z1;have z3:=z0x.app pY7 z2;have z4:=z0x.app pY6 z3;have z5:=z0x.app pY5 z4;have z6:=z0x.app pY4 z5;have z7:=z0x.app pY3 z6;have z8:=z0x.app pY2 z7;have z9:=z0x.app pY1 z8;exact z9
noncomputable abbrev rY:OpenRow:=PySem.Challenge.rw_guisery_k57_refusals_apart.row
noncomputable def viewOf(p:Program):Program:={ p with main:={ p.main with body:=[0,2,3,4,5,6,7,8,9,10,11,12,13,14,15,16,18,19,20,21,23,24,25,26,27,28,29,30,31,32,33,34,35,37,38,39,40,41,42,43,44,46,47,48,49,50,51,52,54,55,57,58,59,61,62,63,64,65,66,67,69,70,71,72,73,74,75,76,77,78,79,80,81,82,83,84,85,86,87,88,89,90,91,92,93,95,96,97,98,99,100,102,103,104,105,106,107,109,111,112,113,115,116,117,118,119,120,121,122].map λi=>p.main.body.getD i (.Pass ⟨0,0,0,0⟩) } }
def looseY:List Str:=["order_crews","floor_floors","DEEDS","WRITERS","READERS"]
noncomputable abbrev HK:Hook:=PySem.W.kmHook Gu.KH Gu.KA (λ_=>by kernel_rfl) [574]
def hfY:∀P,absHeap (T10 P) 904 (boot_heap P).life=Hf P:=λP=>by kernel_rfl
def lk0:∀(w:World)(os:OsState),(staticsOk (tw5923862056798008813 pQ.main.body) (boot_heap w.params) (Hf w.params)&&namesBound pQ (Hf w.params)&&gensDone (⟨Hf w.params,Array.mk [],boot_drawn,1459,os⟩:Shared)&&laidKept (boot_heap w.params) (Hf w.params))=true:=λw os=>by kernel_rfl
def lk1:∀(w:World)(os:OsState),HK.obs (⟨Hf w.params,Array.mk [],boot_drawn,1459,os⟩:Shared)=HK.val w:=λw os=>by kernel_rfl
noncomputable abbrev qV:Program:=viewOf pQ
noncomputable abbrev sV(w:World)(os:OsState):Shared:=(⟨Hf w.params,Array.mk [],boot_drawn,1459,os⟩:Shared)
def ls0:∀(w:World)(os:OsState),PyProof.Rows.seen ((recsOf qV).map (·.name)) (ownsOf qV) [] { sV w os with gens:=#[] }=expectedOf qV:=λw os=>by kernel_rfl
def ls1:∀(w:World)(os:OsState),(sV w os).heap.bltView=bltViewBooted:=λw os=>by kernel_rfl
def ls2:∀(w:World)(os:OsState),((sV w os).heap.keysOk (looseW qV looseY) ((recsOf qV).map (·.name)) ((litsOf qV).map (·.1)) ((clssOf qV (looseW qV looseY)).map (·.name))&&(sV w os).heap.accountedOkI (tw5923862056798008813 pQ.main.body)&&(sV w os).heap.isNs mainGlobals&&(sV w os).heap.isNs builtinsNs&&tablesOk qV (sV w os).heap&&(xlAt qV [] (sV w os)&&recOk [] (sV w os))&&(if true then(sV w os).gens.size==0 else !leftWithCleanup (sV w os).gens))=true:=λw os=>by kernel_rfl
def ls3:∀(w:World)(os:OsState),tabsOk qV (sV w os)=true:=λw os=>by kernel_rfl
def ls4:∀(w:World)(os:OsState),pinSeenD qV (drecsOf qV) (sV w os)=pinGoodD (drecsOf qV):=λw os=>by kernel_rfl
def ls5:∀(w:World)(os:OsState),plainSeenE qV (looseW qV looseY) (sV w os)=plainGoodE qV (looseW qV looseY):=λw os=>by kernel_rfl
def ls6:∀(w:World)(os:OsState),plainSeenD qV looseY (sV w os)=plainGoodD qV looseY:=λw os=>by kernel_rfl
def ls7:∀(w:World)(os:OsState),wideSeen qV (sV w os)=wideGood qV:=λw os=>by kernel_rfl
def ls8:∀(w:World)(os:OsState),clsSeenW qV looseY (sV w os)=clsGoodW qV looseY:=λw os=>by kernel_rfl
def ziF:∀(w:World)(os:OsState),((staticsOk (tw5923862056798008813 pQ.main.body) (boot_heap w.params) (Hf w.params)&&namesBound pQ (Hf w.params)&&gensDone (⟨Hf w.params,Array.mk [],boot_drawn,1459,os⟩:Shared)&&laidKept (boot_heap w.params) (Hf w.params)),openSeen qV looseY (tw5923862056798008813 pQ.main.body) (λs=>xlAt qV [] s&&recOk [] s) true (sV w os),HK.obs (⟨Hf w.params,Array.mk [],boot_drawn,1459,os⟩:Shared))=(true,openGood qV looseY,HK.val w):=λw os=>by rw[lk0,lk1];unfold openSeen openGood;rw[ls0,ls1,ls2,ls3,ls4,ls5,ls6,ls7,ls8]
def left:LeftO rY.prog (viewOf pY) looseY (λs=>xlAt (viewOf pY) [] s&&recOk (RowW.records rY.toRowW) s) HK.obs HK.val 14572:=by have h:=ziF;rw[<-te5923862056798008813,<-pqe]at h;exact z79 (by kernel_rfl) (by rfl) (λ_=>rfl) rfl hfY zlE zmd zlp (by decide +kernel) h
end Gu
namespace L2
open PySem PySem.Spec PyProof.Rows
def z0w(cells:List (Str × Addr)):List (Str × NameKind)->List (Str × Addr)->List (Str × Addr)
 |[],cs=>cs
 | (n,k)::r,cs=>z0w cells r (if k=.free then(n,(cells.lookup n).getD 0)::cs else cs)
theorem z1s{cells:List (Str × Addr)}:∀(l:List (Str × NameKind))(cs:List (Str × Addr))(x:Str),(∀y,(y,NameKind.free)∈l->∃c,cells.lookup y=some c)->((x,NameKind.free)∈l\/cs.lookup x=cells.lookup x)->(z0w cells l cs).lookup x=cells.lookup x
 |[],cs,x,_,h=>by
  rcases h with h|h
  .cases h
  .exact h
 | (n,k)::r,cs,x,hc,h=>by
  refine z1s r _ x (λy hy=>hc y (y0d _ hy)) ?_;by_cases hk:k=.free
  .subst hk;rw[if_pos rfl];by_cases e:x=n
   .subst e;obtain⟨c,hcx⟩:=hc x y0p;right;rw[y0K,hcx];simp
   .rcases h with h|h
    .rcases y0k.mp h with h|h
     .exact absurd (y1M Prod.fst h) e
     .exact .inl h
    .right;have:(x==n)=false:=by simpa using e
     rw[y0K,this];exact h
  .rw[if_neg hk];rcases h with h|h
   .rcases y0k.mp h with h|h
    .exact absurd (y1M Prod.snd h).symm hk
    .exact .inl h
   .exact .inr h
theorem z2H{cells:List (Str × Addr)}:∀(l:List (Str × NameKind))(cs:List (Str × Addr))(x:Str),(x,NameKind.free)∉l->(z0w cells l cs).lookup x=cs.lookup x
 |[],cs,x,_=>rfl
 | (n,k)::r,cs,x,h=>by
  refine(z2H r _ x (λhy=>h (y0d _ hy))).trans ?_;by_cases hk:k=.free
  .subst hk;rw[if_pos rfl];have e:x≠n:=λe=>h (by subst e;exact y0p);have:(x==n)=false:=by simpa using e
   rw[y0K,this]
  .rw[if_neg hk]
def z15{scope:Scope}{env:Env}(h:∀y,(y,NameKind.free)∈scope.names->∃c,env.cells.lookup y=some c):closureFor scope env=pure (z0w env.cells scope.names []):=by
 have key:∀(l:List (Str × NameKind))(cs:List (Str × Addr)),(∀y,(y,NameKind.free)∈l->∃c,env.cells.lookup y=some c) ->
   (forIn l cs (λ(x:Str × NameKind)(r:List (Str × Addr))=>if(x.2==NameKind.free)=true then(do let c <-cellOf env x.1;pure (ForInStep.yield ((x.1,c)::r)):Sem _)else pure (ForInStep.yield r)):Sem (List (Str × Addr)))=pure (z0w env.cells l cs):=by
  intro l;induction l with
  |nil=>intro cs _;rfl
  |cons x r ih =>
   intro cs hc;obtain⟨n,k⟩:=x;rw[y1U];by_cases hk:k=.free
   .subst hk;obtain⟨c,e⟩:=hc n y0p;have e1:cellOf env n=pure c:=by unfold cellOf;rw[e]
    have e2:z0w env.cells ((n,NameKind.free)::r) cs=z0w env.cells r ((n,c)::cs):=by show z0w env.cells r (if NameKind.free=NameKind.free then(n,(env.cells.lookup n).getD 0)::cs else cs)=_;rw[if_pos rfl,e];all_goals rfl
    rw[e2,<-ih _ (λy hy=>hc y (y0d _ hy))];simp only[beq_self_eq_true,if_true,e1];rfl
   .have hb:(k==NameKind.free)=false:=by simpa using hk
    have e2:z0w env.cells ((n,k)::r) cs=z0w env.cells r cs:=by show z0w env.cells r (if k=NameKind.free then _ else cs)=_;rw[if_neg hk]
    rw[e2,<-ih _ (λy hy=>hc y (y0d _ hy))];simp only[hb,y0L,if_false];rfl
 have:=key scope.names [] h;unfold closureFor;simp only[]at this⊢;exact(y1M (λm=>m>>=pure) this).trans rfl
def noE:yyE:=λ_ _=>False
def zgv(env:Env)(p:Str × NameKind):Str × NameKind:=if(p.2==NameKind.free&&env.scope.kind == .function&&env.kindOf p.1==some .cell)=true then(p.1,NameKind.cell)else p
def z84{env:Env}{p:Str × NameKind}(h:(p.2==NameKind.free&&env.scope.kind == .function&&env.kindOf p.1==some .cell)=true):zgv env p=(p.1,NameKind.cell):=if_pos h
def z7X{env:Env}{p:Str × NameKind}(h:¬(p.2==NameKind.free&&env.scope.kind == .function&&env.kindOf p.1==some .cell)=true):zgv env p=p:=if_neg h
theorem z1T{env:Env}{x:Str}:∀{l:List (Str × NameKind)},l.lookup x=some .free->(l.map (zgv env)).lookup x=some .cell\/(l.map (zgv env)).lookup x=some .free
 |[],h=>by simp at h
 | (n,k)::r,h=>by
  rw[y0o];by_cases hc:(k==NameKind.free&&env.scope.kind == .function&&env.kindOf n==some .cell)=true
  .rw[z84 (p:=(n,k)) hc];cases hx:x==n with
   |true=>left;rw[y0K,hx]
   |false =>
    rw[y0K,hx]at h;rw[y0K,hx];exact z1T h
  .rw[z7X (p:=(n,k)) hc];cases hx:x==n with
   |true=>right;rw[y0K,hx]at h;rw[y0K,hx];exact h
   |false =>
    rw[y0K,hx]at h;rw[y0K,hx];exact z1T h
theorem z1O{env:Env}{x:Str}{kd:NameKind}(hkd:kd=.cell\/kd=.free):∀{l:List (Str × NameKind)},(∀y∈l,y.2≠.cell)->(l.map (zgv env)).lookup x=some kd->(x,NameKind.free)∈l
 |[],_,h=>by simp at h
 | (n,k)::r,hn,h=>by
  rw[y0o]at h;have hk:k≠.cell:=hn (n,k) y0p;have up:(r.map (zgv env)).lookup x=some kd->(x,NameKind.free)∈(n,k)::r:=λh2=>y0d _ (z1O hkd (λy hy=>hn y (y0d _ hy)) h2);by_cases hc:(k==NameKind.free&&env.scope.kind == .function&&env.kindOf n==some .cell)=true
  .rw[z84 (p:=(n,k)) hc]at h;cases hx:x==n with
   |true =>
    have hxn:x=n:=by simpa using hx
    subst hxn;have z:=hc;simp only[y0b,y1y]at z;rw[z.1.1];exact y0p
   |false=>rw[y0K,hx]at h;exact up h
  .rw[z7X (p:=(n,k)) hc]at h;cases hx:x==n with
   |true =>
    have hxn:x=n:=by simpa using hx
    subst hxn;rw[y0K,hx]at h;have e:k=kd:=y06 h;rcases hkd with z|z
    .exact absurd (e.trans z) hk
    .rw[e,z];exact y0p
   |false=>rw[y0K,hx]at h;exact up h
def z2l(X:Cx)(N:List Str)(scope:Scope)(cl:List (Str × Addr))(C:Addr)(ex:List Addr)(s:Shared)(H:Hp):Cx where
 prog:=X.prog
 w:=X.w
 K:=X.K
 mg:=X.mg
 base:=X.base
 A:=X.A
 N:=N
 s₀:=s
 H₀:=H
 env:=compEnvC scope cl C X.env
 outer:=X.stack
 stack:=X.stack
 ex:=ex
 fn:=λ_=>false
 calm:=X.calm
 pn:=[]
 xe:=noE
structure z0N(XN:List Str)(xsc:Scope)(N:List Str)(ix:List (Option Nat))(scope:Scope):Prop where
 kind:scope.kind=.function:=by rfl
 nocell:∀y∈scope.names,y.2≠.cell:=by decide +kernel
 names:∀y∈scope.names,y.2=.local->scope.names.lookup y.1=some .local:=by decide +kernel
 frees:∀y∈scope.names,y.2=.free->xsc.names.lookup y.1=some .cell\/xsc.names.lookup y.1=some .free:=by decide +kernel
 len:ix.length=N.length:=by rfl
 has:((ix.zip N).all λp=>match p.1 with|none=>true|some j=>XN[j]?==some p.2&&scope.names.lookup p.2==some .free)=true:=by decide +kernel
 nd:N.Nodup:=by decide +kernel
def z1Z(ix:List (Option Nat))(σ:St):St:=ix.map λo=>o.bind λj=>(σ[j]?).join
def z0N.at_{XN:List Str}{xsc:Scope}{N:List Str}{ix:List (Option Nat)}{scope:Scope}(S:z0N XN xsc N ix scope){i:Nat}{x:Str}{v:V}{σ:St}(hi:N[i]?=some x)(hv:(z1Z ix σ)[i]?=some (some v)) : ∃j:Nat,XN[j]?=some x/\scope.names.lookup x=some .free/\σ[j]?=some (some v):=by
 unfold z1Z at hv;rw[y0l]at hv;cases e:ix[i]? with
 |none=>rw[e]at hv;cases hv
 |some o =>
  rw[e]at hv;cases o with
  |none=>cases hv
  |some j =>
   have hv':(σ[j]?).join=some v:=y06 hv;have hm:((some j:Option Nat),x)∈ix.zip N:=by
    have:(ix.zip N)[i]?=some (some j,x):=by rw[y1k];exact⟨e,hi⟩
    exact y0M this
   have q:=y0u.mp S.has _ hm;simp only[y0b,y1y]at q;refine⟨j,q.1,q.2,?_⟩;cases z:σ[j]? with
   |none=>rw[z]at hv';cases hv'
   |some u=>rw[z]at hv';exact y1M some hv'
section
variable{X:Cx}{pins:yyP}{σ:St}{H:Hp}{s:Shared}{N:List Str}{ix:List (Option Nat)}{scope:Scope}{fp:List Addr}{C:Addr}
def z0z(I:Inv X pins σ H s)(S:z0N X.N X.env.scope N ix scope):∀y,(y,NameKind.free)∈scope.names->∃c,X.env.cells.lookup y=some c:=λy hy=>I.ok.has y (S.frees _ hy rfl)
def z1c(I:Inv X pins σ H s)(S:z0N X.N X.env.scope N ix scope){x:Str}{c:Addr}(h:(z0w X.env.cells scope.names []).lookup x=some c):X.env.cells.lookup x=some c:=by
 by_cases hm:(x,NameKind.free)∈scope.names
 .rw[<-z1s scope.names [] x (z0z I S) (.inl hm)];exact h
 .rw[z2H scope.names [] x hm]at h;cases h
def zcd(I:Inv X pins σ H s)(S:z0N X.N X.env.scope N ix scope)(hC:C=s.heap.objs.size)(hf:∀b∈fp,z52 X pins H b)(hfl:∀b∈fp,b<s.heap.objs.size){h1:Heap}{m:yyS}{tk:Nat}(hn:h1.Ns C m)(hk:∀b o,s.heap.get? b=some o->h1.get? b=some o) : Inv (z2l X N scope (z0w X.env.cells scope.names []) C fp s H) [] (z1Z ix σ) H { s with heap:=h1,toks:=tk }:=by
 have hne:∀{b:Addr}{o:Obj},X.base.get? b=some o->b∉fp:=λ{b o} e hb=>by
  obtain⟨_,_,_,hx,_⟩:=hf b hb;rcases hx with hx|hx
  .exact I.ok.noex b o e hx
  .exact absurd (y0h (y05 (I.ok.bs b o e).1) hx) (y1X _)
 refine⟨⟨I.ok.mod,S.kind,I.ok.glob,I.ok.blt,y30 hC.symm,?_,?_,?_,I.ok.hd,I.ok.frames,.inl rfl,?_,I.bs,y0e I.ok.bsz I.sz,λb o e=>hne e,?_,I.stack,I.stkFree⟩,
  rfl,I.bare,Un.kept hk,⟨m,hn,?_⟩,?_,I.hok.fresh (y30 hC.symm),?_,λp hp=>absurd (show p∈([]:yyP)from hp) (by simp),I.hok.kept hk,?_⟩
 .intro x y c h1 h2;exact I.ok.inj x y c (z1c I S h1) (z1c I S h2)
 .intro x hx;have hm:(x,NameKind.free)∈scope.names:=by
   rcases hx with hx|hx
   .exact z1O (.inl rfl) S.nocell hx
   .exact z1O (.inr rfl) S.nocell hx
  obtain⟨c,e⟩:=z0z I S x hm;exact⟨c,(z1s scope.names [] x (z0z I S) (.inl hm)).trans e⟩
 .intro x c hx;cases hx
 .intro b hb;obtain⟨_,_,_,_,f4,_⟩:=hf b hb;refine⟨λe=>?_,λx c e=>f4 x c (z1c I S e)⟩;have z:=hfl b hb;have e':b=C:=e;rw[e',hC]at z;exact y1X _ z
 .intro b hb hb2;obtain⟨_,f1,f2,_⟩:=hf b hb;exact(y0k.mp (I.stkSub b hb2)).elim f1 f2
 .intro i x v e1 e2 e3;obtain⟨j,g1,g2,g3⟩:=S.at_ e1 e2;have hm:(x,NameKind.free)∈scope.names:=y0V g2;have hk2:=S.frees _ hm rfl;obtain⟨m0,hn0,hl0⟩:=id I.loc;obtain⟨u,r,l⟩:=hl0 j x v g1 g3 (hk2.elim (λz=>.inr (.inl z)) (λz=>.inr (.inr z)));refine⟨u,r,.inr ⟨z1T g2,?_⟩⟩;rcases l with⟨k,_⟩|⟨k,c,e,z⟩
  .have k':X.env.scope.names.lookup x=some .local:=k;rcases hk2 with z|z<;>(rw[k']at z;cases z)
  .refine⟨c,(z1s scope.names [] x (z0z I S) (.inl hm)).trans e,?_⟩;obtain⟨o,ho,hd⟩:=z;exact⟨o,hk _ _ ho,hd⟩
 .intro x c e;obtain⟨v,o,ho,hd⟩:=I.cell x c (z1c I S e);exact⟨v,o,hk _ _ ho,hd⟩
 .intro x c e;exact I.freeC x c (z1c I S e)
 .unfold z1Z;rw[y01];exact S.len
end
open PySem.AutoSeq1 (wpAny_loadPart')
def zbC(lo:Int)(n:Nat):List V:=(List.range n).map λi=>V.int (lo+(i:Nat))
def z3r(lo:Int)(n:Nat):(zbC lo n).length=n:=by unfold zbC;simp
def z2o{lo c:Int}{acc:Array Value}{n:Nat}(hc:c=1)(h:ItemsOf (λi v=>∃t,v=.int (lo+i*c) t) acc n):z0B (zbC lo n) acc.toList:=by
 subst hc;obtain⟨hs,hi⟩:=h;have key:∀(k:Nat)(i:Nat),i+k=n->z0B (((List.range n).drop i).map λj=>V.int (lo+(j:Nat))) (acc.toList.drop i):=by
  intro k;induction k with
  |zero =>
   intro i hk;rw[y1h (by simp;lia),y1h (by simp;lia)];exact .nil
  |succ k ih =>
   intro i hk;have h1:i<acc.size:=by lia
   have e1:(List.range n).drop i=i::(List.range n).drop (i+1):=by rw[y17 (by simp;lia)];simp
   have e2:acc.toList.drop i=acc[i]::acc.toList.drop (i+1):=by rw[y17 (by simpa using h1)];simp
   rw[e1,e2,y0o];refine .cons ?_ (ih (i+1) (by lia));obtain⟨t,e⟩:=hi i acc[i] (by simp[h1]);exact⟨t,by rw[e,Int.mul_one]⟩
 have:=key n 0 (by lia);simpa[zbC]using this
section
variable{X:Cx}
def z8g:z0G X (.type "range") (λxs H Q=>∃j:Int,xs=[.int j]/\-(2^62)<=j/\j<2^62/\∀p,H p=none->Q (.ref p) (upd H p (.rng 0 j))):=by intro pins s σ H xs us Q I r h;obtain⟨j,rfl,h1,h2,q⟩:=h;obtain⟨u,rfl,ru⟩:=z1q r;obtain⟨t,rfl⟩:=ru;refine call_range_1 ?_;exact⟨.ref s.heap.objs.size,upd H s.heap.objs.size (.rng 0 j),I.laid (o:=.rng 0 j) (λb u e=>y02 _ e) (y09 _) ⟨_,_,_,y04 _ rfl⟩,rfl,q _ I.fresh⟩
theorem Inv.rng{pins:yyP}{σ:St}{H:Hp}{s:Shared}{p:Addr}{lo hi:Int}(I:Inv X pins σ H s)(h:H p=some (.rng lo hi)):∃t u v,IsRange s.heap p lo hi 1 t u v:=by obtain⟨t,u,v,e⟩:=I.hok p _ h;exact⟨t,u,v,e⟩
def z7E{lo hi:Int}:Builtin.Range.rangeSize lo hi 1=(((hi-lo).toNat:Nat):Int):=by rw[rangeSize_one];split<;>lia
def z4V(hc:X.calm=true):z0G X (.type "list") (λxs H Q=>∃p lo hi,xs=[.ref p]/\H p=some (.rng lo hi)/\(-(2^62)<=lo/\lo<2^62/\-(2^62)<=hi/\hi<2^62)/\(hi-lo).toNat<=2^24 /\ ∀l,H l=none->Q (.ref l) (upd H l (.lst (zbC lo (hi-lo).toNat)))):=by intro pins s σ H xs us Q I r h;obtain⟨p,lo,hi,rfl,hp,⟨b1,b2,b3,b4⟩,hn,q⟩:=h;obtain⟨u,rfl,ru⟩:=z1q r;cases ru;obtain⟨t,u,v,hr⟩:=I.rng hp;refine call_list_range (I.ok.hd hc) hr (small_one b1 b2 b3 b4) z7E hn λh' tk acc c' hk hl hacc=>?_;have hv:=z2o rfl hacc;exact⟨.ref _,_,I.laid (o:=.lst (zbC lo (hi-lo).toNat)) (λb u e=>hk b u e) (y09 _) ⟨by rw[z3r,y2d];lia,acc.toList,c',hv,by simpa using hl⟩,rfl,q _ I.fresh⟩
end
section
variable{prog:Program}{w:World}{A:Around}{E:yyE}{s:Shared}
def z6I{Q:List Value->Shared->Prop}{r:Addr}{a b c:Int}{t u v:Tok}{n:Nat}(hh:A.handled=none)(hr:IsRange s.heap r a b c t u v)(hsmall:Builtin.Range.small a b c=true)(hn:Builtin.Range.rangeSize a b c=n)(hlen:n<=2^24)(hQ:∀h' tk acc,(∀b o,s.heap.get? b=some o->h'.get? b=some o)->s.heap.objs.size<=h'.objs.size->ItemsOf (λi v=>∃t,v=.int (a+i*c) t) acc n->Q acc.toList { s with heap:=h',toks:=tk }) : wpAny (model prog w) A (collect (.ref r)) Q E s:=by
 unfold collect;refine y00 (wpAny_runValue (y3k F.entry_proto_collect ?_));rw[Around.under_plainId F.plain_proto_collect _];show wpAny _ A.in1 (newList []>>=λl =>
  again (.builtin "list.__iadd__" ⟨[l,.ref r],[]⟩)) _ _ s
 refine y00 (y0T ?_);refine y03 ⟨plainId_quiet F.plain_list_iadd _,y3k F.entry_list_iadd ?_⟩;rw[Around.under_plainId F.plain_list_iadd _];show wpAny _ A.in1 (Builtin.List.listExtendWith (.ref s.heap.objs.size) (.ref r)
  (.ref s.heap.objs.size)) _ _ _
 have hS:(s.heap.push { cls:=.type "list",data:=.seq ([]:List Value).toArray }).get? s.heap.objs.size=some
  { cls:=.type "list",data:=.seq #[] 0 }:=y04 _ rfl
 have fin':∀(h':Heap) (tk:Nat) (acc:Array Value) (c':Nat),(∀b o,b≠s.heap.objs.size->(s.heap.push { cls:=.type "list",data:=.seq ([]:List Value).toArray }).get? b=some o->h'.get? b=some o) ->
   h'.get? s.heap.objs.size=some { cls:=.type "list",dict:=none,data:=.seq acc c',slots:=#[] }->ItemsOf (λi v=>∃t,v=.int (a+i*c) t) acc n ->
   wpAny (model prog w) A (match Value.ref s.heap.objs.size with
    |Value.ref a=>do
     match (<-load a).data with
      |Data.seq xs _=>pure xs.toList
      |_=>unsupported "internal:collect"
    |_=>unsupported "internal:collect") Q E { s with heap:=h',toks:=tk }:=λh' tk acc c' hk hS' hacc=>by
  show wpAny _ A (load s.heap.objs.size>>=_) _ _ _;refine y00 (wpAny_load hS' (y03 ?_));exact hQ h' tk acc (λb o e=>hk b o (y0i (y05 e)) (y02 _ e)) (y0Y (y05 hS')) hacc
 refine y0B (wpAny_extend_range (A:=A) (R:=λr s'=>r=.ok (.ret (.ref s.heap.objs.size))/\wpAny (model prog w) A (match Value.ref s.heap.objs.size with
    |Value.ref a=>do
     match (<-load a).data with
      |Data.seq xs _=>pure xs.toList
      |_=>unsupported "internal:collect"
    |_=>unsupported "internal:collect") Q E s') (s:={ s with heap:=s.heap.push { cls:=.type "list",data:=.seq ([]:List Value).toArray } }) hh (y02 _ hr) hsmall hn hlen _ (.ref s.heap.objs.size) 0 hS
  λh' tk acc c' hk hS' hacc=>⟨rfl,fin' h' tk acc c' hk hS' hacc⟩) (λfin s' h=>?_) (λe s' h=>?_)
 .cases fin with
  |done f =>
   obtain⟨e,h⟩:=h;cases e;exact h
  |again c'=>exact⟨h.1,y1N h.2 λr s'' hr=>by obtain⟨rfl,h2⟩:=hr;exact h2⟩
 .exact absurd h.1 (by simp)
end
def z3h(r:Addr){a b c:Int}{t u v:Tok}{n:Nat}(hsmall:Builtin.Range.small a b c=true)(hn:Builtin.Range.rangeSize a b c=n)(hlen:n<=2^24) : Meets (Builtin.«tuple.__new__» ⟨[.type "tuple",.ref r],[]⟩) (λA R s=>A.handled=none/\IsRange s.heap r a b c t u v/\∀(h':Heap) (tk:Nat) (acc:Array Value),(∀b o,s.heap.get? b=some o->h'.get? b=some o)->s.heap.objs.size<=h'.objs.size->ItemsOf (λi v=>∃t,v=.int (a+i*c) t) acc n -> R (.ok (.ret (.ref h'.objs.size))) { s with heap:=h'.push { cls:=.type "tuple",data:=.seq acc },toks:=tk }) :=
 .of_wp λprog w A R s h=>by
  obtain⟨hh,hr,h⟩:=h;have hsub:=sub_tuple_self;have hinit:=init_tuple_lookup;have hmh:=madeHere_tuple;have hT:s.TypeIs (.ref r) "range":=⟨_,hr,rfl⟩;have hh1:A.in1.handled=none:=hh
  wp_walk using y3p hT,z6I hh1 hr hsmall hn hlen
  intro h' tk acc hk hz hacc;show wpAny _ _ (Builtin.Tuple.tupleExact acc.toList.toArray >>=
   λv=>ret v) _ _ _
  unfold Builtin.Tuple.tupleExact;refine y00 (y0T ?_ (show acc.toList.toArray.size<=sizeLine by simp only[Array.toArray_toList];rw[hacc.1,y2d];lia));refine y03 ⟨_,rfl,?_⟩;have e:acc.toList.toArray=acc:=by simp
  rw[e];exact h h' tk acc hk hz hacc
section
variable{X:Cx}
def z4b(hc:X.calm=true):z0G X (.type "tuple") (λxs H Q=>∃p lo hi,xs=[.ref p]/\H p=some (.rng lo hi)/\(-(2^62)<=lo/\lo<2^62/\-(2^62)<=hi/\hi<2^62)/\(hi-lo).toNat<=2^24 /\ ∀l,H l=none->Q (.ref l) (upd H l (.tup (zbC lo (hi-lo).toNat)))):=by
 intro pins s σ H xs us Q I r h;obtain⟨p,lo,hi,rfl,hp,⟨b1,b2,b3,b4⟩,hn,q⟩:=h;obtain⟨u,rfl,ru⟩:=z1q r;cases ru;obtain⟨t,u,v,hr⟩:=I.rng hp;refine callType_new F.called_tuple (by decide) (F.typeCall_tuple_1 _) (F.newCall_tuple_1 _) (λobj=>F.args_object_init_2 obj _) F.entry_tuple_new
  (z3h p (t:=t) (u:=u) (v:=v) (small_one b1 b2 b3 b4) z7E hn) ⟨I.ok.hd hc,hr,λh' tk acc hk hz hacc=>⟨⟨_,y04 _ rfl,rfl⟩,?_⟩⟩
 have hv:=z2o rfl hacc;have hf:H h'.objs.size=none:=I.hok.fresh hz;refine⟨.ref _,_,I.laid (o:=.tup (zbC lo (hi-lo).toNat)) (λb u e=>y02 _ (hk b u e)) hz ⟨by rw[z3r,y2d];lia,acc.toList,0,hv,by rw[show acc.toList.toArray=acc by simp];exact y04 _ rfl⟩,rfl,q _ hf⟩
def z3o{prog:Program}{w:World}{A:Around}{its:Array Value}{bs:List Bool}(r:z0B (bs.map V.bl) its.toList):TruthOf prog w A (λi v=>its[i]?=some v) (λi=>bs.getD i false):=by
 intro i v s Q E hi hq;have hl:=r.length;rw[y01]at hl;have hlt:i<bs.length:=by
  have:i<its.size:=by
   rcases Nat.lt_or_ge i its.size with z|z
   .exact z
   .rw[y2S z]at hi;cases hi
  simp at hl;lia
 have h1:(bs.map V.bl)[i]?=some (.bl bs[i]):=by simp[hlt]
 obtain⟨u,hu,ru⟩:=r.get h1;have:u=v:=by
  have e:its.toList[i]?=some v:=by simpa using hi
  rw[e]at hu;exact(y06 hu).symm
 subst this;cases ru;refine y11 ?_;have e:bs.getD i false=bs[i]:=by simp[hlt]
 have hq':Q (bs.getD i false) s:=hq;rw[e]at hq';exact hq'
def z9y{n:Nat}{bs:List Bool}(h:bs.length=n):(List.range n).all (λi=>bs.getD i false)=bs.all id:=by
 subst h;rw[Bool.eq_iff_iff,y0u,y0u];constructor
 .intro h b hb;obtain⟨i,hi,e⟩:=y1Z hb;have:=h i (by simpa using hi);simp[hi,e]at this;exact this
 .intro h i hi;have hi:i<bs.length:=by simpa using hi
  have:=h bs[i] (y1J hi);simp[hi];exact this
def z9Q{n:Nat}{bs:List Bool}(h:bs.length=n):(List.range n).any (λi=>bs.getD i false)=bs.any id:=by
 subst h;rw[Bool.eq_iff_iff,List.any_eq_true,List.any_eq_true];constructor
 .rintro⟨i,hi,e⟩;have hi:i<bs.length:=by simpa using hi
  refine⟨bs[i],y1J hi,?_⟩;simp[hi]at e;exact e
 .rintro⟨b,hb,e⟩;obtain⟨i,hi,e'⟩:=y1Z hb;refine⟨i,by simpa using hi,?_⟩;simp[hi,e'];exact e
def zcU(hc:X.calm=true):z0G X (.builtin "all") (λxs H Q=>∃(p:Addr) (bs:List Bool),xs=[.ref p]/\SqL X.K H p (bs.map V.bl)/\Q (.bl (bs.all id)) H):=by
 intro pins s σ H xs us Q I r h;obtain⟨p,bs,rfl,hp,q⟩:=h;obtain⟨u,rfl,ru⟩:=z1q r;cases ru;obtain⟨its,rv,pl,hz⟩:=I.list hp;have hlt:p<s.heap.objs.size:=by obtain⟨o,n,e,_⟩:=pl;exact y05 e
 have hl:=rv.length;rw[y01]at hl;refine call_all_walk (y0X pl.isList ?_);refine⟨s.heap.objs.size,_,_,_,_,_,λi=>bs.getD i false,rfl,Walks.list (A:=X.A.in1) (show X.A.in1.handled=none from I.ok.hd hc) s.heap.objs.size p (y0i hlt) its.toArray,⟨⟨_,y04 _ rfl,rfl,rfl⟩,Heap.IsList.push pl.isList _⟩,z3o (by simpa using rv),λh' tk hk=>?_⟩;rw[z9y (by simpa using hl)];exact⟨.bl _,H,I.kept (t':=tk) (λb o e=>hk b o (by simpa using(y0i (y05 e))) (y02 _ e)),rfl,q⟩
def zbT(hc:X.calm=true):z0G X (.builtin "any") (λxs H Q=>∃(p:Addr) (bs:List Bool),xs=[.ref p]/\SqL X.K H p (bs.map V.bl)/\Q (.bl (bs.any id)) H):=by
 intro pins s σ H xs us Q I r h;obtain⟨p,bs,rfl,hp,q⟩:=h;obtain⟨u,rfl,ru⟩:=z1q r;cases ru;obtain⟨its,rv,pl,hz⟩:=I.list hp;have hlt:p<s.heap.objs.size:=by obtain⟨o,n,e,_⟩:=pl;exact y05 e
 have hl:=rv.length;rw[y01]at hl;refine call_any_walk (y0X pl.isList ?_);refine⟨s.heap.objs.size,_,_,_,_,_,λi=>bs.getD i false,rfl,Walks.list (A:=X.A.in1) (show X.A.in1.handled=none from I.ok.hd hc) s.heap.objs.size p (y0i hlt) its.toArray,⟨⟨_,y04 _ rfl,rfl,rfl⟩,Heap.IsList.push pl.isList _⟩,z3o (by simpa using rv),λh' tk hk=>?_⟩;rw[z9Q (by simpa using hl)];exact⟨.bl _,H,I.kept (t':=tk) (λb o e=>hk b o (by simpa using(y0i (y05 e))) (y02 _ e)),rfl,q⟩
end
open PySem.AutoSeq1 (wpAny_loadPart')
section
variable{prog:Program}{w:World}{A:Around}{E:yyE}{s:Shared}
def z4B{it t:Addr}{i:Nat}{its:Array Value}{x:Value}{Q:yyE}(hit:s.heap.IsTupleIter it t i)(ht:s.heap.IsTuple t its)(hx:its[i]?=some x)(hQ:∀h',h'.IsTupleIter it t (i+1)->Heap.SameBut it s.heap h'->Q x { s with heap:=h' }):wpAny (model prog w) A (Builtin.SmallTypes.nextOf (.ref it)) Q E s:=by
 obtain⟨o,ho,hc,hd⟩:=id hit;obtain⟨ol,hol,_,nl,hdl⟩:=ht;unfold Builtin.SmallTypes.nextOf;refine y00 (y0P (name:=Str.ofString "__next__") hit.typeIs y1H
  (y0Q y1H hit.typeIs F.entry_tuple_iterator_next ?_
   (F.args_tuple_iterator_next_1 _)))
 show wpAny _ _ (field (.ref it) 0>>=_) _ _ s;refine y00 (y14 ho hd (x:=.ref t) rfl ?_);show wpAny _ _ (if(Value.ref t==Value.none)=true
  then _ else _) _ _ s
 rw[if_neg (show ¬((Value.ref t==Value.none)=true)
  from y0s)]
 show wpAny _ _ (field (.ref it) 1>>=_) _ _ s;refine y00 (y14 ho hd (x:=.int i 0) rfl ?_);show wpAny _ _ (seqItems? (.ref t)>>=_) _ _ s;refine y00 (y1Q hol hdl ?_);simp only[y19,hx];refine y00 (wpAny_setField ho hd (by simp) (y03
  ⟨x,rfl,y03 (hQ _ ?_ (y2u ..))⟩))
 exact⟨_,y1b _ ho (Obj.isFreed_of_fields (Obj.data_mapFields hd _)),
  (Obj.cls_mapFields ..).trans hc,by rw[Obj.data_mapFields hd];simp[rawInt]⟩
def z6j{it t:Addr}{i:Nat}{its:Array Value}{Q:yyE}(hh:A.handled=none)(hit:s.heap.IsTupleIter it t i)(ht:s.heap.IsTuple t its)(hx:its[i]?=none)(hE:∀h' e,Heap.ExtBut it s.heap h'->(∃o,h'.get? e=some o/\o.cls=.type "StopIteration")->E (.ref e) { s with heap:=h' }):wpAny (model prog w) A (Builtin.SmallTypes.nextOf (.ref it)) Q E s:=by
 obtain⟨o,ho,hc,hd⟩:=id hit;obtain⟨ol,hol,_,nl,hdl⟩:=ht;unfold Builtin.SmallTypes.nextOf;refine y00 (y0P (name:=Str.ofString "__next__") hit.typeIs y1H
  (y0Q y1H hit.typeIs F.entry_tuple_iterator_next ?_
   (F.args_tuple_iterator_next_1 _)))
 show wpAny _ _ (field (.ref it) 0>>=_) _ _ s;refine y00 (y14 ho hd (x:=.ref t) rfl ?_);show wpAny _ _ (if(Value.ref t==Value.none)=true
  then _ else _) _ _ s
 rw[if_neg (show ¬((Value.ref t==Value.none)=true)
  from y0s)]
 show wpAny _ _ (field (.ref it) 1>>=_) _ _ s;refine y00 (y14 ho hd (x:=.int i 0) rfl ?_);show wpAny _ _ (seqItems? (.ref t)>>=_) _ _ s;refine y00 (y1Q hol hdl ?_);simp only[y19,hx];refine y00 (wpAny_rule (y00 (wpAny_setField ho hd (by simp) ?_)));show wpAny _ _ (newExc (.type "StopIteration") []>>=_) _ _ _;refine y00 ?_;simp only[newExc,newTuple];refine y00 (y0T ?_ (by size_fits));refine y00 (m:=firstArgMember _ _) (wpAny_of_eq (a:=Value.none)
  (by first|rfl|(simp only[firstArgMember];rfl)) ?_)
 refine y0T ?_ (by size_fits);simp only[raiseNew];refine y00 (wpAny_handled ?_);first|rw[show A.in1.handled=none from hh]|rw[hh]
 refine y00 (y03 (wpAny_throw ?_));exact hE _ _ (((y2u ..).extBut.push _).push _)
  ⟨_,y04 _ rfl,rfl⟩
def zbx(hh:A.handled=none)(it t:Addr)(hne:t≠it)(its:Array Value):Draws prog w A it [it,t] its.size (λi v=>its[i]?=some v) (λi h=>h.IsTupleIter it t i/\h.IsTuple t its) where
 live:=λi h st=>by obtain⟨⟨o,e,_⟩,_⟩:=st;exact⟨o,e⟩
 frame:=λi h h' st hk=>by obtain⟨⟨o,e,c⟩,⟨o2,e2,c2⟩⟩:=st;exact⟨⟨o,hk it (by simp) _ e,c⟩,⟨o2,hk t (by simp) _ e2,c2⟩⟩
 item:=λi s Q E hi st hQ=>by refine z4B st.1 st.2 (x:=its[i]) (by simp[hi]) λh' hit' hs'=>?_;obtain⟨o2,e2,c2⟩:=st.2;exact hQ _ h' s.toks (by simp[hi]) ⟨hit',⟨o2,(hs'.2 t hne).trans e2,c2⟩⟩ hs'
 done:=λs Q E st hE=>z6j hh st.1 st.2 (by simp) hE
end
def Inv.turnedNew{X:Cx}{pins:yyP}{σ:St}{H:Hp}{s:Shared}{ch:List Addr}{p:Addr}{o:HO}{h':Heap}{t':Nat}(I:Inv X pins σ H s)(k:∀b u,b∉ch->s.heap.get? b=some u->h'.get? b=some u)(hp:s.heap.objs.size<=p)(new:z0K X.prog X.w (upd H p o) h' p o)(hf:∀b∈ch,z52 X pins H b):Inv X pins σ (upd H p o) { s with heap:=h',toks:=t' }:=by
 have hn:H p=none:=I.hok.fresh hp;have nc:∀b u,H b=some u->b∉ch:=λb u e z=>by rw[(hf b z).1]at e;cases e
 refine I.step (g':=s.gens) (d':=s.drawn) (ch:=ch) (λb hb=>?_) (λb u _ _ hc e _=>k b u hc e) (λb u _ _ hc e _=>⟨u.slots,k b u hc e⟩) (λb u _ e n=>?_) (λb u hc e=>⟨u,k b u hc e⟩)
  (λb xs e=>?_) (λb u xs e=>?_) (λb ps e=>⟨#[],?_⟩) (λm hm=>?_) (λb u e=>?_) I.bare
 .obtain⟨_,f1,_,f3,f4,f5⟩:=hf b hb;exact⟨f3,f1,f4,f5⟩
 .rw[z0c (y0i (y0h (y05 e) hp))];exact n
 .rw[z0c (z0h e hn)];exact e
 .rw[z0c (z0h e hn)];exact e
 .rw[z0c (z0h e hn),e];simp
 .obtain⟨ob,es,ep,ho,r⟩:=hm;exact⟨ob,es,ep,k _ ob (λz=>(hf _ z).2.1 rfl) ho,r⟩
 .by_cases hb:b=p
  .subst hb;rw[z0a]at e;cases e;exact new
  .rw[z0c hb]at e;refine(I.hok b u e).stay (λc v hc q=>k c v ?_ q) (λc q=>by rw[z0c (z0h q hn)];exact q) λc xs q=>by rw[z0c (z0h q hn)];exact q
   rcases hc with z|z
   .rw[z];exact nc b u e
   .exact nc c _ z
def Inv.turnedL{X:Cx}{pins:yyP}{σ:St}{H:Hp}{s:Shared}{ch:List Addr}{h':Heap}{t':Nat}(I:Inv X pins σ H s)(k:∀b u,b∉ch->s.heap.get? b=some u->h'.get? b=some u)(hf:∀b∈ch,z52 X pins H b):Inv X pins σ H { s with heap:=h',toks:=t' }:=by
 have nc:∀b u,H b=some u->b∉ch:=λb u e z=>by rw[(hf b z).1]at e;cases e
 refine I.step (g':=s.gens) (d':=s.drawn) (ch:=ch) (λb hb=>?_) (λb u _ _ hc e _=>k b u hc e) (λb u _ _ hc e _=>⟨u.slots,k b u hc e⟩) (λb u _ e n=>n) (λb u hc e=>⟨u,k b u hc e⟩)
  (λb xs e=>e) (λb u xs e=>e) (λb ps e=>⟨#[],by rw[e];simp⟩) (λm hm=>?_) (λb u e=>?_) I.bare
 .obtain⟨_,f1,_,f3,f4,f5⟩:=hf b hb;exact⟨f3,f1,f4,f5⟩
 .obtain⟨ob,es,ep,ho,r⟩:=hm;exact⟨ob,es,ep,k _ ob (λz=>(hf _ z).2.1 rfl) ho,r⟩
 .refine(I.hok b u e).stay (λc v hc q=>k c v ?_ q) (λc q=>q) λc xs q=>q;rcases hc with z|z
  .rw[z];exact nc b u e
  .exact nc c _ z
section
def z4x{h:Heap}{a b:Addr}{o u:Obj}{x y:String}(ha:h.get? a=some o)(hb:h.get? b=some u)(hx:o.cls=.type x)(hy:u.cls=.type y)(hxy:x≠y):a≠b:=by intro e;subst e;rw[ha]at hb;cases hb;rw[hx]at hy;injection hy with hy;exact hxy hy
end
open PySem.AutoSeq1 (wpAny_loadPart')
open PySem.SeqAt
open PySem.AutoSeq1 (wpAny_loadPart')
section
variable{X:Cx}(K:yyF)
variable{o e:Expr}{t:TA}{cpos:Pos}{r:V->List V->Hp->VK->Prop}
inductive TyS(K:yyF)(H:Hp):V->Value->Prop where
 |of {x:V} {t:Value} (h:z8Z K H x t):TyS K H x t
 |tup {a:Addr} {xs:List V} (h:SqT K H a xs):TyS K H (.ref a) (.type "tuple")
 |lst {a:Addr} {xs:List V} (h:SqL K H a xs):TyS K H (.ref a) (.type "list")
def zm9(c:String)(hK:X.K=K):z0G X (.builtin "isinstance") (λxs H Q=>∃x t b,xs=[x,.ty c]/\TyS K H x t/\PySem.W.kitOne K t (.type c)=some b/\Q (.bl b) H):=by
 subst hK;intro pins s σ H xs us Q I r h;obtain⟨x,t,b,rfl,ty,k,q⟩:=h;obtain⟨u,w',rfl,ru,rw'⟩:=zaw r;cases rw';cases ty with
 |of ty=>exact zb4 I ru ty k λtk=>⟨.bl b,H,I.tok tk,rfl,q⟩
 |tup ht =>
  cases ru;obtain⟨_,_,⟨o,h1,h2,_⟩,_⟩:=I.tuple ht;exact y0R PySem.W.kitx_tuple I.kIn ⟨o,h1,h2⟩ k (λz=>nomatch z) λtk=>⟨.bl b,H,I.tok tk,rfl,q⟩
 |lst ht =>
  cases ru;obtain⟨_,_,⟨o,n,h1,h2,_⟩,_⟩:=I.list ht;exact y0R PySem.W.kitx_list I.kIn ⟨o,h1,h2⟩ k (λz=>nomatch z) λtk=>⟨.bl b,H,I.tok tk,rfl,q⟩
def zm1(K:yyF)(c:String)(te:TE):TE:=tCB (λxs H Q=>∃x t b,xs=[x,.ty c]/\TyS K H x t/\PySem.W.kitOne K t (.type c)=some b/\Q (.bl b) H) (zbi te (zbi (tC (.ty c)) zky))
def zmm{x:Str}{c:String}{p q cpos:Pos}{te:TE}(hK:X.K=K)(he:PE X e te)(mi:X.mg "isinstance"=none)(mc:X.mg x=none)(hb:bootBuiltins x=some (.type c))(hg:Gl X "isinstance":=by rfl)(hgc:Gl X x:=by rfl)(hn:x≠"__name__":=by decide)(hd:(x==("__debug__":Str))=false:=by decide)(hs:starEach [e,.Name x q] X.env=(false,eval e X.env)::starEach [.Name x q] X.env:=by rfl)(hpl:(backTo cpos (starEach [.Name x q] X.env)).any (·.1)=false:=by rfl) : PE X (.Call (.Name "isinstance" p) [e,.Name x q] [] cpos) (zm1 K c te) :=
 z5h (zm9 K c hK) hg mi boot_isinstance (z1a he (z1a (zau (v:=.ty c) hgc mc hb rfl hn hd) z2z) hs) (by decide) (by decide) hs hpl
end
end L2
namespace Gu
open PySem L2
def z27(n:Nat):List Int:=(List.range n).map λ(i:Nat)=>(i:Int)
def z1A(n:Nat):(z27 n).length=n:=by simp[z27]
def z2m{n i:Nat}(h:i<n):(z27 n)[i]?=some (i:Int):=by simp[z27,h]
def zdv{n:Nat}{x:Int}:x∈z27 n↔0<=x/\x<n:=by
 constructor
 .intro h;obtain⟨i,hi,rfl⟩:=y0f.mp h;have:=y2Y.mp hi;lia
 .intro⟨h0,h1⟩;exact y0f.mpr ⟨x.toNat,y2Y.mpr (by lia),by lia⟩
def IsP(n:Nat)(p:List Int):Prop:=p.Perm (z27 n)
def IsP.len{n:Nat}{p:List Int}(h:IsP n p):p.length=n:=by rw[List.Perm.length_eq h,z1A]
end Gu
namespace L2
open PySem PySem.Spec PyProof.Rows PySem.SeqAt
open PySem.AutoSeq1 (wpAny_loadPart')
open PySem.AutoSeq1 (wpAny_loadPart')
theorem z5J:∀{ns:List Int}{its:List Value},z0B (ns.map V.int) its->∃xs:List (Int × Tok),its=xs.map (λp=>Value.int p.1 p.2)/\xs.map (·.1)=ns
 |[],_,r=>by rw[y2h]at r;cases r;exact⟨[],rfl,rfl⟩
 |n::ns,_,r=>by
  rw[y0o]at r;cases r with
  |cons r rr =>
   obtain⟨t,rfl⟩:=r;obtain⟨xs,rfl,e⟩:=z5J rr;exact⟨(n,t)::xs,rfl,by rw[y0o,e]⟩
theorem z7K:∀{ns:List Int}{its:List Value},z0B (ns.map V.int) its->IntsAre its ns
 |[],_,r=>by rw[y2h]at r;cases r;exact .nil
 |n::ns,_,r=>by
  rw[y0o]at r;cases r with
  |cons r rr =>
   obtain⟨t,rfl⟩:=r;exact .cons n t (z7K rr)
theorem z3O:∀{ns:List Int}{its:List Value},IntsAre its ns->z0B (ns.map V.int) its
 |_,_,.nil=>.nil
 |_,_,.cons n t r=>.cons ⟨t,rfl⟩ (z3O r)
section
variable{X:Cx}(K:yyF)
def zlW(hK:X.K=K)(hc:X.calm=true):z0G X (.builtin "max") (λxs H Q=>∃(p:Addr) (ns:List Int) (M:Int),xs=[.ref p]/\SqL K H p (ns.map V.int)/\M∈ns/\(∀a∈ns,a<=M)/\Q (.int M) H):=by
 subst hK;intro pins s σ H xs us Q I r h;obtain⟨p,ns,M,rfl,hp,hM,hle,q⟩:=h;obtain⟨u,rfl,ru⟩:=z1q r;cases ru;obtain⟨its,rv,pl,hz⟩:=I.list hp;obtain⟨ys,rfl,ey⟩:=z5J rv;have hne:0<ys.length:=by have:0<ns.length:=List.length_pos_of_mem hM;rw[<-ey,y01]at this;exact this
 have e1:(ys.map λp=>Value.int p.1 p.2).toArray=intItems ys.toArray:=by unfold intItems;simp
 have pl':=pl.isList;rw[e1]at pl';refine max_intList (xs:=ys.toArray) (I.ok.hd hc) pl' (by simpa using hne) λv h' tk hv hk=>?_;obtain⟨t,rfl⟩:=intItems_at hv;obtain⟨h1,h2⟩:=argBest_gt (numAt ys.toArray) (ys.toArray.size-1);have emem:∀j,j<ys.length->numAt ys.toArray j∈ns:=λj hj=>by
  rw[numAt_eq];have:(ys.toArray.toList.map (·.1))=ns:=by simpa using ey
  rw[this];have hjn:j<ns.length:=by rw[<-ey,y01];exact hj
  simp[hjn]
 have hb:argBest (λi j=>decide (numAt ys.toArray i>numAt ys.toArray j)) (ys.toArray.size-1)<ys.length:=by
  have:ys.toArray.size=ys.length:=by simp
  lia
 have eM:numAt ys.toArray (argBest (λi j=>decide (numAt ys.toArray i>numAt ys.toArray j)) (ys.toArray.size-1))=M:=by
  refine Int.le_antisymm (hle _ (emem _ hb)) ?_;obtain⟨j,hj,e⟩:=y1Z hM;have hjy:j<ys.length:=by rw[<-ey,y01]at hj;exact hj
  have z:=h2 j (by simp;lia);have e2:numAt ys.toArray j=M:=by
   rw[numAt_eq];have:(ys.toArray.toList.map (·.1))=ns:=by simpa using ey
   rw[this];simp[hj,e]
  rw[e2]at z;exact z
 rw[eM];exact⟨.int M,H,I.kept (t':=tk) hk,⟨_,rfl⟩,q⟩
def zji(hK:X.K=K):z0G X (.builtin "sorted") (λxs H Q=>∃(p:Addr) (ns:List Int),xs=[.ref p]/\SqT K H p (ns.map V.int)/\ns.length<64/\∀ns':List Int,ns'.Perm ns->ns'.Pairwise (·<=·)->∀l,H l=none->Q (.ref l) (upd H l (.lst (ns'.map V.int)))):=by
 subst hK;intro pins s σ H xs us Q I r h;obtain⟨p,ns,rfl,hp,h64,q⟩:=h;obtain⟨u,rfl,ru⟩:=z1q r;cases ru;obtain⟨its,rv,⟨o,ho,hc,n,hd⟩,hz⟩:=I.tuple hp;have hI:=z7K rv;have hlen:its.length=ns.length:=by have:=rv.length;rw[y01]at this;exact this.symm
 refine Calls.call_function_entry kind_sorted plain_sorted entry_sorted (args_sorted1 _) ?_;unfold Builtin.«sorted»;refine y00 (m:=checkCount "sorted" 1 1 _) (y03 ?_);refine y00 (wpAny_collect_seq (T:="tuple") p (.inr rfl) ho hc hd (λh1 hk1=>?_) (by simp only[y0g];rw[<-rv.length];exact hz));refine y00 (wpAny_newList ?_);have I1:Inv X pins σ H { s with heap:=h1 }:=I.kept (t':=s.toks) hk1;have e0:its.toArray.toList=its:=by simp
 rw[e0];have hoL:(h1.push (seqObj "list" its.toArray 0)).get? h1.objs.size=some (seqObj "list" its.toArray 0):=y04 _ rfl;show wpAny _ _ _ _ _ { s with heap:=h1.push (seqObj "list" its.toArray 0) };refine y00 (y0C (y0Q slot_list_sort ⟨_,hoL,rfl⟩ entry_list_sort
  (list_sort_tree hoL hI (by lia) λout ns' a1 a2 a3=>⟨_,rfl,?_⟩) (args_list_sort _)))
 obtain⟨e,he⟩:=sortedHeap_at (out:=out) hoL;refine y03 ⟨_,rfl,.ref h1.objs.size,_,I1.laid (a:=h1.objs.size) (o:=.lst (ns'.map V.int)) (t':=s.toks) (λb u q=>?_) (y09 _) ⟨?_,out.toList,e,z3O a1,by simpa[seqObj]using he⟩,rfl,q ns' a2 a3 _ I1.fresh⟩
 .have hlt:b<h1.objs.size:=y05 q;rw[sortedHeap_old (y0i hlt) (by rw[y1w];exact Nat.lt_succ_of_lt hlt)];exact y02 _ q
 .rw[y01,List.Perm.length_eq a2];have:=z3A;exact y0Y (zbr (by lia))
def z21:fillsNumberSlot (.type "tuple") "mul"=pure false :=
 PySem.fillsNumberSlot_seq (id:="tuple.__mul__") (r:=some (.builtin "tuple.__rmul__")) y2q.lookup (by decide +kernel) F.slot_tuple_rmul.lookup (by decide +kernel)
def z2M:seqRepeat? (.type "tuple")=pure (some (.builtin "tuple.__mul__")):=by unfold seqRepeat?;rw[PySem.seqSlot_of (T:="tuple") (name:="__mul__") (id:="tuple.__mul__") y2q.lookup (by decide +kernel),PySem.seqSlot_of (T:="tuple") (name:="__rmul__") (id:="tuple.__rmul__") F.slot_tuple_rmul.lookup (by decide +kernel)];rfl
def z24(a:Int)(t:Tok)(l:Addr)(its:Array Value)(n:Nat) : Meets (Builtin.«int.__rmul__» ⟨[.int a t,.ref l],[]⟩) (λ_ R s=>s.heap.get? l=some { cls:=.type "tuple",dict:=none,data:=.seq its n,slots:=#[] }/\R (.ok (.ret Value.notImplemented)) s) :=
 .of_wp λprog w A R s h=>by
  obtain⟨hp,g,d,tk,os⟩:=s;obtain⟨hl,h⟩:=h
  wp_walk
  exact⟨_,rfl,h⟩
end
class NoE (CX:CXT):Prop where
 no:∀{outer:List Env}{H:Hp}{s:Shared}{e:Value}{s':Shared},¬CX outer H s E0 e s'
end L2
namespace Gu
open PySem L2
section
variable{α:Type}[DecidableEq α]
def z3q(o:List α)(g:α):List α:=if g∈o then o else o++[g]
def z0o(o:List α)(gs:List α):List α:=gs.foldl z3q o
def z1p(ks:List α):List α:=z0o [] ks
def z2Q(ks:List α):List Int:=ks.map λk=>(((z1p ks).idxOf k:Nat):Int)
def z0O{o:List α}{g:α}(h:g∈o):z3q o g=o:=if_pos h
def z0W{o:List α}{g:α}(h:g∉o):z3q o g=o++[g]:=if_neg h
def zc8(o:List α)(g:α):∃m,z3q o g=o++m:=by
 by_cases h:g∈o
 .exact⟨[],by rw[z0O h];simp⟩
 .exact⟨[g],z0W h⟩
theorem z1t:∀(gs o:List α),∃m,z0o o gs=o++m
 |[],o=>⟨[],by simp[z0o]⟩
 |g::gs,o=>by obtain⟨m1,e1⟩:=zc8 o g;obtain⟨m2,e2⟩:=z1t gs (z3q o g);refine⟨m1++m2,?_⟩;show z0o (z3q o g) gs=_;rw[e2,e1,y1a]
def z2g(o gs:List α)(g:α):z0o o (gs++[g])=z3q (z0o o gs) g:=by unfold z0o;rw[List.foldl_append];rfl
def z8A{o:List α}{g:α}(h:o.Nodup):(z3q o g).Nodup:=by
 by_cases hg:g∈o
 .rw[z0O hg];exact h
 .rw[z0W hg];exact zaK h hg
theorem z1W:∀(gs o:List α),o.Nodup->(z0o o gs).Nodup
 |[],o,h=>h
 |g::gs,o,h=>z1W gs (z3q o g) (z8A h)
def z5T{o:List α}{g x:α}:x∈z3q o g↔x∈o\/x=g:=by
 by_cases hg:g∈o
 .rw[z0O hg];constructor
  .exact .inl
  .rintro(h|rfl)
   .exact h
   .exact hg
 .rw[z0W hg];simp
theorem z11:∀{gs o:List α}{x:α},x∈z0o o gs↔x∈o\/x∈gs
 |[],o,x=>by simp[z0o]
 |g::gs,o,x=>by
  have ih:=z11 (gs:=gs) (o:=z3q o g) (x:=x);show x∈z0o (z3q o g) gs↔_;rw[ih,z5T,y0k];constructor
  .rintro((h|h)|h)
   .exact .inl h
   .exact .inr (.inl h)
   .exact .inr (.inr h)
  .rintro(h|h|h)
   .exact .inl (.inl h)
   .exact .inl (.inr h)
   .exact .inr h
theorem z26:∀(gs o:List α),(z0o o gs).length<=o.length+gs.length
 |[],o=>by simp[z0o]
 |g::gs,o=>by
  have ih:=z26 gs (z3q o g);have h1:(z3q o g).length<=o.length+1:=by
   by_cases hg:g∈o
   .rw[z0O hg];lia
   .rw[z0W hg];simp
  show(z0o (z3q o g) gs).length<=_;rw[y0c];lia
def zbz{o m:List α}{g:α}(h:g∈o):(o++m).idxOf g=o.idxOf g:=by rw[List.idxOf_append,if_pos h]
theorem z3T:∀(n:Nat)(o:List Nat),o.Nodup->(∀x∈o,x<n)->o.length<=n
 |0,o,_,h=>by
  cases o with
  |nil=>simp
  |cons a r=>exact absurd (h a (by simp)) (Nat.not_lt_zero _)
 |n+1,o,hn,h=>by
  by_cases hm:n∈o
  .have ih:=z3T n (o.erase n) (hn.erase n) λx hx=>by
    have h1:=(hn.mem_erase_iff).mp hx;have:=h x h1.2;have:=h1.1;lia
   rw[List.length_erase_of_mem hm]at ih;lia
  .have ih:=z3T n o hn λx hx=>by
    have:=h x hx;have:x≠n:=λe=>hm (e▸hx);lia
   lia
def z5R{n:Nat}{o:List Int}(h:o.Nodup)(hr:∀x∈o,0<=x/\x<(n:Int)):o.length<=n:=by
 have h1:(o.map Int.toNat).Nodup:=by rw[List.nodup_iff_pairwise_ne,List.pairwise_map];refine List.Pairwise.imp_of_mem (λ{a b} ha hb hab e=>?_) (List.nodup_iff_pairwise_ne.mp h);have:=hr a ha;have:=hr b hb;exact hab (by lia)
 have h3:=z3T n _ h1 λx hx=>by obtain⟨y,hy,rfl⟩:=y0f.mp hx;have:=hr y hy;lia
 simpa using h3
end
abbrev Row:=List Int × List Int
def row(rows:List Row)(r:Int):Row:=rows.getD r.toNat ([],[])
structure z1n(n:Nat)(rows:List Row):Prop where
 few:rows.length<=4000
 some:1<=rows.length
 perm:∀r∈rows,IsP n r.1
 len:∀r∈rows,r.2.length=n
 go:∀r∈rows,∀g∈r.2,0<=g/\g<(rows.length:Int)
def bfs(rows:List Row):Nat->Nat->List Int->List Int
 |0,_,o=>o
 |f+1,i,o=>match o[i]? with
  |none=>o
  |some r=>bfs rows f (i+1) (z0o o (row rows r).2)
def z2n(rows:List Row):List Int:=bfs rows (rows.length+1) 0 [0]
def z82{rows:List Row}{f i:Nat}{o:List Int}{r:Int}(e:o[i]?=some r):bfs rows (f+1) i o=bfs rows f (i+1) (z0o o (row rows r).2):=by
 show(match o[i]? with|none=>o|some r=>bfs rows f (i+1) (z0o o (row rows r).2))=_
 rw[e]
def z8p{rows:List Row}{f i:Nat}{o:List Int}(e:o.length<=i):bfs rows f i o=o:=by
 cases f with
 |zero=>rfl
 |succ f =>
  show(match o[i]? with|none=>o|some r=>bfs rows f (i+1) (z0o o (row rows r).2))=_
  rw[y1m e]
theorem z7g(rows:List Row):∀(f i:Nat)(o:List Int),∃m,bfs rows f i o=o++m
 |0,i,o=>⟨[],by simp[bfs]⟩
 |f+1,i,o=>by
  unfold bfs;cases e:o[i]? with
  |none=>exact⟨[],by simp⟩
  |some r =>
   obtain⟨m1,e1⟩:=z1t (row rows r).2 o;obtain⟨m2,e2⟩:=z7g rows f (i+1) (z0o o (row rows r).2);exact⟨m1++m2,by show bfs rows f (i+1) (z0o o (row rows r).2)=_;rw[e2,e1,y1a]⟩
structure zaa(rows:List Row)(o:List Int):Prop where
 nd:o.Nodup
 rg:∀x∈o,0<=x/\x<(rows.length:Int)
 hd:∃t,o=0::t
def z1D{rows:List Row}{r:Int}(h0:0<=r)(h1:r<(rows.length:Int)):row rows r∈rows:=by
 unfold row;have:r.toNat<rows.length:=by lia
 have e:rows.getD r.toNat ([],[])=rows[r.toNat]:=by simp[this]
 rw[e];exact y1J this
def z9L{rows:List Row}{r:Int}(h0:0<=r)(h1:r<(rows.length:Int)):rows[r.toNat]?=some (row rows r):=by
 unfold row;have:r.toNat<rows.length:=by lia
 simp[this]
def zaa.add{n:Nat}{rows:List Row}{o:List Int}(G:z1n n rows)(L:zaa rows o){r:Int}(h:r∈o):zaa rows (z0o o (row rows r).2):=by
 refine⟨z1W _ _ L.nd,λx hx=>?_,?_⟩
 .rcases z11.mp hx with hx|hx
  .exact L.rg x hx
  .exact G.go _ (z1D (L.rg r h).1 (L.rg r h).2) x hx
 .obtain⟨t,e⟩:=L.hd;obtain⟨m,e2⟩:=z1t (row rows r).2 o;exact⟨t++m,by rw[e2,e];rfl⟩
def zaa.len{rows:List Row}{o:List Int}(L:zaa rows o):o.length<=rows.length:=z5R L.nd L.rg
def ziz{n:Nat}{rows:List Row}(G:z1n n rows):zaa rows [0]:=by
 refine⟨by simp,λx hx=>?_,⟨[],rfl⟩⟩;have:x=0:=by simpa using hx
 have:=G.some;lia
theorem zb2{n:Nat}{rows:List Row}(G:z1n n rows):∀(f i:Nat)(o:List Int),zaa rows o->i<=o.length->rows.length+1<=f+i->(∀j r,j<i->o[j]?=some r->∀g∈(row rows r).2,g∈o) ->
  zaa rows (bfs rows f i o)/\∀r∈bfs rows f i o,∀g∈(row rows r).2,g∈bfs rows f i o
 |0,i,o,L,hi,hf,hc=>by
  have:=L.len;lia
 |f+1,i,o,L,hi,hf,hc=>by
  cases e:o[i]? with
  |none =>
   rw[z8p (List.getElem?_eq_none_iff.mp e)];refine⟨L,λr hr g hg=>?_⟩;obtain⟨j,hj,e2⟩:=y1Z hr;have:o.length<=i:=List.getElem?_eq_none_iff.mp e;exact hc j r (by lia) (by rw[y0a hj,e2]) g hg
  |some r =>
   rw[z82 e];have hr:r∈o:=y0M e;have hil:i<o.length:=(y0z.mp e).1;obtain⟨m,em⟩:=z1t (row rows r).2 o;refine zb2 G f (i+1) _ (L.add G hr) (by rw[em,y07];lia) (by lia) λj r' hj er g hg=>?_;have hjo:j<o.length:=by lia
   have er':o[j]?=some r':=by rw[em,y0A hjo]at er;exact er
   by_cases hji:j=i
   .subst hji;rw[e]at er';cases er';exact z11.mpr (.inr hg)
   .exact z11.mpr (.inl (hc j r' (by lia) er' g hg))
def z4t{n:Nat}{rows:List Row}(G:z1n n rows):zaa rows (z2n rows)/\∀r∈z2n rows,∀g∈(row rows r).2,g∈z2n rows :=
 zb2 G (rows.length+1) 0 [0] (ziz G) (by simp) (by lia) λj r hj=>absurd hj (Nat.not_lt_zero _)
def z2i(rows:List Row)(o:List Int):List Row:=o.map λr=>((row rows r).1,(row rows r).2.map λg=>((o.idxOf g:Nat):Int))
def z13(rows:List Row):List Row:=z2i rows (z2n rows)
def stepK(ks:List Int)(rows:List Row):List (Int × List Int):=(ks.zip rows).map λp=>(p.1,p.2.2.map λg=>ks.getD g.toNat 0)
def cnt(ks:List Int):Int:=ks.foldl max 0+1
def z6W(rows:List Row):Nat->Int->List Int->List Int
 |0,_,ks=>ks
 |f+1,c,ks=>if c<cnt ks then z6W rows f (cnt ks) (z2Q (stepK ks rows))else ks
def z6b(rows:List Row):List Int:=z6W rows (rows.length+1) 0 (z2Q (rows.map (·.1)))
def z6U(rows:List Row)(ks:List Int):List Row:=(rows.zip ks).foldl (λl p=>if p.2=(l.length:Int)then l++[(p.1.1,p.1.2.map λg=>ks.getD g.toNat 0)]else l) []
def least(rows:List Row):List Row:=z6U (z13 rows) (z6b (z13 rows))
def csc(ns:List (Str × NameKind)):Scope:={ kind:=.function,names:=ns,isGenerator:=false,isCoroutine:=false,more:=[] }
def same_up{H H1:Hp}{p:Addr}{o:HO}(s:Same H H1)(h:H1 p=none):Same H (upd H1 p o):=λb u e=>by have q:=s b u e;rw[z0c (z0h q h)];exact q
def z7f{n:Nat}{p q:List Int}(h:IsP n p)(hp:q.Perm p)(hs:q.Pairwise (·<=·)):q=z27 n:=by
 have h1:q.Perm (z27 n):=hp.trans h;have h2:(z27 n).Pairwise (·<=·):=by unfold z27;rw[List.pairwise_map];exact List.Pairwise.imp (λh=>by lia) List.pairwise_lt_range
 exact h1.eq_of_pairwise (λa b _ _ h1 h2=>Int.le_antisymm h1 h2) hs h2
section
variable{α β:Type}[DecidableEq α][DecidableEq β]
theorem z4o(f:α->β)(hf:∀x y,f x=f y->x=y):∀(gs o:List α),z0o (o.map f) (gs.map f)=(z0o o gs).map f
 |[],o=>rfl
 |g::gs,o=>by
  have h1:z3q (o.map f) (f g)=(z3q o g).map f:=by
   by_cases h:g∈o
   .rw[z0O h,z0O (y0f.mpr ⟨g,h,rfl⟩)]
   .have:f g∉o.map f:=λz=>by
     obtain⟨x,hx,e⟩:=y0f.mp z;exact h (hf _ _ e▸hx)
    rw[z0W h,z0W this,y0t];rfl
  show z0o (z3q (o.map f) (f g)) (gs.map f)=(z0o (z3q o g) gs).map f;rw[h1];exact z4o f hf gs (z3q o g)
theorem z62(f:α->β)(hf:∀x y,f x=f y->x=y):∀(l:List α)(a:α),(l.map f).idxOf (f a)=l.idxOf a
 |[],a=>rfl
 |b::r,a=>by
  rw[y0o,y2I,y2I,z62 f hf r a];have:(f b==f a)=(b==a):=by
   by_cases e:b=a
   .subst e;simp
   .have h1:(b==a)=false:=by simpa using e
    have h2:(f b==f a)=false:=by simpa using λz=>e (hf _ _ z)
    rw[h1,h2]
  rw[this]
def z83(f:α->β)(hf:∀x y,f x=f y->x=y)(xs:List α):z2Q (xs.map f)=z2Q xs:=by unfold z2Q z1p;have:=z4o f hf xs [];rw[y2h]at this;rw[this,y0U];refine y20 λx _=>?_;show(((((z0o [] xs).map f).idxOf (f x):Nat)):Int)=_;rw[z62 f hf]
def z38(xs:List α):(z2Q xs).length=xs.length:=by unfold z2Q;rw[y01]
def zab(xs:List α):(z1p xs).length<=xs.length:=by have:=z26 xs [];unfold z1p;simpa using this
def z4C{xs:List α}{k:Int}(h:k∈z2Q xs):0<=k/\k<((z1p xs).length:Int):=by unfold z2Q at h;obtain⟨x,hx,rfl⟩:=y0f.mp h;have:x∈z1p xs:=z11.mpr (.inr hx);have:=y10 this;lia
end
theorem z9j:∀(ks:List Int)(m:Int),m<=ks.foldl max m/\∀k∈ks,k<=ks.foldl max m
 |[],m=>⟨y2W _,λk h=>by simp at h⟩
 |a::r,m=>by
  obtain⟨h1,h2⟩:=z9j r (max m a);refine⟨Int.le_trans (Int.le_max_left m a) h1,λk hk=>?_⟩;rcases y0k.mp hk with rfl|hk
  .exact Int.le_trans (Int.le_max_right m k) h1
  .exact h2 k hk
theorem zbq:∀(ks:List Int)(m:Int),ks.foldl max m=m\/ks.foldl max m∈ks
 |[],m=>.inl rfl
 |a::r,m=>by
  rcases zbq r (max m a)with h|h
  .rcases Int.le_total m a with z|z
   .right;show r.foldl max (max m a)∈a::r;rw[h,Int.max_eq_right z];simp
   .left;show r.foldl max (max m a)=m;rw[h,Int.max_eq_left z]
  .right;exact y0d _ h
def z72{ks:List Int}(hne:ks≠[])(h0:∀k∈ks,0<=k):cnt ks-1∈ks/\∀k∈ks,k<=cnt ks-1:=by
 unfold cnt;have e:ks.foldl max 0+1-1=ks.foldl max 0:=by lia
 rw[e];refine⟨?_,(z9j ks 0).2⟩;rcases zbq ks 0 with h|h
 .rw[h];cases ks with
  |nil=>exact absurd rfl hne
  |cons a r =>
   have h1:=(z9j (a::r) 0).2 a (by simp);rw[h]at h1;have h2:=h0 a (by simp);have:a=0:=by lia
   simp[this]
 .exact h
def zap{ks:List Int}{n:Nat}(hne:ks≠[])(h0:∀k∈ks,0<=k/\k<(n:Int)):cnt ks<=n/\1<=cnt ks:=by obtain⟨h1,h2⟩:=z72 hne λk hk=>(h0 k hk).1;have:=h0 _ h1;lia
structure z6F(n:Nat)(rows:List Row):Prop where
 some:1<=rows.length
 few:rows.length<=4000
 perm:∀r∈rows,IsP n r.1
 len:∀r∈rows,r.2.length=n
 go:∀r∈rows,∀g∈r.2,0<=g/\g<(rows.length:Int)
def z8T{n:Nat}{rows:List Row}(G:z1n n rows):z6F n (z13 rows):=by
 obtain⟨L,cl⟩:=z4t G;have hl:=L.len;have hm:∀r∈z13 rows,∃x∈z2n rows,r=((row rows x).1,(row rows x).2.map λg=>(((z2n rows).idxOf g:Nat):Int)):=λr hr=>by unfold z13 z2i at hr;obtain⟨x,hx,e⟩:=y0f.mp hr;exact⟨x,hx,e.symm⟩
 have fl:(z13 rows).length=(z2n rows).length:=by unfold z13 z2i;rw[y01]
 refine⟨?_,by have:=G.few;lia,λr hr=>?_,λr hr=>?_,λr hr g hg=>?_⟩
 .obtain⟨t,e⟩:=L.hd;rw[fl,e];simp
 .obtain⟨x,hx,rfl⟩:=hm r hr;exact G.perm (row rows x) (z1D (L.rg x hx).1 (L.rg x hx).2)
 .obtain⟨x,hx,rfl⟩:=hm r hr;show(List.map _ _).length=n;rw[y01];exact G.len _ (z1D (L.rg x hx).1 (L.rg x hx).2)
 .obtain⟨x,hx,rfl⟩:=hm r hr;obtain⟨y,hy,rfl⟩:=y0f.mp hg;have:=y10 (cl x hx y hy);lia
structure z3B(rows:List Row)(ks:List Int):Prop where
 len:ks.length=rows.length
 rg:∀k∈ks,0<=k/\k<(rows.length:Int)
def zdX{n:Nat}{rows:List Row}(G:z6F n rows):z3B rows (z2Q (rows.map (·.1))):=by refine⟨by rw[z38,y01],λk hk=>?_⟩;have:=z4C hk;have:=zab (rows.map (·.1));rw[y01]at this;lia
def z5S{rows:List Row}{ks:List Int}(h:z3B rows ks):(stepK ks rows).length=rows.length:=by unfold stepK;rw[y01,y2J,h.len];lia
def zaF{rows:List Row}{ks:List Int}(h:z3B rows ks):z3B rows (z2Q (stepK ks rows)):=by have hl:=z5S h;refine⟨by rw[z38,hl],λk hk=>?_⟩;have:=z4C hk;have:=zab (stepK ks rows);lia
def zhJ{n:Nat}{rows:List Row}{ks:List Int}(G:z6F n rows)(h:z3B rows ks):ks≠[]:=λe=>by have:=h.len;have:=G.some;subst e;simp at *;lia
theorem z4l{rows:List Row}:∀(m:Nat)(c:Int)(ks:List Int),z3B rows ks->z3B rows (z6W rows m c ks)
 |0,_,ks,h=>h
 |m+1,c,ks,h=>by
  unfold z6W;by_cases hc:c<cnt ks
  .rw[if_pos hc];exact z4l m _ _ (zaF h)
  .rw[if_neg hc];exact h
def z93{n:Nat}{rows:List Row}(G:z6F n rows):z3B rows (z6b rows):=z4l _ _ _ (zdX G)
def z5W(ks:List Int)(l:List Row)(p:Row × Int):List Row:=if p.2=(l.length:Int)then l++[(p.1.1,p.1.2.map λg=>ks.getD g.toNat 0)]else l
def z16(rows:List Row)(ks:List Int)(i:Nat):List Row:=((rows.zip ks).take i).foldl (z5W ks) []
def z8O{rows:List Row}{ks:List Int}(h:ks.length=rows.length):z16 rows ks rows.length=z6U rows ks:=by unfold z16 z6U;rw[y0D (by rw[y2J];lia)];rfl
def z6V{rows:List Row}{ks:List Int}{i:Nat}{r:Row}{k:Int}(e:rows[i]?=some r)(e':ks[i]?=some k):z16 rows ks (i+1)=z5W ks (z16 rows ks i) (r,k):=by unfold z16;rw[List.take_add_one,y1k (z:=(r,k)) |>.mpr ⟨e,e'⟩,List.foldl_append];rfl
def z9J(ks:List Int)(l:List Row)(p:Row × Int):(z5W ks l p).length<=l.length+1:=by
 unfold z5W;split
 .rw[y07];simp
 .lia
def z97(rows:List Row)(ks:List Int)(i:Nat):(z16 rows ks i).length<=i:=by
 unfold z16;have:∀(l:List (Row × Int))(a:List Row),(l.foldl (z5W ks) a).length<=a.length+l.length:=by
  intro l;induction l with
  |nil=>intro a;simp
  |cons p l ih =>
   intro a;have h1:=ih (z5W ks a p);have h2:=z9J ks a p;rw[List.foldl_cons,y0c];lia
 have h:=this ((rows.zip ks).take i) [];rw[y0I]at h;simp only[y2g]at h;lia
def zcJ{n:Nat}{rows:List Row}(G:z1n n rows):(z13 rows).length<=rows.length:=by have:=(z4t G).1.len;unfold z13 z2i;rw[y01];exact this
section
variable{α β:Type}[DecidableEq α][DecidableEq β]
def z6x(xs:List α)(x:α):z1p (xs++[x])=z3q (z1p xs) x:=z2g [] xs x
def z1l{xs:List α}{x:α}:x∈z1p xs↔x∈xs:=by unfold z1p;rw[z11];simp
def zff(xs:List α):(z1p xs).Nodup:=z1W xs [] List.nodup_nil
theorem z6k(f:Int->α)(f':Int->β):∀l:List Int,(∀x∈l.reverse,∀y∈l.reverse,f' x=f' y->f x=f y) ->
  (z1p (l.reverse.map f)).length<=(z1p (l.reverse.map f')).length/\((z1p (l.reverse.map f')).length<=(z1p (l.reverse.map f)).length->∀x∈l.reverse,∀y∈l.reverse,f x=f y->f' x=f' y)
 |[],_=>⟨y09 _,λ_ x hx=>by simp at hx⟩
 |z::l,h=>by
  rw[List.reverse_cons]at h⊢;obtain⟨ih1,ih2⟩:=z6k f f' l λx hx y hy=>h x (y1f _ hx) y (y1f _ hy);have hz:z∈l.reverse++[z]:=by simp
  have hL:∀x,x∈l.reverse->x∈l.reverse++[z]:=λx hx=>y1f _ hx;rw[y0t,y0t,show List.map f [z]=[f z]from rfl,show List.map f' [z]=[f' z]from rfl,z6x,z6x];generalize l.reverse=o at *;by_cases h1:f' z∈z1p (o.map f')
  .obtain⟨z',hz',ez⟩:=y0f.mp (z1l.mp h1);have ez2:f z'=f z:=h z' (hL _ hz') z hz ez;have h2:f z∈z1p (o.map f):=z1l.mpr (y0f.mpr ⟨z',hz',ez2⟩);rw[z0O h1,z0O h2];refine⟨ih1,λhc x hx y hy e=>?_⟩;have red:∀x∈o++[z],∃x'∈o,f x'=f x/\f' x'=f' x:=λx hx=>by
    rcases y1c.mp hx with hx|hx
    .exact⟨x,hx,rfl,rfl⟩
    .rw[y0q.mp hx];exact⟨z',hz',ez2,ez⟩
   obtain⟨x',hx',e1,e2⟩:=red x hx;obtain⟨y',hy',e3,e4⟩:=red y hy;rw[<-e2,<-e4];exact ih2 hc x' hx' y' hy' (by rw[e1,e3,e])
  .rw[z0W h1];by_cases h2:f z∈z1p (o.map f)
   .rw[z0O h2,y07];refine⟨by simp;lia,λhc=>?_⟩;simp at hc;lia
   .rw[z0W h2,y07,y07];refine⟨by simp;lia,λhc x hx y hy e=>?_⟩;have hc':(z1p (o.map f')).length<=(z1p (o.map f)).length:=by simp at hc;lia
    have no:∀x∈o,f x≠f z:=λx hx e=>h2 (z1l.mpr (y0f.mpr ⟨x,hx,e⟩));rcases y1c.mp hx with hx|hx
    .rcases y1c.mp hy with hy|hy
     .exact ih2 hc' x hx y hy e
     .rw[y0q.mp hy]at e;exact absurd e (no x hx)
    .rcases y1c.mp hy with hy|hy
     .rw[y0q.mp hx]at e;exact absurd e.symm (no y hy)
     .rw[y0q.mp hx,y0q.mp hy]
def z4Z(f:Int->α)(f':Int->β)(o:List Int)(h:∀x∈o,∀y∈o,f' x=f' y->f x=f y) : (z1p (o.map f)).length<=(z1p (o.map f')).length/\((z1p (o.map f')).length<=(z1p (o.map f)).length->∀x∈o,∀y∈o,f x=f y->f' x=f' y):=by
 have:=z6k f f' o.reverse (by rw[List.reverse_reverse];exact h)
 rwa [List.reverse_reverse]at this
def nk(o:List Int)(key:Int->α)(x:Int):Int:=(((z1p (o.map key)).idxOf (key x):Nat):Int)
def zgn{l:List α}{a b:α}(ha:a∈l)(hb:b∈l)(e:l.idxOf a=l.idxOf b):a=b:=by have h1:=List.getElem_idxOf (y10 ha);have h2:=List.getElem_idxOf (y10 hb);rw[<-h1,<-h2];congr 1
def zih{o:List Int}{key:Int->α}{x y:Int}(hx:x∈o)(hy:y∈o):nk o key x=nk o key y↔key x=key y:=by
 unfold nk;constructor
 .intro e;exact zgn (z1l.mpr (y0f.mpr ⟨x,hx,rfl⟩)) (z1l.mpr (y0f.mpr ⟨y,hy,rfl⟩)) (by lia)
 .intro e;rw[e]
def zcS(o:List Int)(key:Int->α):(z1p (o.map (nk o key))).length=(z1p (o.map key)).length:=by have h1:=(z4Z (nk o key) key o λx hx y hy e=>(zih hx hy).mpr e).1;have h2:=(z4Z key (nk o key) o λx hx y hy e=>(zih hx hy).mp e).1;lia
end
def kf(ks:List Int)(x:Int):Int:=ks.getD x.toNat 0
def zeu{α:Type}[DecidableEq α]{L:Nat}{key:Int->α}{x:Int}(hx:x∈z27 L):kf (z2Q ((z27 L).map key)) x=nk (z27 L) key x:=by
 have hx':=zdv.mp hx;unfold kf z2Q nk;have hl:x.toNat<L:=by lia
 rw[y08,y0l,y0l,z2m hl];have:((x.toNat:Nat):Int)=x:=by lia
 simp only[Option.map_some,Option.getD_some,this]
def zbt(fs:List Row)(g:Row->α):fs.map g=(z27 fs.length).map λx=>g (row fs x):=by
 refine List.ext_getElem? λi=>?_;rw[y0l,y0l];by_cases h:i<fs.length
 .rw[z2m h,y0a h];show some (g fs[i])=some (g (row fs (i:Int)));congr 2;unfold row;have:((i:Nat):Int).toNat=i:=by lia
  rw[this,y08,y0a h];rfl
 .rw[y1m (by lia),y1m (by rw[z1A];lia)];rfl
def zhq(fs:List Row)(ks:List Int)(x:Int):Int × List Int:=(kf ks x,(row fs x).2.map (kf ks))
def z4j{fs:List Row}{ks:List Int}(h:ks.length=fs.length):stepK ks fs=(z27 fs.length).map (zhq fs ks):=by
 unfold stepK;refine List.ext_getElem? λi=>?_;rw[y0l,y0l];by_cases hi:i<fs.length
 .have e1:(ks.zip fs)[i]?=some (ks[i]'(by lia),fs[i]):=y1k.mpr ⟨y0a (by lia),y0a hi⟩;rw[z2m hi,e1];simp only[Option.map_some];congr 1;unfold zhq kf row;have:((i:Nat):Int).toNat=i:=by lia
  rw[this,y08,y0a (by lia:i<ks.length),y08,y0a hi];rfl
 .rw[y1m (by rw[y2J];lia),y1m (by rw[z1A];lia)];rfl
def z7C{α:Type}[DecidableEq α]{xs:List α}(h:xs≠[]):cnt (z2Q xs)=((z1p xs).length:Int):=by
 have hne:z2Q xs≠[]:=λz=>h (by have:=z38 xs;rw[z]at this;exact List.eq_nil_of_length_eq_zero this.symm)
 obtain⟨h1,h2⟩:=z72 hne λk hk=>(z4C hk).1;have h3:=(z4C h1).2;have hpos:0<(z1p xs).length:=by
  cases xs with
  |nil=>exact absurd rfl h
  |cons a r=>exact List.length_pos_of_mem (z1l.mpr (show a∈a::r by simp))
 have hm:(z1p xs)[(z1p xs).length-1]'(by lia)∈xs:=z1l.mp (y1J _);have h4:(((z1p xs).length-1:Nat):Int)∈z2Q xs:=by unfold z2Q;refine y0f.mpr ⟨_,hm,?_⟩;rw[(zff xs).idxOf_getElem]
 have:=h2 _ h4;lia
def zar{L:Nat}{α:Type}{g:Int->α}(h:1<=L):(z27 L).map g≠[]:=λz=>by have:=y1M List.length z;rw[y01,z1A]at this;simp at this;lia
def zgg{α:Type}[DecidableEq α]{L:Nat}{key:Int->α}:(z1p ((z27 L).map (kf (z2Q ((z27 L).map key))))).length=(z1p ((z27 L).map key)).length:=by rw[<-zcS (z27 L) key];congr 2;exact y20 λx hx=>zeu hx
end Gu
namespace L2
open PySem PySem.Spec PyProof.Rows
def Fly(h0:Heap)(H:Hp)(h:Heap)(ea C:Addr):Prop:=h0.get? ea=none/\H ea=none/\∃a0 oe vs T oT ts,h.get? ea=some oe/\(oe.cls=.ref C/\vs[0]?=some a0)/\oe.data=.fields vs/\vs[1]?=some (.ref T)/\T≠ea/\h0.get? T=none/\H T=none/\h.get? T=some oT/\oT.data=.fields ts/\ts[3]?=some .none
def zg6(h0:Heap)(H:Hp)(h:Heap)(ea C:Addr):Prop:=h0.get? ea=none/\H ea=none/\∃a0 oe vs,h.get? ea=some oe/\(oe.cls=.ref C/\vs[0]?=some a0)/\oe.data=.fields vs/\vs[1]?=some .none
theorem z1S{h base:Heap}:∀{l:List Env},h.FunFrames base l->∀b∈frs l,∃o,h.get? b=some o/\∀vs,o.data≠.fields vs
 |[],_,b,hb=>by simp[frs]at hb
 |env::r,hl,b,hb=>by
  obtain⟨hk,⟨L,o,hf,hn,ho,hd⟩,hr⟩:=hl;unfold frs at hb;rw[y1Y,hf]at hb;rcases y0k.mp hb with z|z
  .rw[z];exact⟨o,ho,hd⟩
  .exact z1S hr b z
theorem z0M{h base base':Heap}:∀{l:List Env},h.FunFrames base l->(∀b∈frs l,base'.get? b=none)->h.FunFrames base' l
 |[],_,_=>trivial
 |env::r,hl,hb=>by
  obtain⟨hk,⟨L,o,hf,hn,ho,hd⟩,hr⟩:=hl;have e:frs (env::r)=L::frs r:=by unfold frs;rw[y1Y,hf]
  exact⟨hk,⟨L,o,hf,hb L (by rw[e];simp),ho,hd⟩,z0M hr λb hb'=>hb b (by rw[e];exact y0d _ hb')⟩
section
variable{P:Program}{w:World}
def z34{H:Hp}{h:Heap}{a:Addr}{o:HO}(x:z0K P w H h a o):∃ob,h.get? a=some ob:=by
 cases o with
 |lst xs=>obtain⟨_,_,_,_,e⟩:=x;exact⟨_,e⟩
 |tup xs=>obtain⟨_,_,_,_,e⟩:=x;exact⟨_,e⟩
 |dK kvs=>obtain⟨_,_,_,_,o,_,_,e,_⟩:=x;exact⟨_,e⟩
 |dT kvs=>obtain⟨_,_,_,_,o,_,_,e,_⟩:=x;exact⟨_,e⟩
 |set S n=>obtain⟨o,_,_,_,e,_⟩:=x;exact⟨_,e⟩
 |ins C dx fs=>obtain⟨_,_,_,e,_⟩:=x;exact⟨_,e⟩
 |own y=>obtain⟨_,e⟩:=x;exact⟨_,e⟩
 |xd fs=>obtain⟨_,⟨_,_,_,e,_⟩,_⟩:=x;exact⟨_,e⟩
 |rng lo hi=>obtain⟨_,_,_,e⟩:=x;exact⟨_,e⟩
 |frz ob u=>obtain⟨e,_⟩:=x;exact⟨_,e⟩
 |tbl ps=>exact⟨_,show h.get? a=some _ from x⟩
 |met f y=>exact⟨_,show h.get? a=some _ from x⟩
 |ext φ=>obtain⟨_,⟨_,e⟩,_⟩:=x;exact⟨_,e⟩
def z54{fr:List Addr}{H1 H':Hp}{h1 h h':Heap}{env:Env}{outer:List Env}{ea C:Addr}{a0:Value}{base:Heap}{hid:List Addr}(FF:h.FunFrames base (env::outer))(u:Un fr [] H1 H' h1 h)(hok:HOk P w H' h)(hfr:∀b∈frs (env::outer),H' b=none/\(b∈fr\/h1.get? b=none))(hfr2:∀b∈fr,b∈frs (env::outer))(he1:h1.get? ea=none)(heH:H' ea=none)(hid1:∀b∈hid,h1.get? b=none/\H' b=none)(lf:(PySem.W.hideAll h (ea::(hid++frs (env::outer)))).LeftW (env::outer) ea (.ref C) a0 h h') : Un fr [] H1 H' h1 h'/\HOk P w H' h'/\Fly h1 H' h' ea C:=by
 obtain⟨st,ff,tr,sl⟩:=lf;have keep:∀b o,h.get? b=some o->b≠ea->b∉hid->b∉frs (env::outer)->h'.get? b=some o:=λb o e n1 n2 n3 =>
  st b o (PySem.W.hideAll_get _ e λz=>by
   rcases y0k.mp z with z|z
   .exact n1 z
   .rcases y1c.mp z with z|z
    .exact n2 z
    .exact n3 z)
 have slot:∀b o,h.get? b=some o->b∈frs (env::outer)->∃s,h'.get? b=some { o with slots:=s }:=λb o e hb=>by obtain⟨o',e',hd⟩:=z1S FF b hb;rw[e]at e';cases e';exact sl b o e hd
 have nh:∀b o,h1.get? b=some o->b≠ea/\b∉hid:=λb o e=>⟨λz=>(by rw[z,he1]at e;cases e),λz=>(by rw[(hid1 b z).1]at e;cases e)⟩;refine⟨⟨λb o e n hb hx=>?_,λb o e n hb hx=>?_,u.free,λb o e hx=>?_,u.tups,u.frzs,u.tbls⟩,λa o e=>?_,he1,heH,?_⟩
 .have e2:=u.keep b o e n hb hx;refine keep b o e2 (nh b o e).1 (nh b o e).2 λz=>?_;rcases(hfr b z).2 with z|z
  .exact hb z
  .rw[z]at e;cases e
 .obtain⟨s1,e2⟩:=u.slot b o e n hb hx;obtain⟨s2,e3⟩:=slot b _ e2 (hfr2 b hb);exact⟨s2,e3⟩
 .obtain⟨o',e2⟩:=u.there b o e hx;by_cases hb:b∈frs (env::outer)
  .obtain⟨s2,e3⟩:=slot b _ e2 hb;exact⟨_,e3⟩
  .exact⟨o',keep b o' e2 (nh b o e).1 (nh b o e).2 hb⟩
 .refine(hok a o e).stay (λb v hb q=>?_) (λ_ q=>q) λ_ _ q=>q;have hbs:∃ob,H' b=some ob:=by
   rcases hb with z|z
   .rw[z];exact⟨_,e⟩
   .exact⟨_,z⟩
  obtain⟨ob,hob⟩:=hbs;refine keep b v q (λz=>?_) (λz=>?_) λz=>?_
  .rw[z,heH]at hob;cases hob
  .rw[(hid1 b z).2]at hob;cases hob
  .rw[(hfr b z).1]at hob;cases hob
 .obtain⟨oe,vs,T,oT,ts,g1,g2,g3,g4,g5,g6,g7,g8,g9⟩:=tr;have hT:h1.get? T=none/\H' T=none:=by
   cases eT:h.get? T with
   |none =>
    refine⟨?_,?_⟩
    .cases q:h1.get? T with
     |none=>rfl
     |some o =>
      obtain⟨o',e2⟩:=u.there T o q (by simp);rw[eT]at e2;cases e2
    .cases q:H' T with
     |none=>rfl
     |some o =>
      obtain⟨ob,hob⟩:=z34 (hok T o q);rw[eT]at hob;cases hob
   |some oT' =>
    have hm:T∈ea::(hid++frs (env::outer)):=Classical.byContradiction λnm=>by rw[PySem.W.hideAll_get _ eT nm]at g5;cases g5
    rcases y0k.mp hm with z|z
    .exact absurd z g6
    .rcases y1c.mp z with z|z
     .exact hid1 T z
     .obtain⟨o',e',hd⟩:=z1S ff T z;rw[g7]at e';cases e';exact absurd g8 (hd ts)
  exact⟨a0,oe,vs,T,oT,ts,g1,g2,g3,g4,g6,hT.1,hT.2,g7,g8,g9⟩
def zd0{M:Model}{A:Around}{E:yyE}{Q:Unit->Shared->Prop}{s:Shared}{fr:List Addr}{H1 H':Hp}{h1:Heap}{env:Env}{outer:List Env}{L ea C:Addr}{base:Heap}(hA:A.frames=some (env::outer))(hL:env.frame=some L)(FF:s.heap.FunFrames base (env::outer))(u:Un fr [] H1 H' h1 s.heap)(hok:HOk P w H' s.heap)(hfr:∀b∈frs (env::outer),H' b=none/\(b∈fr\/h1.get? b=none))(hfr2:∀b∈fr,b∈frs (env::outer))(hf:zg6 h1 H' s.heap ea C\/Fly h1 H' s.heap ea C)(k:∀h',Un fr [] H1 H' h1 h'->HOk P w H' h'->Fly h1 H' h' ea C->Q () { s with heap:=h' }):wpAny M A (leaving env (.ref ea)) Q E s:=by
 rcases hf with⟨he1,heH,a0,oe,vs,g1,⟨g2,g20⟩,g3,g4⟩|⟨he1,heH,a0,oe,vs,T,oT,ts,g1,g2,g3,g4,g5,g6,g7,g8,g9,g10⟩
 .have FF':s.heap.FunFrames (PySem.W.hideAll s.heap (ea::([]++frs (env::outer)))) (env::outer):=z0M FF λb hb=>y0y _ (by simp[hb]);refine wpAny_leaving_firstW hA FF' hL g1 (λb o e=>y28 _ e) (y0y _ (by simp)) g3 g4 g20 λh' lf=>?_;rw[g2]at lf;obtain⟨a,b,c⟩:=z54 (hid:=[]) FF u hok hfr hfr2 he1 heH (λb hb=>by simp at hb) lf;exact k h' a b c
 .have FF':s.heap.FunFrames (PySem.W.hideAll s.heap (ea::([T]++frs (env::outer)))) (env::outer):=z0M FF λb hb=>y0y _ (by simp[hb]);refine wpAny_leaving_nextW hA FF' hL ⟨oe,vs,T,oT,ts,g1,g2,g3,g4,y0y _ (by simp),g5,g8,g9,g10⟩ (λb o e=>y28 _ e) (y0y _ (by simp)) λh' lf=>?_;obtain⟨a,b,c⟩:=z54 (hid:=[T]) FF u hok hfr hfr2 he1 heH (λb hb=>by rw[y0q.mp hb];exact⟨g6,g7⟩) lf;exact k h' a b c
end
def z5j{h:Heap}{bmB bm:List Value}{v:Value}(t:OwnTail h bmB bm)(hb:bmB.contains v=true):bm.contains v=true:=by
 induction t with
 |base=>exact hb
 |own _ _ _ _ ih=>rw[y2K,ih];simp
section
variable{P:Program}{w:World}
def zcP{M:Model}{A:Around}{E:yyE}{Q:Unit->Shared->Prop}{s:Shared}{fr:List Addr}{H1 H':Hp}{h1:Heap}{env:Env}{outer:List Env}{ea C:Addr}{base:Heap}(FF:s.heap.FunFrames base (env::outer))(u:Un fr [] H1 H' h1 s.heap)(hok:HOk P w H' s.heap)(hfr:∀b∈frs (env::outer),H' b=none/\(b∈fr\/h1.get? b=none))(hfr2:∀b∈fr,b∈frs (env::outer))(hf:Fly h1 H' s.heap ea C)(k:∀h',Un fr [] H1 H' h1 h'->HOk P w H' h'->Fly h1 H' h' ea C->Q () { s with heap:=h' }):wpAny M A (setFlight (.ref ea) none) Q E s:=by obtain⟨he1,heH,a0,oe,vs,T,oT,ts,g1,g2,g3,g4,g5,g6,g7,g8,g9,g10⟩:=hf;have FF':s.heap.FunFrames (PySem.W.hideAll s.heap (ea::([T]++frs (env::outer)))) (env::outer):=z0M FF λb hb=>y0y _ (by simp[hb]);refine lands_againW (base:=PySem.W.hideAll s.heap (ea::([T]++frs (env::outer)))) (l:=env::outer) (cls:=.ref C) (a0:=a0) ⟨λb o e=>y28 _ e,y0y _ (by simp),FF',oe,vs,T,oT,ts,g1,g2,g3,g4,y0y _ (by simp),g5,g8,g9,g10⟩ λh' fl up=>?_;obtain⟨f1,f2,f3,f4⟩:=fl;obtain⟨a,b,c⟩:=z54 (hid:=[T]) FF u hok hfr hfr2 he1 heH (λb hb=>by rw[y0q.mp hb];exact⟨g6,g7⟩) ⟨f1,f3,f4,up⟩;exact k h' a b c
def zfZ{M:Model}{A:Around}{E:yyE}{Q:Unit->Shared->Prop}{s:Shared}{fr:List Addr}{H1 H':Hp}{h1:Heap}{env:Env}{outer:List Env}{L ea C:Addr}{base:Heap}(hA:A.frames=some (env::outer))(hL:env.frame=some L)(FF:s.heap.FunFrames base (env::outer))(u:Un fr [] H1 H' h1 s.heap)(hok:HOk P w H' s.heap)(hfr:∀b∈frs (env::outer),H' b=none/\(b∈fr\/h1.get? b=none))(hfr2:∀b∈fr,b∈frs (env::outer))(hf:Fly h1 H' s.heap ea C)(k:∀h',Un fr [] H1 H' h1 h'->HOk P w H' h'->Fly h1 H' h' ea C->Q () { s with heap:=h' }):wpAny M A (noteFrame (.ref ea) env) (λ_ s2=>wpAny M A (setFlight (.ref ea) none) Q E s2) E s:=by
 obtain⟨he1,heH,a0,oe,vs,T,oT,ts,g1,g2,g3,g4,g5,g6,g7,g8,g9,g10⟩:=hf;have FF':s.heap.FunFrames (PySem.W.hideAll s.heap (ea::([T]++frs (env::outer)))) (env::outer):=z0M FF λb hb=>y0y _ (by simp[hb]);refine wpAny_noteFrame_onW hA FF' hL ⟨oe,vs,T,oT,ts,g1,g2,g3,g4,y0y _ (by simp),g5,g8,g9,g10⟩ (λb o e=>y28 _ e) (y0y _ (by simp)) λh2 nt=>?_;obtain⟨n1,n2,n3,n4⟩:=nt;refine wpAny_landsW (L:=L) ⟨n1,y0y _ (by simp),n2,n3⟩ λh' fl up=>?_;obtain⟨f1,f2,f3,f4⟩:=fl;have lw:(PySem.W.hideAll s.heap (ea::([T]++frs (env::outer)))).LeftW (env::outer) ea (.ref C) a0 s.heap h':=⟨f1,f3,f4,λb o e hd=>by obtain⟨s1,e1⟩:=n4 b o e hd;obtain⟨s2,e2⟩:=up b _ e1 hd;exact⟨s2,e2⟩⟩
 obtain⟨a,b,c⟩:=z54 (hid:=[T]) FF u hok hfr hfr2 he1 heH (λb hb=>by rw[y0q.mp hb];exact⟨g6,g7⟩) lw;exact k h' a b c
end
abbrev Cx.sup(X:Cx)(e:Addr):Cx:={ X with A:=X.A.mark (some (.ref e)),calm:=false,xe:=λ_ _=>False }
abbrev Cx.tried(X:Cx)(pn:yyP)(E:yyE):Cx:={ X with pn:=pn,xe:=E }
theorem Cx.Ok.sup{X:Cx}(ok:X.Ok)(e:Addr):(X.sup e).Ok :=
 ⟨ok.mod,ok.kind,ok.glob,ok.blt,ok.above,ok.inj,ok.has,ok.cab,λz=>(by cases z),ok.frames,ok.stk,ok.exf,ok.bs,ok.bsz,ok.noex,ok.exfs,ok.funs,ok.frf⟩
theorem Cx.Ok.tried{X:Cx}(ok:X.Ok)(pn:yyP)(E:yyE):(X.tried pn E).Ok :=
 ⟨ok.mod,ok.kind,ok.glob,ok.blt,ok.above,ok.inj,ok.has,ok.cab,ok.hd,ok.frames,ok.stk,ok.exf,ok.bs,ok.bsz,ok.noex,ok.exfs,ok.funs,ok.frf⟩
open PySem.SeqAt
end L2
namespace Gu
open PySem L2
def zaL(rows:List Row)(ks:List Int):Prop:=∃(α:Type)(_:DecidableEq α)(key:Int->α),ks=z2Q ((z27 rows.length).map key)
def zhp(rows:List Row):zaL rows (z2Q (rows.map (·.1))):=⟨List Int,inferInstance,λx=>(row rows x).1,by rw[zbt rows (·.1)]⟩
def zdM{rows:List Row}{ks:List Int}(h:ks.length=rows.length):zaL rows (z2Q (stepK ks rows)):=⟨Int × List Int,inferInstance,zhq rows ks,by rw[z4j h]⟩
def zcs{n:Nat}{rows:List Row}(G:z6F n rows){ks:List Int}(h:zaL rows ks):cnt ks<=cnt (z2Q (stepK ks rows)):=by
 obtain⟨α,ia,key,rfl⟩:=h;rw[z4j (by rw[z38,y01,z1A]),z7C (zar G.some),z7C (zar G.some)];have h1:=zgg (L:=rows.length) (key:=key);have h2:=(z4Z (kf (z2Q ((z27 rows.length).map key))) (zhq rows (z2Q ((z27 rows.length).map key))) (z27 rows.length) λx hx y hy e=>by unfold zhq at e;exact(Prod.mk.inj e).1).1
 lia
theorem z4e{n:Nat}{rows:List Row}(G:z6F n rows):∀(m:Nat)(c:Int)(ks:List Int),zaL rows ks->z3B rows ks->cnt ks<=cnt (z6W rows m c ks)
 |0,c,ks,h,_=>y2W _
 |m+1,c,ks,h,hg=>by
  unfold z6W;by_cases hc:c<cnt ks
  .rw[if_pos hc];exact Int.le_trans (zcs G h) (z4e G m _ _ (zdM hg.len) (zaF hg))
  .rw[if_neg hc];exact y2W _
end Gu
namespace L2
open PySem PySem.Spec PyProof.Rows
def Fun.okx{CX:CXT}{P:Program}{w:World}{K:yyF}{mg:yyS}{base:Heap}{x qual:Str}{st:Stmt}{f:Addr}{fd:FuncData}{N ps:List Str}{k:Nat}{sp:Sp}(F:Fun K x qual st f fd)(S:z1d N ps (z07 st))(len:∀vs H Q E,sp vs H Q E->vs.length=ps.length)(hbody:∀(cdv:Value)(A:Around)(outer:List Env)(s:Shared)(H:Hp)(vs:List V)(Q:VK)(E:XK),z1o k (A.deeper (envOfC qual (z07 st) s.heap.objs.size f cdv))->sp vs H Q E -> ∃t,PSs (z2a CX P w K mg base N qual (z07 st) f cdv A outer s H E) (z0v st) t/\t { nx:=λ_ H'=>Q .non H',rt:=Q } (start N vs) H):z2d P w K mg base CX (k+1) f fd ps sp:=by obtain⟨oc,od,kV,doc,pm,an,cdv,ct,osl,rfl,lk,hcd⟩:=F.ex;exact zgB lk hcd S len λA outer s H vs Q E hr hsp=>hbody cdv A outer s H vs Q E hr hsp
open PySem.SeqAt
section
variable{X:Cx}
def zfH:OpR X (binaryOp .Add) (λx y H Q=>∃(a b:Addr)(xs ys:List V),x=.ref a/\y=.ref b/\H a=some (.tup xs)/\H b=some (.tup ys)/\xs.length+ys.length<=sizeLine /\ ∀(p:Addr)(H':Hp),Same H H'->H' p=some (.tup (xs++ys))->Q (.ref p) H'):=by
 intro pins s σ H x y v u Q I rx ry h;obtain⟨a,b,xs,ys,rfl,rfl,ha,hb,hz,q⟩:=h;by_cases hx:xs=[]
 .subst hx;cases rx;cases ry;obtain⟨its,r1,p1,_⟩:=I.tuple (SqT.of ha);obtain⟨its2,r2,p2,_⟩:=I.tuple (SqT.of hb);cases r1;obtain⟨⟨cls,dd,data,sl⟩,ho,hc,n,hd⟩:=id p1;obtain⟨⟨cls2,dd2,data2,sl2⟩,ho2,hc2,n2,hd2⟩:=id p2;simp only at hc hd hc2 hd2;subst hc hd hc2 hd2;exact concat_meets ⟨_,ho,rfl⟩ ⟨_,ho2,rfl⟩ noFill_tuple_add seq_tuple_add y2P y2G (y2z _ _)
   (tuple_addW0 a b _ _ n n2 dd dd2 sl sl2 (by simp)) ⟨ho,ho2,⟨.ref b,H,I,rfl,q b H (Same.refl H) hb⟩⟩
 .exact zeM pins s σ H _ _ v u Q I rx ry ⟨a,b,xs,ys,rfl,rfl,SqT.of ha,SqT.of hb,hx,hz,λe=>by subst e;exact q a H (Same.refl H) (by rw[y0n];exact ha),λ_ p hp=>q p _ (Gu.same_up (Same.refl H) hp) z0a⟩
def zdh(xs:List V)(lo hi:Option Int)(h:HT.sIx xs.length 0 lo=0/\HT.sIx xs.length xs.length hi=xs.length):za5 xs lo hi=xs:=by unfold za5;rw[h.1,h.2];simp
def z2j{prog:Program}{w:World}{A:Around}{E:yyE}{s:Shared}{t sl:Addr}{items:Array Value}{vl vu:Value}{lo hi:Option Int}{Q:yyE}(ht:IsTup s.heap t items)(hs:s.heap.IsSliceOf sl vl vu .none)(pl:IsPart vl lo)(pu:IsPart vu hi)(hw:HT.sIx items.size 0 lo=0/\HT.sIx items.size items.size hi=items.size)(h:Q (.ref t) s):wpAny (model prog w) A (getItem (.ref t) (.ref sl)) Q E s:=by
 obtain⟨os,hos,hcs,hds⟩:=id hs;have hTs:s.TypeIs (.ref sl) "slice":=⟨os,hos,hcs⟩;unfold getItem;try with_reducible refine y0C ?_
 first|refine y00 (y03 ?_)|skip
 refine y00 (wpAny_sequenceKey ht.typeIs (by decide) ?_);refine y00 (y0P (name:=Str.ofString "__getitem__") ht.typeIs y0S
  (y0Q y0S ht.typeIs entry_tuple_getitem ?_ (args_tuple_getitem _ _)))
 show wpAny _ _ (Builtin.Tuple.tupleItemsOf (.ref t)>>=_) _ _ s;refine y00 (tupleItemsOf_ ht ?_);refine y00 (y3p hTs ?_);rw[if_pos (by decide)];refine y00 (HT.sliceApplied_gen hs pl pu ?_);have hyes:(((HT.sIx items.size 0 lo:Nat):Int)==0&&(1:Int)==1&&(HT.sIx items.size items.size hi-HT.sIx items.size 0 lo)==items.size)=true:=by rw[hw.1,hw.2];simp
 show wpAny _ _ (if(((HT.sIx items.size 0 lo:Nat):Int)==0&&(1:Int)==1&&(HT.sIx items.size items.size hi-HT.sIx items.size 0 lo)==items.size)=true then _ else _) _ _ s;rw[if_pos hyes];unfold Builtin.Tuple.tupleIsExact;refine y00 (y00 (y3p ht.typeIs (y03 ?_)));rw[if_pos (by decide)];first
  |exact y00 (y00 (y03 ⟨_,rfl,y03 h⟩))
  | (wp_walk;exact⟨_,rfl,h⟩)
  | (wp_walk;exact⟨_,rfl,y03 h⟩)
def zef:SlR X (λx lo hi H Q=>∃(a:Addr)(xs:List V),x=.ref a/\H a=some (.tup xs)/\∀(p:Addr)(H':Hp),Same H H'->H' p=some (.tup (za5 xs lo hi))->Q (.ref p) H'):=by
 intro pins s σ H x v vl vu lo hi sl Q I rx hs pl pu h;obtain⟨a,xs,rfl,hx,q⟩:=h;by_cases hw:HT.sIx xs.length 0 lo=0/\HT.sIx xs.length xs.length hi=xs.length
 .cases rx;obtain⟨its,r,ht,hz⟩:=I.tuple (SqT.of hx);have hlen:its.toArray.size=xs.length:=by rw[y0g];exact r.length.symm
  refine⟨"tuple",_,y0S.lookup,ht.typeIs,?_⟩;exact z2j ht hs pl pu (by rw[hlen];exact hw) ⟨.ref a,H,I,rfl,q a H (Same.refl H) (by rw[zdh xs lo hi hw];exact hx)⟩
 .exact zhN pins s σ H _ v vl vu lo hi sl Q I rx hs pl pu ⟨a,xs,rfl,SqT.of hx,hw,λp hp=>q p _ (Gu.same_up (Same.refl H) hp) z0a⟩
def zco(l:Addr)(its:List Value)(n:Nat)(k:Int)(t:Tok)(h0:-1000<=k)(hk:k<=0)(hne:its≠[]) : Meets (Builtin.«tuple.__mul__» ⟨[.ref l,.int k t],[]⟩) (λ_ R s=>s.heap.get? l=some { cls:=.type "tuple",dict:=none,data:=.seq its.toArray n,slots:=#[] } /\ R (.ok (.ret (.ref s.heap.objs.size))) { s with heap:=s.heap.push { cls:=.type "tuple",data:=.seq #[] } }) :=
 .of_wp λprog w A R s h=>by
  obtain⟨hp,g,d,tk,os⟩:=s;obtain⟨hl,h⟩:=h;have hie:its.toArray.isEmpty=false:=by cases its with|nil=>exact absurd rfl hne|cons a r=>simp
  wp_walk using wpAny_loadPart' hl
  refine y1n (λhab=>absurd hab (by simp;lia)) (λ_=>?_)
  wp_walk using wpAny_loadPart' hl
  have hk1:(k==1)=false:=by simpa using(show k≠1 by lia)
  have hk0:decide (k<=0)=true:=by simpa using hk
  refine y1n (λhab=>absurd hab (by rw[hie,hk1];decide)) (λ_=>?_);refine y1n (λ_=>?_) (λhab=>absurd (by rw[hk0];rfl) hab);unfold Builtin.Tuple.tupleExact;refine y00 (y0T ?_ (by show(#[]:Array Value).size<=sizeLine;decide));exact y03 ⟨_,rfl,h⟩
end
end L2
namespace Gu
def lat(e:Row)(i:Nat):Int:=if i<e.1.length then e.1.getD i 0 else e.2.getD ((i-e.1.length)%e.2.length) 0
def z2R{e:Row}{i:Nat}(h:i<e.1.length):lat e i=e.1.getD i 0:=if_pos h
def z1m{e:Row}{i:Nat}(h:e.1.length<=i):lat e i=e.2.getD ((i-e.1.length)%e.2.length) 0:=if_neg (by lia)
def Pd(f:Nat->Int)(m p:Nat):Prop:=∀i,m<=i->f (i+p)=f i
def z5Y{e:Row}(h:e.2≠[]):Pd (lat e) e.1.length e.2.length:=λi hi=>by
 have hl:0<e.2.length:=y0r.mpr h;rw[z1m hi,z1m (by lia)];have:i+e.2.length-e.1.length=(i-e.1.length)+e.2.length:=by lia
 rw[this,y2m]
def Pd.mul{f:Nat->Int}{m p:Nat}(h:Pd f m p)(k:Nat):Pd f m (p*k):=by
 induction k with
 |zero=>exact λi _=>rfl
 |succ k ih =>
  intro i hi;rw[Nat.mul_succ,<-y3f,h (i+p*k) (by lia)];exact ih i hi
def Pd.mono{f:Nat->Int}{m m' p:Nat}(h:Pd f m p)(hm:m<=m'):Pd f m' p:=λi hi=>h i (by lia)
def Pd.down{f:Nat->Int}{m m' p q:Nat}(h:Pd f m p)(h':Pd f m' q)(hp:0<p):Pd f m q:=λi hi=>by
 have a:=h.mul m' (i+q) (by lia);have b:=h.mul m' i hi;have ge:m'<=p*m':=Nat.le_mul_of_pos_left m' hp;have c:=h' (i+p*m') (by lia);rw[<-a,<-b];have:i+q+p*m'=i+p*m'+q:=by lia
 rw[this];exact c
theorem Pd.gcd{f:Nat->Int}{m:Nat}:∀{p q:Nat},Pd f m p->Pd f m q->Pd f m (Nat.gcd p q):=by
 intro p q;induction p,q using Nat.gcd.induction with
 |H0 q=>intro _ h;rw[Nat.gcd_zero_left];exact h
 |H1 p q hp ih =>
  intro h1 h2;rw[Nat.gcd_rec];refine ih (λi hi=>?_) h1;have a:=h1.mul (q/p) (i+q%p) (by lia);have e:i+q%p+p*(q/p)=i+q:=by have:=y3l q p;lia
  rw[e]at a;rw[<-a];exact h2 i hi
structure z0R(e:Row):Prop where
 ring:e.2≠[]
 least:∀d,0<d->d<e.2.length->¬Pd (lat e) e.1.length d
 cut:e.1=[]\/lat e (e.1.length-1)≠lat e (e.1.length-1+e.2.length)
def z0R.len{e e':Row}(h:z0R e)(h':z0R e')(s:∀i,lat e i=lat e' i)(hm:e.1.length<=e'.1.length):e.2.length=e'.2.length/\e.1.length=e'.1.length:=by
 have ef:lat e=lat e':=funext s;have P:=z5Y h.ring;have Q:=z5Y h'.ring;have hp:0<e.2.length:=y0r.mpr h.ring;have hq:0<e'.2.length:=y0r.mpr h'.ring;rw[<-ef]at Q;have e1:e.2.length=e'.2.length:=by
  by_cases h1:e'.2.length<e.2.length
  .exact absurd (P.down Q hp) (h.least _ hq h1)
  .by_cases h2:e.2.length<e'.2.length
   .refine absurd ?_ (h'.least _ hp h2);rw[<-ef];exact P.mono hm
   .lia
 refine⟨e1,?_⟩;by_cases h3:e.1.length<e'.1.length
 .rcases h'.cut with c|c
  .rw[c]at h3;simp at h3
  .refine absurd ?_ c;rw[<-ef,<-e1];exact(P (e'.1.length-1) (by lia)).symm
 .lia
def z18{l:List Int}{i:Nat}(h:i<l.length):l.getD i 0=l[i]:=by rw[y08,y0a h];rfl
def z8c{e e':Row}(hl:e.1.length=e'.1.length)(hr:e.2.length=e'.2.length)(s:∀i,lat e i=lat e' i):e=e':=by
 refine Prod.ext ?_ ?_
 .refine y24 hl λi h1 h2=>?_;have:=s i;rw[z2R h1,z2R h2,z18 h1,z18 h2]at this;exact this
 .refine y24 hr λi h1 h2=>?_;have:=s (e.1.length+i);rw[z1m (by lia),z1m (by lia),<-hl,<-hr,y21,y0W h1,z18 h1,z18 h2]at this;exact this
def z0R.one{e e':Row}(h:z0R e)(h':z0R e')(s:∀i,lat e i=lat e' i):e=e':=by
 rcases y3r e.1.length e'.1.length with hm|hm
 .obtain⟨a,b⟩:=h.len h' s hm;exact z8c b a s
 .obtain⟨a,b⟩:=h'.len h (λi=>(s i).symm) hm;exact z8c b.symm a.symm s
def zdE{f:Nat->Int}{e:Row}(h1:∀i,i<e.1.length->e.1.getD i 0=f i)(h2:∀j,j<e.2.length->e.2.getD j 0=f (e.1.length+j))(hp:Pd f e.1.length e.2.length)(h0:e.2≠[]):∀i,lat e i=f i:=λi=>by
 by_cases hi:i<e.1.length
 .rw[z2R hi];exact h1 i hi
 .have hl:0<e.2.length:=y0r.mpr h0;rw[z1m (by lia),h2 _ (y1K _ hl)];have a:=hp.mul ((i-e.1.length)/e.2.length) (e.1.length+(i-e.1.length)%e.2.length) (by lia);rw[<-a];congr 1;have:=y3l (i-e.1.length) e.2.length;lia
def Per(r:List Int)(s:Nat):Prop:=s ∣ r.length/\∀i,i+s<r.length->r.getD (i+s) 0=r.getD i 0
def z5c{r:List Int}{s:Nat}(h:Per r s)(hs:0<s):∀i,i<r.length->r.getD i 0=r.getD (i%s) 0:=by
 intro i;induction i using Nat.strongRecOn with
 |ind i ih =>
  intro hi;by_cases c:i<s
  .rw[y0W c]
  .have a:=h.2 (i-s) (by lia);have e:i-s+s=i:=by lia
   rw[e]at a;rw[a,ih (i-s) (by lia) (by lia),<-Nat.mod_eq_sub_mod (by lia)]
def z8v{r:List Int}{s:Nat}(hd:s ∣ r.length)(h:∀i,i<r.length->r.getD i 0=r.getD (i%s) 0):Per r s:=⟨hd,λi hi=>by rw[h (i+s) hi,h i (by lia),y2m]⟩
def zgC{e:Row}(h:e.2≠[]){d:Nat}(hd:d ∣ e.2.length):Per e.2 d↔Pd (lat e) e.1.length d:=by
 have hl:0<e.2.length:=y0r.mpr h;have hd0:0<d:=Nat.pos_of_dvd_of_pos hd hl;constructor
 .intro hp i hi;rw[z1m hi,z1m (by lia),z5c hp hd0 _ (y1K _ hl),z5c hp hd0 ((i-e.1.length)%e.2.length) (y1K _ hl),Nat.mod_mod_of_dvd _ hd,Nat.mod_mod_of_dvd _ hd];have:i+d-e.1.length=i-e.1.length+d:=by lia
  rw[this,y2m]
 .intro hp;refine⟨hd,λi hi=>?_⟩;have:=hp (e.1.length+i) (by lia);rw[z1m (by lia),z1m (by lia)]at this;have e1:e.1.length+i+d-e.1.length=i+d:=by lia
  rw[e1,y21,y0W hi,y0W (by lia)]at this;exact this
structure z5A(r:List Int)(s:Nat):Prop where
 pos:0<s
 per:Per r s
 no:∀d,0<d->d<s->¬Per r d
def z5A.le{r:List Int}{s:Nat}(L:z5A r s)(h:r≠[]):s<=r.length:=Nat.le_of_dvd (y0r.mpr h) L.per.1
def z5A.none{e:Row}(h:e.2≠[]){s:Nat}(L:z5A e.2 s){m d:Nat}(hd:0<d)(hs:d<s):¬Pd (lat e) m d:=λhp=>by have hl:0<e.2.length:=y0r.mpr h;have P:=z5Y h;have Q:=P.down hp hl;have G:=Q.gcd P;have g1:Nat.gcd d e.2.length ∣ e.2.length:=Nat.gcd_dvd_right _ _;have g2:Nat.gcd d e.2.length<=d:=Nat.le_of_dvd hd (Nat.gcd_dvd_left _ _);exact L.no _ (Nat.gcd_pos_of_pos_left _ hd) (by lia) ((zgC h g1).mpr G)
structure z4s(b r:List Int)(s c:Nat):Prop where
 le:c<=b.length
 eq:∀j,j<c->b.getD (b.length-1-j) 0=r.getD (s-1-j%s) 0
 no:c=b.length\/b.getD (b.length-1-c) 0≠r.getD (s-1-c%s) 0
def z7O{k s:Nat}(hs:0<s):(-1-(k:Int))%(s:Int)=((s-1-k%s:Nat):Int):=by
 have h1:k%s<s:=y1K _ hs;have h2:(-1-(k:Int))=((s-1-k%s:Nat):Int)+(s:Int)*(-((k/s:Nat):Int)-1):=by
  have:=y3l k s;have e:(k:Int)=((k%s:Nat):Int)+(s:Int)*((k/s:Nat):Int):=by rw[<-y3m,<-Int.natCast_add,this]
  have e2:((s-1-k%s:Nat):Int)=(s:Int)-1-((k%s:Nat):Int):=by lia
  rw[e2,Int.mul_sub,Int.mul_neg,Int.mul_one];lia
 rw[h2,Int.add_mul_emod_self_left,Int.emod_eq_of_lt (by lia) (by lia)]
def zb3{e:Row}(h:e.2≠[]){s c:Nat}(L:z5A e.2 s)(R:z4s e.1 e.2 s c):∀i,e.1.length-c<=i->lat e i=e.2.getD (((i:Int)-(e.1.length:Int))%(s:Int)).toNat 0:=λi hi=>by
 have hl:0<e.2.length:=y0r.mpr h;have hle:=R.le;by_cases c1:i<e.1.length
 .have e1:=R.eq (e.1.length-1-i) (by lia);have e2:e.1.length-1-(e.1.length-1-i)=i:=by lia
  rw[e2]at e1;rw[z2R c1,e1];have e3:(i:Int)-(e.1.length:Int)=-1-((e.1.length-1-i:Nat):Int):=by lia
  rw[e3,z7O L.pos,y19]
 .rw[z1m (by lia),z5c L.per L.pos _ (y1K _ hl),Nat.mod_mod_of_dvd _ L.per.1];have e3:(i:Int)-(e.1.length:Int)=((i-e.1.length:Nat):Int):=by lia
  rw[e3,<-y2r,y19]
def z2F(e:Row)(s c:Nat):Row:=(e.1.take (e.1.length-c),(z27 s).map λk=>e.2.getD ((k-(c:Int))%(s:Int)).toNat 0)
def z2h{e:Row}{s c:Nat}:(z2F e s c).1.length=e.1.length-c/\(z2F e s c).2.length=s:=by
 refine⟨?_,?_⟩
 .show(e.1.take _).length=_;rw[y0I];lia
 .show((z27 s).map _).length=_;rw[y01,z1A]
def z3x{e:Row}(h:e.2≠[]){s c:Nat}(L:z5A e.2 s)(R:z4s e.1 e.2 s c):∀i,lat (z2F e s c) i=lat e i:=by
 obtain⟨l1,l2⟩:=z2h (e:=e) (s:=s) (c:=c);have hc:=zb3 h L R;refine zdE (λi hi=>?_) (λj hj=>?_) (λi hi=>?_) (λz=>?_)
 .rw[l1]at hi;rw[z2R (by lia)];show(e.1.take _).getD i 0=_;rw[y08,y2L,if_pos hi,<-y08]
 .rw[l2]at hj;rw[l1,hc _ (by lia)];show((z27 s).map _).getD j 0=_;rw[y08,y0l,z2m hj];show e.2.getD (((j:Int)-(c:Int))%(s:Int)).toNat 0=_;have:=R.le;have e1:((e.1.length-c+j:Nat):Int)-(e.1.length:Int)=(j:Int)-(c:Int):=by lia
  rw[e1]
 .rw[l1]at hi;rw[l2,hc _ hi,hc _ (by lia)];have e1:((i+s:Nat):Int)-(e.1.length:Int)=((i:Int)-(e.1.length:Int))+(s:Int):=by lia
  rw[e1,Int.add_emod_right]
 .have:=L.pos;rw[z]at l2;simp at l2;lia
def z5b{e:Row}(h:e.2≠[]){s c:Nat}(L:z5A e.2 s)(R:z4s e.1 e.2 s c):z0R (z2F e s c):=by
 obtain⟨l1,l2⟩:=z2h (e:=e) (s:=s) (c:=c);have S:=z3x h L R;have ef:lat (z2F e s c)=lat e:=funext S;have hs:=L.pos;refine⟨λz=>?_,λd hd hds=>?_,?_⟩
 .rw[z]at l2;simp at l2;lia
 .rw[ef];rw[l2]at hds;exact L.none h hd hds
 .rcases R.no with z|z
  .left;exact y12.mp (by rw[l1];lia)
  .by_cases hb:c=e.1.length
   .left;exact y12.mp (by rw[l1];lia)
   .right;have hle:=R.le;rw[ef,l1,l2];have hl:0<e.2.length:=y0r.mpr h;have hc:=zb3 h L R (e.1.length-c-1+s) (by lia);rw[hc,z2R (by lia)];have e1:((e.1.length-c-1+s:Nat):Int)-(e.1.length:Int)=(-1-(c:Int))+(s:Int):=by lia
    rw[e1,Int.add_emod_right,z7O hs,y19];have e2:e.1.length-c-1=e.1.length-1-c:=by lia
    rw[e2];exact z
open PySem L2
def hdW(e:Row)(m:Nat):List Int:=(List.range m).map (lat e)
def zgt(ns:List Int)(lo hi:Option Int):List Int:=(ns.drop (HT.sIx ns.length 0 lo)).take (HT.sIx ns.length ns.length hi-HT.sIx ns.length 0 lo)
def zfo(ns:List Int)(k:Nat):zgt ns none (some (k:Int))=ns.take k:=by
 unfold zgt;rw[HT.sIx_none,HT.sIx_nat,List.drop_zero,Nat.sub_zero];rcases y3r k ns.length with h|h
 .rw[y1E h]
 .rw[y35 h,y0D (y09 _),y0D h]
def zba(ns:List Int)(k:Nat):zgt ns (some (k:Int)) none=ns.drop k:=by
 unfold zgt;rw[HT.sIx_none,HT.sIx_nat];rcases y3r k ns.length with h|h
 .rw[y1E h,y0D (by rw[y1g];lia)]
 .rw[y35 h,y1h (y09 _),y1h h];simp
def zc3(k:Nat)(r:List Int):(List.replicate k r).flatten.length=k*r.length:=z7k r k
theorem z5M(l:List Int):∀(k j:Nat),j<k*l.length->(List.replicate k l).flatten.getD j 0=l.getD (j%l.length) 0
 |0,j,h=>by simp at h
 |k+1,j,h=>by
  rw[y0Z,y1i,y08,List.getElem?_append];by_cases c:j<l.length
  .rw[if_pos c,y0W c,y08]
  .rw[if_neg c,<-y08,z5M l k (j-l.length) (by rw[Nat.succ_mul]at h;lia),<-Nat.mod_eq_sub_mod (by lia)]
end Gu
namespace L2
open PySem PySem.Spec PyProof.Rows
abbrev frO(o:Obj):HO:=.frz o (.ext λ_=>True)
section
variable{P:Program}{w:World}{H:Hp}{h:Heap}{a:Addr}{o:Obj}
def z5P(e:h.get? a=some o):z0K P w H h a (frO o):=⟨e,trivial,⟨o,e⟩,λ_ _ _ _=>trivial⟩
def z2N(x:HOk P w H h)(e:H a=some (frO o)):h.get? a=some o:=(x a _ e).1
end
def utk(H:Hp)(cs:List Addr):Hp:=λb=>if b∈cs then none else H b
def rtk(H H1:Hp)(cs:List Addr):Hp:=λb=>if b∈cs then H b else H1 b
def z4i{H:Hp}{cs:List Addr}{b:Addr}(h:b∈cs):utk H cs b=none:=if_pos h
def z0r{H:Hp}{cs:List Addr}{b:Addr}(h:b∉cs):utk H cs b=H b:=if_neg h
def z85{H H1:Hp}{cs:List Addr}{b:Addr}(h:b∈cs):rtk H H1 cs b=H b:=if_pos h
def z1C{H H1:Hp}{cs:List Addr}{b:Addr}(h:b∉cs):rtk H H1 cs b=H1 b:=if_neg h
def Same.rtk'{H H1:Hp}{cs:List Addr}(hn:∀c∈cs,H1 c=none):Same H1 (L2.rtk H H1 cs):=λb o e=>by
 have hb:b∉cs:=λz=>by rw[hn b z]at e;cases e
 rw[z1C hb];exact e
def z6Z{H:Hp}{cs:List Addr}(hc:∀c∈cs,∃ob,H c=some (frO ob)){b:Addr}{o:HO}(e:H b=some o)(ne:∀ob,o≠frO ob):utk H cs b=some o:=by
 have hb:b∉cs:=λz=>by obtain⟨ob,q⟩:=hc b z;rw[e]at q;exact ne ob (y06 q)
 rw[z0r hb];exact e
def z2V(H:Hp)(f:Addr)(params:Arguments)(body:Expr)(scope:Scope)(qual:Str)(N:List Str)(fv:St):Prop :=
 ∃(clos:List (Str × Addr)) (cs:List Addr) (pm:Value) (c':Addr) (ctv:Value) (oc:Obj) (vs:Array Value) (t:Tok),H f=some (frO (PySem.W.kla_obj "<lambda>" qual params body scope clos pm c' ctv))/\H c'=some (frO oc)/\oc.data=.fields vs/\vs[1]?=some (.str qual t) /\
  (∀x y c,clos.lookup x=some c->clos.lookup y=some c->x=y)/\(∀x c,clos.lookup x=some c->c∈cs)/\(∀c∈cs,(∃x,clos.lookup x=some c)/\∃o u,H c=some (frO o)/\o.data=.cell u)/\(∀x,scope.names.lookup x=some .free->∃c,clos.lookup x=some c) /\
  ∀(i:Nat) x v,N[i]?=some x->fv[i]?=some (some v)->∃c o u,clos.lookup x=some c/\H c=some (frO o)/\o.data=.cell (some u)/\z0y v u
def z2V.mono{H H':Hp}{f:Addr}{params:Arguments}{body:Expr}{scope:Scope}{qual:Str}{N:List Str}{fv:St}(h:z2V H f params body scope qual N fv)(s:Same H H'):z2V H' f params body scope qual N fv:=by
 obtain⟨clos,cs,pm,c',ctv,oc,vs,t,e1,e2,e3,e4,e5,e5',e6,e7,e8⟩:=h;refine⟨clos,cs,pm,c',ctv,oc,vs,t,s _ _ e1,s _ _ e2,e3,e4,e5,e5',λc hc=>?_,e7,λi x v h1 h2=>?_⟩
 .obtain⟨hx,o,u,q,d⟩:=e6 c hc;exact⟨hx,o,u,s _ _ q,d⟩
 .obtain⟨c,o,u,q1,q2,q3⟩:=e8 i x v h1 h2;exact⟨c,o,u,q1,s _ _ q2,q3⟩
structure zj2(N ps:List Str)(sc:Scope):Prop where
 kind:sc.kind=.function:=by rfl
 co:sc.isCoroutine=false:=by rfl
 gen:sc.isGenerator=false:=by rfl
 nd:N.Nodup:=by decide +kernel
 pre:N.take ps.length=ps:=by rfl
 par:∀x∈ps,sc.names.lookup x=some .local:=by decide +kernel
 nocell:∀y∈sc.names,y.2≠.cell:=by decide +kernel
 fr:∀x∈N.drop ps.length,sc.names.lookup x=some .free:=by decide +kernel
def z4S(vs:List V)(fv:St):St:=vs.map some++fv.drop vs.length
def zay(P:Program)(w:World)(K:yyF)(mg:yyS)(base:Heap)(N:List Str)(qual:Str)(scope:Scope)(f:Addr)(cd:Value)(clos:List (Str × Addr))(A:Around)(outer:List Env)(s:Shared)(H:Hp):Cx where
 prog:=P
 w:=w
 K:=K
 mg:=mg
 base:=base
 A:=A.deeper (PySem.W.envX qual scope s.heap.objs.size f cd clos)
 N:=N
 s₀:=s
 H₀:=H
 env:=PySem.W.envX qual scope s.heap.objs.size f cd clos
 outer:=outer
 stack:=PySem.W.envX qual scope s.heap.objs.size f cd clos::outer
 ex:=[]
 calm:=true
 fn:=λ_=>false
 pn:=[]
 xe:=noE
def z5w{ps:List Str}{us:List Value}{i:Nat}{x:Str}{u:Value}(nd:ps.Nodup)(hp:ps[i]?=some x)(hu:us[i]?=some u):(ps.zip us).reverse.lookup x=some u:=by
 have hm:(x,u)∈(ps.zip us).reverse:=List.mem_reverse.mpr (y0M (i:=i) (by rw[y1k];exact⟨hp,hu⟩));have key:∀l:List (Str × Value),(∀v,(x,v)∈l->v=u)->(x,u)∈l->l.lookup x=some u:=by
  intro l;induction l with
  |nil=>intro _ h;cases h
  |cons q r ih =>
   intro h1 h2;obtain⟨y,v⟩:=q;rw[y0K];by_cases e:x=y
   .subst e;rw[show(x==x)=true by simp];exact y1M some (h1 v y0p)
   .rw[show(x==y)=false by simpa using e];refine ih (λv hv=>h1 v (y0d _ hv)) ?_;rcases y0k.mp h2 with z|z
    .injection z with z1 _;exact absurd z1 e
    .exact z
 refine key _ (λv hv=>?_) hm;obtain⟨j,hj,ej⟩:=y1Z (List.mem_reverse.mp hv);have e1:(ps.zip us)[j]?=some (x,v):=by rw[y0a hj,ej]
 rw[y1k]at e1;have:j=i:=z3b nd e1.1 hp;subst this;rw[hu]at e1;exact(y06 e1.2).symm
def zga{CX:CXT}{P:Program}{w:World}{K:yyF}{mg:yyS}{base:Heap}{k:Nat}{H:Hp}{f:Addr}{params:Arguments}{body:Expr}{scope:Scope}{qual:Str}{N ps:List Str}{fv:St}(C:z2V H f params body scope qual N fv)(S:zj2 N ps scope)(hbind:∀(cl:List (Str × Addr)) (pm cdv ct:Value) (us:List Value),us.length=ps.length->bindArgs (PySem.W.kla_fn "<lambda>" qual params body scope cl pm cdv ct) ⟨us,[]⟩=pure (ps.zip us))(hfv:fv.length=N.length){A:Around}{outer:List Env}{s:Shared}{us:List Value}{vs:List V}{Q:VK}{E:XK}(hr:z1o (k+1) A)(e0:zaA P w K mg base A outer s H)(r:z0B vs us)(hl:vs.length=ps.length)(hbody:∀(cd:Value) (clos:List (Str × Addr)) (cs:List Addr),z1o k (A.deeper (PySem.W.envX qual scope s.heap.objs.size f cd clos))->(∀c∈cs,∃o u,H c=some (frO o)/\o.data=.cell u) -> ∃t,PE (zay P w K mg base N qual scope f cd clos A outer s (utk H cs)) body t/\t (z4S vs fv) (utk H cs) λv H1=>(∀c∈cs,H1 c=none)->Q v (rtk H H1 cs)) : codeAny (model P w) A (.call (.ref f) ⟨us,[]⟩) (CR CX outer P w H s Q E) s:=by
 obtain⟨clos,cs,pm,c',ctv,oc,vs',t,e1,e2,e3,e4,e5,hcl,e6',e7,e8⟩:=C;have e6:∀c∈cs,∃o u,H c=some (frO o)/\o.data=.cell u:=λc hc=>(e6' c hc).2;obtain⟨tb,hPE,hq⟩:=hbody (.ref c') clos cs (hr.deeper _) e6;have KX:K.In s.heap:=e0.mod.kin.keeps λb o e=>(e0.bs b o e).1;have lim:s.heap.NoLimit:=e0.mod.nolimit.keeps λb o e=>(e0.bs b o e).1;have hul:us.length=ps.length:=by rw[<-r.length];exact hl
 refine PySem.W.kla_callFunE hr.depth (z2N e0.hok e1) rfl S.co S.gen rfl ⟨c',oc,vs',t,rfl,z2N e0.hok e2,e3,e4⟩ ?_;rw[hbind clos pm (.ref c') ctv us hul];refine y03 (wpAny_newFunctionEnv S.nocell (λy hy=>S.par y.1 (y2e hy).1) (λh₁ hns hsb=>?_) S.kind);have hk₁:∀b o,s.heap.get? b=some o->h₁.get? b=some o:=λb o e=>hsb.extBut b o (y0i (y05 e)) (y02 _ e);refine⟨lim.keeps hk₁,?_⟩;show codeAny _ _ (.expr body (PySem.W.envX qual scope s.heap.objs.size f (.ref c') clos)) _ _;have hcu:∀c∈cs,utk H cs c=none:=λc hc=>z4i hc;have hclt:∀c∈cs,c<s.heap.objs.size:=λc hc=>by obtain⟨o,_,q,_⟩:=e6 c hc;exact y05 (z2N e0.hok q)
 have hokU:HOk P w (utk H cs) s.heap:=λb u e=>by
  have hb:b∉cs:=λz=>by rw[z4i z]at e;cases e
  rw[z0r hb]at e;refine(e0.hok b u e).stay (λ_ _ _ q=>q) (λc q=>?_) λc xs q=>?_
  .exact z6Z (λc hc=>let⟨o,_,q,_⟩:=e6 c hc;⟨o,q⟩) q (λob z=>by cases z)
  .exact z6Z (λc hc=>let⟨o,_,q,_⟩:=e6 c hc;⟨o,q⟩) q (λob z=>by cases z)
 have noA:∀b:Addr,b∉(zay P w K mg base N qual scope f (.ref c') clos A outer s (utk H cs)).ex:=λb z=>absurd (show b∈([]:List Addr)from z) (by simp);have nonU:∀{b:Addr},H b=none->utk H cs b=none:=λ{b} e=>by
  by_cases hb:b∈cs
  .exact z4i hb
  .rw[z0r hb];exact e
 have I:Inv (zay P w K mg base N qual scope f (.ref c') clos A outer s (utk H cs)) [] (z4S vs fv) (utk H cs) { s with heap:=h₁,toks:=s.toks+(ps.zip us).length }:=by
  refine⟨⟨e0.mod,S.kind,rfl,rfl,y09 _,e5,λy hy=>?_,λy c hf _=>?_,λ_=>hr.hd,y39 e0.frames,.inr ⟨rfl,rfl⟩,λb z=>absurd z (noA b),λb o e=>⟨(e0.bs b o e).1,nonU (e0.bs b o e).2⟩,e0.bsz,λb _ _=>noA b,λb z=>absurd z (noA b),e0.funs,λb hb=>nonU (e0.frf b hb)⟩,
   rfl,e0.bare,Un.kept hk₁,⟨_,hns,λi y v h1 h2 h3=>?_⟩,λy c h=>?_,?_,λy c h=>hcu c (hcl y c h),λp hp=>absurd (show p∈([]:yyP)from hp) (by simp),hokU.kept hk₁,?_⟩
  .rcases hy with hy|hy
   .exact absurd rfl (S.nocell _ (y0V hy))
   .exact e7 y hy
  .exact absurd (show false=true from hf) y0s
  .by_cases hi:i<vs.length
   .have ha:vs[i]?=some v:=by
     unfold z4S at h2;rw[y0A (by simpa using hi),y0l]at h2;cases e:vs[i]? with
     |none=>rw[e]at h2;cases h2
     |some a=>rw[e]at h2;cases h2;rfl
    obtain⟨u,hu,rv⟩:=r.get ha;have hp:ps[i]?=some y:=by rw[<-S.pre,List.getElem?_take_of_lt (by lia)];exact h1
    have ndP:ps.Nodup:=by rw[<-S.pre];exact S.nd.sublist (List.take_sublist _ _)
    exact⟨u,rv,.inl ⟨S.par y (y0M hp),z5w ndP hp hu⟩⟩
   .have h2':fv[i]?=some (some v):=by
     unfold z4S at h2;rw[y0E (by simpa using hi),y01,y2a]at h2;rw[show vs.length+(i-vs.length)=i by lia]at h2;exact h2
    obtain⟨c,o,u,q1,q2,q3,q4⟩:=e8 i y v h1 h2';have hkk:scope.names.lookup y=some .local\/scope.names.lookup y=some .cell\/scope.names.lookup y=some .free:=h3;refine⟨u,q4,?_⟩;rcases hkk with z|z|z
    .have hm:y∈N.drop ps.length:=y0M (i:=i-ps.length) (by rw[y2a,show ps.length+(i-ps.length)=i by lia];exact h1);rw[S.fr y hm]at z;cases z
    .exact absurd rfl (S.nocell _ (y0V z))
    .exact .inr ⟨.inr z,c,q1,⟨o,hk₁ _ _ (z2N e0.hok q2),q3⟩⟩
  .obtain⟨o,u,q,d⟩:=e6 c (hcl y c h);exact⟨u,o,hk₁ _ _ (z2N e0.hok q),d⟩
  .exact nonU (e0.hok.fresh (y09 _))
  .unfold z4S;show _=N.length;have hpl:ps.length<=N.length:=by have:=y1M List.length S.pre;rw[y0I]at this;lia
   rw[y07,y01,y1g,hfv];lia
 refine PySem.W.kla_codeExpr (y0B (hPE [] _ (z4S vs fv) (utk H cs) _ I hq) (λv' s' hs=>?_) λe' s' hs=>False.elim hs);obtain⟨v,H1,J,rv,q1⟩:=hs;have hn1:∀c∈cs,H1 c=none:=λc hc=>by obtain⟨⟨x,hx⟩,_⟩:=e6' c hc;exact J.freeC x c hx
 have U:Un (frs outer) [] (utk H cs) H1 s.heap s'.heap:=J.base;have hcs':∀c∈cs,∃ob,H c=some (frO ob):=λc hc=>let⟨o,_,q,_⟩:=e6 c hc;⟨o,q⟩;have out:∀{b:Addr},H b=none->b∉cs:=λ{b} e z=>by obtain⟨o,q⟩:=hcs' b z;rw[e]at q;cases q
 have got:∀{b:Addr}{o:HO},(∀ob,o≠frO ob)->H b=some o->b∉cs:=λ{b o} ne e z=>by obtain⟨ob,q⟩:=hcs' b z;rw[e]at q;exact ne ob (y06 q)
 refine⟨v,rtk H H1 cs,J.os,J.bare,⟨λb o e n hb hx=>?_,λb o e n hb hx=>?_,λb o e n hx=>?_,λb o e hx=>U.there b o e hx,λb xs e=>?_,λb o u e=>?_,λb ps e=>?_⟩,λb u e=>?_,rv,q1 hn1⟩
 .exact U.keep b o e (nonU n) hb hx
 .exact U.slot b o e (nonU n) hb hx
 .rw[z1C (out n)];exact U.free b o e (nonU n) hx
 .have hb:=got (λob z=>by cases z) e;rw[z1C hb];exact U.tups b xs (by rw[z0r hb];exact e)
 .by_cases hb:b∈cs
  .rw[z85 hb];exact e
  .rw[z1C hb];exact U.frzs b o u (by rw[z0r hb];exact e)
 .have hb:=got (λob z=>by cases z) e;obtain⟨more,q⟩:=U.tbls b ps (by rw[z0r hb];exact e);exact⟨more,by rw[z1C hb];exact q⟩
 .by_cases hb:b∈cs
  .rw[z85 hb]at e;obtain⟨ob,q⟩:=hcs' b hb;rw[q]at e;have:=y06 e;subst this;refine z5P (U.keep b ob (z2N e0.hok q) (hcu b hb) (λz=>?_) (by simp));have:=e0.frf b z;rw[q]at this;cases this
  .rw[z1C hb]at e;refine(J.hok b u e).stay (λ_ _ _ q=>q) (λc q=>?_) λc xs q=>?_
   .exact Same.rtk' hn1 c _ q
   .exact Same.rtk' hn1 c _ q
def z5D(P:Program)(w:World)(K:yyF)(mg:yyS)(base:Heap)(CX:CXT)(k:Nat)(H:Hp)(f:Addr)(sp:List V->Hp->VK->Prop):Prop :=
 (∃(o:Obj)(fd:FuncData),H f=some (frO o)/\o.data=.func fd) /\
 ∀(H':Hp),Same H H'->∀(A:Around)(outer:List Env)(s:Shared)(us:List Value)(vs:List V)(Q:VK),z1o k A->zaA P w K mg base A outer s H'->z0B vs us->sp vs H' Q ->
  codeAny (model P w) A (.call (.ref f) ⟨us,[]⟩) (CR CX outer P w H' s Q E0) s
def ziO(P:Program)(w:World)(K:yyF)(mg:yyS)(base:Heap)(CX:CXT)(k:Nat)(i:Nat)(t:TA):TE:=λσ H Q=>∃(f:Addr)(sp:List V->Hp->VK->Prop),σ[i]?=some (some (.ref f))/\(∃(o:Obj)(fd:FuncData),H f=some (frO o)/\o.data=.func fd) /\
 t σ H λvs H1=>z5D P w K mg base CX k H1 f sp/\sp vs H1 Q
section
variable{X:Cx}{CX:CXT}{k:Nat}{x:Str}{p pos:Pos}{e:Expr}{es:List Expr}{t:TA}
def zdr[N:NoE CX](i:Nat)(hr:z1o k X.A)(ha:PA X (e::es) t)(hN:X.N[i]?=some x:=by rfl)(hv:Vis X.env.scope x:=by first|exact Or.inl rfl|exact Or.inr (Or.inl rfl)|exact Or.inr (Or.inr rfl))(hd:(x==("__debug__":Str))=false:=by decide)(hcd:(x==("__classdict__":Str))=false:=by decide)(he:starEach (e::es) X.env=(false,eval e X.env)::starEach es X.env:=by rfl)(hpl:(backTo pos (starEach es X.env)).any (·.1)=false:=by rfl) : PE X (.Call (.Name x p) (e::es) [] pos) (ziO X.prog X.w X.K X.mg X.base CX k i t):=by
 intro pins s σ H Q I h;obtain⟨f,sp,ef,⟨o,fd,eo,od⟩,h⟩:=h;refine y15 (z2K (z4q hN hv hd hcd pins s σ H (λv H1=>v=.ref f/\H1=H) I ⟨_,ef,rfl,rfl⟩) λu s1 v H1 I1 r1 hz9=>?_);obtain⟨hv1,hH1⟩:=hz9;subst hv1 hH1;cases r1;have h':=ha pos pins s1 σ H1 _ I1 h;rw[he]at h'⊢;refine PySem.W.callWith_of (P:=λhp=>hp.get? f=some o\/∃o' fd',hp.get? f=some o'/\o'.data=.func fd') (by show((false||(backTo pos (starEach es X.env)).any (·.1))||false)=false;rw[hpl];rfl)
  (λhp hX=>?_) (PySem.Calls.evalArgs_plain (thn h' λus s2 ⟨vs,H2,I2,r,cv,q⟩=>?_))
 .have hX':∃o' fd',hp.get? f=some o'/\o'.data=.func fd':=hX.elim (λz=>⟨o,fd,z,od⟩) id;obtain⟨o',fd',z,d'⟩:=hX';refine⟨.frame,.inl rfl,?_⟩;obtain⟨cls,dd,data,sl⟩:=o';simp only at d';subst d';exact(PySem.W.Looks.ld (part:=none) z).andThen .now
 .obtain⟨⟨o',fd',z,d'⟩,run⟩:=cv;refine⟨.inr ⟨o',fd',z2N I2.hok z,d'⟩,?_⟩;refine y2l (y1N (run H2 (Same.refl _) X.A X.stack s2 us vs Q hr I2.env0 r q) λr s' hq=>?_);cases r with
  |error e=>exact absurd hq N.no
  |ok fl =>
   cases fl with
   |ret u=>exact I2.after hq
   |next=>exact False.elim hq
   |brk=>exact False.elim hq
   |cont=>exact False.elim hq
end
structure Tb where
 at_:Addr
 pos:Pos
 qual:Str
def zd9(T:Tb)(H:Hp):Prop:=H T.at_=some (.tbl #[])\/∃(c':Addr)(oc:Obj)(vs:Array Value)(t:Tok),H T.at_=some (.tbl #[rawInt T.pos.line,rawInt T.pos.col,.ref c'])/\H c'=some (frO oc)/\oc.data=.fields vs/\vs[1]?=some (.str T.qual t)
def z7c(Ts:List Tb)(H:Hp):Prop:=∀T∈Ts,zd9 T H
structure zjE(Ts:List Tb)(H H':Hp):Prop where
 at_:∀b o,(∀ps,o≠.tbl ps)->H b=some o->H' b=some o
 tabs:z7c Ts H->z7c Ts H'
def zd9.mono{T:Tb}{H H':Hp}(h:zd9 T H)(s:Same H H'):zd9 T H':=by
 rcases h with e|⟨c',oc,vs,t,e1,e2,e3⟩
 .exact .inl (s _ _ e)
 .exact .inr ⟨c',oc,vs,t,s _ _ e1,s _ _ e2,e3⟩
def Same.l{Ts:List Tb}{H H':Hp}(s:Same H H'):zjE Ts H H':=⟨λb o _ e=>s b o e,λh T hT=>(h T hT).mono s⟩
def z6B(H:Hp)(cs:List Addr)(ob:Addr->Obj):Hp:=λb=>if b∈cs then some (frO (ob b))else H b
def z3n{H:Hp}{cs:List Addr}{ob:Addr->Obj}{b:Addr}(h:b∈cs):z6B H cs ob b=some (frO (ob b)):=if_pos h
def z0J{H:Hp}{cs:List Addr}{ob:Addr->Obj}{b:Addr}(h:b∉cs):z6B H cs ob b=H b:=if_neg h
section
variable{X:Cx}{pins:yyP}{σ:St}{H:Hp}{s s':Shared}{cs:List Addr}{ob:Addr->Obj}
def Inv.cellFree(I:Inv X pins σ H s){x:Str}{c:Addr}(hc:X.env.cells.lookup x=some c)(hge:X.s₀.heap.objs.size<=c):c∉frs X.stack/\X.base.get? c=none:=by
 refine⟨λz=>?_,y1s (y0e I.ok.bsz hge)⟩;rcases y0k.mp (I.stkSub c z)with q|q
 .exact I.cne x c hc q
 .obtain⟨_,o,ho,_⟩:=I.ok.funs.mem q;exact absurd (y0h (y05 ho) hge) (y1X _)
def Inv.env0T(I:Inv X pins σ H s)(h1:∀c∈cs,s.heap.get? c=some (ob c))(h2:∀c∈cs,H c=none)(h3:∀c∈cs,c∉frs X.stack/\X.base.get? c=none):zaA X.prog X.w X.K X.mg X.base X.A X.stack s (z6B H cs ob):=by
 have E:=I.env0;have out:∀{b:Addr}{o:HO},H b=some o->b∉cs:=λ{b o} e z=>by rw[h2 b z]at e;cases e
 refine⟨E.frames,E.mod,λb o e=>⟨(E.bs b o e).1,?_⟩,E.bsz,E.funs,λb hb=>?_,λb u e=>?_,E.bare⟩
 .have hb:b∉cs:=λz=>by rw[(h3 b z).2]at e;cases e
  rw[z0J hb];exact(E.bs b o e).2
 .have hb':b∉cs:=λz=>(h3 b z).1 hb;rw[z0J hb'];exact E.frf b hb
 .by_cases hb:b∈cs
  .rw[z3n hb]at e;have:=y06 e;subst this;exact z5P (h1 b hb)
  .rw[z0J hb]at e;exact(I.hok b u e).stay (λ_ _ _ q=>q) (λc q=>by rw[z0J (out q)];exact q) λc xs q=>by rw[z0J (out q)];exact q
def unT{fr:List Addr}{H':Hp}{h h':Heap}{P:Program}{w:World}(h1:∀c∈cs,h.get? c=some (ob c))(h2:∀c∈cs,H c=none)(h3:∀c∈cs,c∉fr)(U:Un fr [] (z6B H cs ob) H' h h')(hok:HOk P w H' h') : Un fr [] H (utk H' cs) h h'/\HOk P w (utk H' cs) h':=by
 have out:∀{b:Addr}{o:HO},H b=some o->b∉cs:=λ{b o} e z=>by rw[h2 b z]at e;cases e
 have at':∀c∈cs,H' c=some (frO (ob c)):=λc hc=>U.frzs c _ _ (z3n hc);have got:∀{b:Addr}{o:HO},(∀x,o≠frO x)->H' b=some o->b∉cs:=λ{b o} ne e z=>by rw[at' b z]at e;exact ne _ (y06 e).symm
 refine⟨⟨λb o e n hb hx=>?_,λb o e n hb hx=>?_,λb o e n hx=>?_,λb o e hx=>U.there b o e hx,λb xs e=>?_,λb o u e=>?_,λb ps e=>?_⟩,λb u e=>?_⟩
 .by_cases hc:b∈cs
  .have q:=z2N hok (at' b hc);have q':=h1 b hc;rw[e]at q';rw[q,y06 q']
  .exact U.keep b o e (by rw[z0J hc];exact n) hb hx
 .have hc:b∉cs:=λz=>h3 b z hb;exact U.slot b o e (by rw[z0J hc];exact n) hb hx
 .by_cases hc:b∈cs
  .exact z4i hc
  .rw[z0r hc];exact U.free b o e (by rw[z0J hc];exact n) hx
 .rw[z0r (out e)];exact U.tups b xs (by rw[z0J (out e)];exact e)
 .rw[z0r (out e)];exact U.frzs b o u (by rw[z0J (out e)];exact e)
 .obtain⟨more,q⟩:=U.tbls b ps (by rw[z0J (out e)];exact e);exact⟨more,by rw[z0r (out e)];exact q⟩
 .have hc:b∉cs:=λz=>by rw[z4i z]at e;cases e
  rw[z0r hc]at e;refine(hok b u e).stay (λ_ _ _ q=>q) (λc q=>?_) λc xs q=>?_
  .rw[z0r (got (λx z=>by cases z) q)];exact q
  .rw[z0r (got (λx z=>by cases z) q)];exact q
def Inv.afterT{Q:VK}{u:Value}(I:Inv X pins σ H s)(h1:∀c∈cs,s.heap.get? c=some (ob c))(h2:∀c∈cs,H c=none)(h3:∀c∈cs,c∉frs X.stack/\X.base.get? c=none)(h:CE X.stack X.prog X.w (z6B H cs ob) s (λv H'=>Q v (utk H' cs)) u s'):EP X pins σ Q u s':=by obtain⟨v,H',os,bare,un,hok,r,q⟩:=h;obtain⟨un2,hok2⟩:=unT h1 h2 (λc hc=>(h3 c hc).1) un hok;exact I.after ⟨v,utk H' cs,os,bare,un2,hok2,r,q⟩
end
class zkm (CX:CXT):Prop where
 cut:∀{s s':Shared}{H:Hp}{cs:List Addr}{ob:Addr->Obj}{outer:List Env}{E:XK}{e:Value},(∀c∈cs,s.heap.get? c=some (ob c))->(∀c∈cs,H c=none)->(∀c∈cs,c∉frs outer)->CX outer (z6B H cs ob) s (λe C H'=>E e C (utk H' cs)) e s'->CX outer H s E e s'
def z44(base:Heap)(mg:yyS):Prop:=∃bm o,mg "__builtins__"=some (.ref bm)/\bm≠builtinsNs/\bm≠mainGlobals/\base.get? bm=some o/\o.cls=.type "module"/\o.dict=some builtinsNs/\o.data=.plain
def zal(Ts:List Tb)(H H':Hp)(fa:Addr)(clos:List (Str × Addr))(params:Arguments)(body:Expr)(scope:Scope)(qual:Str):Prop :=
 H fa=none/\(∀b o,(∀ps,o≠.tbl ps)->H b=some o->H' b=some o)/\z7c Ts H'/\∃(pm:Value) (c':Addr) (ctv:Value) (oc:Obj) (vs:Array Value) (t:Tok),H' fa=some (frO (PySem.W.kla_obj "<lambda>" qual params body scope clos pm c' ctv))/\H' c'=some (frO oc)/\oc.data=.fields vs/\vs[1]?=some (.str qual t)
def zld(Ts:List Tb)(clos:List (Str × Addr))(params:Arguments)(body:Expr)(scope:Scope)(qual:Str):TE:=λ_ H Q=>z7c Ts H/\∀(fa:Addr)(H':Hp),zal Ts H H' fa clos params body scope qual->Q (.ref fa) H'
section
variable{X:Cx}{N:List Str}{ix:List (Option Nat)}{params:Arguments}{body:Expr}{lsc:Scope}{lpos:Pos}{c:Addr}{T:Tb}{Ts:List Tb}
def zgG(S:z0N X.N X.env.scope N ix lsc)(hcode:X.env.code=.ref c)(hC:PySem.W.CodeHd X.base c T.at_)(hB:z44 X.base X.mg)(hT:T∈Ts)(hTn:∀T'∈Ts,T'.at_=T.at_->T'=T)(hTp:T.pos=lpos)(hTq:T.qual=X.env.qual++"<lambda>")(hdef:defaultsOf params X.env=([],[])):PE X (.Lambda params body lsc lpos) (zld Ts (z0w X.env.cells lsc.names []) params body lsc T.qual):=by
 intro pins s σ H Q I h;obtain⟨ht,h⟩:=h;subst hTp;refine PySem.W.kla_eval hdef ?_;rw[<-hTq];have hcl:=z15 (scope:=lsc) (env:=X.env) (z0z I S);have hns:s.heap.Ns mainGlobals X.mg:=I.mod.glob.keeps I.bk;have C:PySem.W.CodeHd s.heap c T.at_:=hC.keeps I.bk;obtain⟨bm,ob,b1,b2,b3,b4,b5,b6,b7⟩:=hB;have tP:∀{ps:Array Value},H T.at_=some (.tbl ps)->s.heap.get? T.at_=some (PySem.W.tabObj ps):=λe=>I.hok _ _ e;have neP:∀{ps:Array Value}{b:Addr},H T.at_=some (.tbl ps)->H b=none->b≠T.at_:=λe n z=>by rw[z,e]at n;cases n
 rcases ht T hT with e|⟨c',oc,vs,t,e,ec,d1,d2⟩
 .have hbP:bm≠T.at_:=neP e (I.bs _ _ b4).2;have hgP:mainGlobals≠T.at_:=λz=>by
   obtain⟨o,es,ep,q,qd,_⟩:=hns;rw[z,tP e]at q;cases q;cases qd
  refine PySem.W.kla_makeFunction (mg:=X.mg) hcl I.ok.glob hns hcode C (tP e) trivial rfl hgP ⟨bm,ob,b1,b2,b3,hbP,I.bk _ _ b4,b5,b6,b7⟩ λc' ctv h' tk hx hge hlt hrec htb=>?_;obtain⟨c2,oc,vs,t,ee,hoc,d1,d2⟩:=hrec;cases ee;have hPlt:T.at_<s.heap.objs.size:=y05 (tP e);have nPc:T.at_≠c':=y0i (y0h hPlt hge);have nPf:T.at_≠h'.objs.size:=y0i (y3q (y0h hPlt hge) hlt);have ncf:c'≠h'.objs.size:=y0i hlt;have Hc:H c'=none:=I.hok.fresh hge;have Hf:H h'.objs.size=none:=I.hok.fresh (y0e hge (y0Y hlt));generalize hfo:PySem.W.kla_obj "<lambda>" T.qual params body lsc (z0w X.env.cells lsc.names []) ((X.mg "__name__").getD .none) c' ctv=fo;have hfg:(h'.push fo).get? h'.objs.size=some fo:=y04 _ (by rw[<-hfo];rfl);let H':Hp:=upd (upd (upd H T.at_ (.tbl #[rawInt T.pos.line,rawInt T.pos.col,.ref c'])) c' (frO oc)) h'.objs.size (frO fo);have gP:H' T.at_=some (.tbl #[rawInt T.pos.line,rawInt T.pos.col,.ref c']):=by show upd _ _ _ _=_;rw[z0c nPf,z0c nPc,z0a]
  have gc:H' c'=some (frO oc):=by show upd _ _ _ _=_;rw[z0c ncf,z0a]
  have gf:H' h'.objs.size=some (frO fo):=z0a;have go:∀{b:Addr},b≠T.at_->b≠c'->b≠h'.objs.size->H' b=H b:=λ{b} n1 n2 n3=>by show upd _ _ _ _=_;rw[z0c n3,z0c n2,z0c n1]
  have gt:∀{b:Addr}{o:HO},b≠T.at_->H b=some o->H' b=some o:=λ{b o} n1 q=>by rw[go n1 (z0h q Hc) (z0h q Hf)];exact q
  have hk:∀b o,b≠T.at_->s.heap.get? b=some o->(h'.push fo).get? b=some o:=λb o n q=>y02 _ (hx b o n q);have I':Inv X pins σ H' { s with heap:=h'.push fo,toks:=tk }:=by
   refine I.un ⟨λb o q n _ _=>hk b o (neP e n) q,λb o q n _ _=>⟨o.slots,hk b o (neP e n) q⟩,λb o q n _=>?_,λb o q _=>?_,λb xs q=>?_,λb o u q=>?_,λb ps q=>?_⟩ (λb u q=>?_)
   .have hb:=y05 q;rw[go (neP e n) (y0i (y0h hb hge)) (y0i (y3q (y0h hb hge) hlt))];exact n
   .by_cases hb:b=T.at_
    .exact⟨_,by rw[hb];exact y02 _ htb⟩
    .exact⟨_,hk b o hb q⟩
   .exact gt (λz=>by rw[z,e]at q;cases q) q
   .exact gt (λz=>by rw[z,e]at q;cases q) q
   .by_cases hb:b=T.at_
    .subst hb;rw[e]at q;cases q;exact⟨#[rawInt T.pos.line,rawInt T.pos.col,.ref c'],by rw[gP];simp⟩
    .exact⟨#[],by rw[gt hb q];simp⟩
   .by_cases hf:b=h'.objs.size
    .subst hf;rw[gf]at q;cases q;exact z5P hfg
    .by_cases hc:b=c'
     .subst hc;rw[gc]at q;cases q;exact z5P (y02 _ hoc)
     .by_cases hb:b=T.at_
      .subst hb;rw[gP]at q;cases q;show(h'.push fo).get? T.at_=some (PySem.W.tabObj _);have:=y02 fo htb;simpa using this
      .rw[go hb hc hf]at q;refine(I.hok b u q).stay (λd o hd q'=>hk d o ?_ q') (λd q'=>gt (λz=>by rw[z,e]at q';cases q') q') λd xs q'=>gt (λz=>by rw[z,e]at q';cases q') q';rcases hd with z|z
       .rw[z];exact hb
       .exact λz'=>by rw[z',e]at z;cases z
  refine⟨.ref h'.objs.size,H',I',rfl,h _ _ ⟨Hf,λb o no q=>gt (λz=>by rw[z,e]at q;exact no _ (y06 q).symm) q,λT' hT'=>?_,_,c',ctv,oc,vs,t,by rw[hfo];exact gf,gc,d1,d2⟩⟩;by_cases hb:T'.at_=T.at_
  .have:=hTn T' hT' hb;subst this;exact .inr ⟨c',oc,vs,t,gP,gc,d1,d2⟩
  .rcases ht T' hT' with q|⟨c3,oc3,vs3,t3,q1,q2,q3⟩
   .exact .inl (gt hb q)
   .exact .inr ⟨c3,oc3,vs3,t3,gt hb q1,gt (λz=>by rw[z,e]at q2;cases q2) q2,q3⟩
 .have hbP:bm≠T.at_:=neP e (I.bs _ _ b4).2;refine PySem.W.kla_makeFunctionHit (mg:=X.mg) (cv:=.ref c') hcl I.ok.glob hns hcode C (tP e) (by simp[TriplesOk,rawInt]) (by simp[codeAmong,rawInt]) ⟨bm,ob,b1,b2,b3,hbP,I.bk _ _ b4,b5,b6,b7⟩ λctv h' tk hk hsz=>?_;have Hf:H h'.objs.size=none:=I.hok.fresh hsz;have gt:∀{b:Addr}{o:HO}{u:HO},H b=some o->upd H h'.objs.size u b=some o:=λq=>by rw[z0c (z0h q Hf)];exact q
  refine⟨.ref h'.objs.size,_,I.laid (a:=h'.objs.size) (o:=frO (PySem.W.kla_obj "<lambda>" T.qual params body lsc (z0w X.env.cells lsc.names []) ((X.mg "__name__").getD .none) c' ctv)) (t':=tk) (λb o q=>y02 _ (hk b o q)) hsz (z5P (y04 _ rfl)),rfl,h _ _ ⟨Hf,λb o _ q=>gt q,λT' hT'=>?_,_,c',ctv,oc,vs,t,z0a,gt ec,d1,d2⟩⟩;rcases ht T' hT' with q|⟨c3,oc3,vs3,t3,q1,q2,q3⟩
  .exact .inl (gt q)
  .exact .inr ⟨c3,oc3,vs3,t3,gt q1,gt q2,q3⟩
def zhV(Ts:List Tb)(params:Arguments)(body:Expr)(lsc:Scope)(qual:Str)(N:List Str)(ix:List (Option Nat))(sp:Sp)(E:XK)(t0:TE):TE:=λσ H Q=>t0 σ H λv0 H1=>z7c Ts H1/\∀(fa:Addr)(H2:Hp)(cs:List Addr)(ob:Addr->Obj),H1 fa=none->(∀b o,(∀ps,o≠.tbl ps)->H1 b=some o->H2 b=some o) ->
 z7c Ts H2->(∀c∈cs,H2 c=none)->(∀c∈cs,∃u,(ob c).data=.cell u)->z2V (z6B H2 cs ob) fa params body lsc qual N (z1Z ix σ)->sp [v0,.ref fa] (z6B H2 cs ob) (λv H3=>Q v (utk H3 cs)) (λe C H3=>E e C (utk H3 cs))
variable{k:Nat}{g:Addr}{gd:FuncData}{ps:List Str}{sp:Sp}{E:XK}{x:Str}{p pos:Pos}{e0:Expr}{t0:TE}
def zcO{CX:CXT}[zkm CX](G:z2d X.prog X.w X.K X.mg X.base CX k g gd ps sp)(hr:z1o k X.A)(hg:Gl X x)(hm:X.mg x=some (.ref g))(hk:PySem.W.keepIn X.K (.ref g)=true)(hb:z19 X.K gd ps [])(hx:z2C CX X E)(h0:PE X e0 t0)(m0:∀σ H (Q Q':VK),(∀v H1,Q v H1->Q' v H1)->t0 σ H Q->t0 σ H Q')(S:z0N X.N X.env.scope N ix lsc)(hcode:X.env.code=.ref c)(hC:PySem.W.CodeHd X.base c T.at_)(hB:z44 X.base X.mg)(hfn:∀y,X.fn y=true)(hT:T∈Ts)(hTn:∀T'∈Ts,T'.at_=T.at_->T'=T)(hTp:T.pos=lpos)(hTq:T.qual=X.env.qual++"<lambda>")(hdef:defaultsOf params X.env=([],[]):=by rfl)(hdb:(x==("__debug__":Str))=false:=by decide)(he:starEach [e0,.Lambda params body lsc lpos] X.env=(false,eval e0 X.env)::starEach [.Lambda params body lsc lpos] X.env:=by rfl)(he2:starEach [.Lambda params body lsc lpos] X.env=(false,eval (.Lambda params body lsc lpos) X.env)::starEach [] X.env:=by rfl)(hpl:(backTo pos (starEach [.Lambda params body lsc lpos] X.env)).any (·.1)=false:=by rfl) : PE X (.Call (.Name x p) [e0,.Lambda params body lsc lpos] [] pos) (zhV Ts params body lsc T.qual N ix sp E t0):=by
 intro pins s σ H Q I h;refine y15 (z23 I hg hm ?_ hdb);have hPA:PA X [e0,.Lambda params body lsc lpos] (zbi t0 (zbi (zld Ts (z0w X.env.cells lsc.names []) params body lsc T.qual) zky)):=z1a h0 (z1a (zgG S hcode hC hB hT hTn hTp hTq hdef) z2z he2) he;refine y1O (h₀:=X.base) I.ok.mod.kin hk (thn (hPA pos pins s σ H (λus H2=>∃(v0:V)(fa:Addr)(H1:Hp),us=[v0,.ref fa]/\(z7c Ts H1/\∀(fa:Addr)(H2:Hp)(cs:List Addr)(ob:Addr->Obj),H1 fa=none->(∀b o,(∀ps,o≠.tbl ps)->H1 b=some o->H2 b=some o) ->
 z7c Ts H2->(∀c∈cs,H2 c=none)->(∀c∈cs,∃u,(ob c).data=.cell u)->z2V (z6B H2 cs ob) fa params body lsc T.qual N (z1Z ix σ)->sp [v0,.ref fa] (z6B H2 cs ob) (λv H3=>Q v (utk H3 cs)) (λe C H3=>E e C (utk H3 cs)))/\zal Ts H1 H2 fa (z0w X.env.cells lsc.names []) params body lsc T.qual) I ?_) λus s2 ⟨vs,H2,I2,r,q⟩=>⟨I2.kIn,?_⟩) he hpl
 .exact m0 σ H _ _ (λv0 H1 ⟨ht,hq⟩=>⟨ht,λfa H' made=>⟨v0,fa,H1,rfl,⟨ht,hq⟩,made⟩⟩) h
 .obtain⟨v0,fa,H1,rfl,⟨ht,hq⟩,mnew,mfr,mtb,pm,c',ctv,oc,vsc,t,m1,m2,m3,m4⟩:=q;let clos:=z0w X.env.cells lsc.names [];let cs:List Addr:=(lsc.names.map (·.1)).filterMap (λy=>List.lookup y clos);let ob:Addr->Obj:=λc=>(s2.heap.get? c).getD { cls:=.none,data:=.plain };have lk:∀{y:Str}{c:Addr},clos.lookup y=some c->X.env.cells.lookup y=some c:=λe=>z1c I2 S e;have mem:∀{c:Addr},c∈cs->∃y,clos.lookup y=some c:=λ{c} hc=>by
   obtain⟨y,_,e⟩:=y2E.mp hc;exact⟨y,e⟩
  have inn:∀y c,clos.lookup y=some c->c∈cs:=λy c e=>by
   refine y2E.mpr ⟨y,?_,e⟩;by_cases hm':(y,NameKind.free)∈lsc.names
   .exact y0f.mpr ⟨_,hm',rfl⟩
   .have:=z2H (cells:=X.env.cells) lsc.names [] y hm';rw[show(z0w X.env.cells lsc.names []).lookup y=some c from e]at this;cases this
  have h1:∀c∈cs,s2.heap.get? c=some (ob c):=λc hc=>by obtain⟨y,e⟩:=mem hc;obtain⟨v,o,ho,_⟩:=I2.cell y c (lk e);show _=some ((s2.heap.get? c).getD _);rw[ho];rfl
  have h2:∀c∈cs,H2 c=none:=λc hc=>by obtain⟨y,e⟩:=mem hc;exact I2.freeC y c (lk e)
  have h3:∀c∈cs,c∉frs X.stack/\X.base.get? c=none:=λc hc=>by obtain⟨y,e⟩:=mem hc;exact I2.cellFree (lk e) (I2.ok.cab y c (hfn y) (lk e))
  have out:∀{b:Addr}{o:HO},H2 b=some o->b∉cs:=λ{b o} e z=>by rw[h2 b z]at e;cases e
  have tr:∀{b:Addr}{o:HO},H2 b=some o->z6B H2 cs ob b=some o:=λe=>by rw[z0J (out e)];exact e
  have hcl:∀c∈cs,∃u,(ob c).data=.cell u:=λc hc=>by obtain⟨y,e⟩:=mem hc;obtain⟨v,o,ho,hd⟩:=I2.cell y c (lk e);refine⟨v,?_⟩;show((s2.heap.get? c).getD _).data=_;rw[ho];exact hd
  have spq:=hq fa H2 cs ob mnew mfr mtb h2 hcl ?_
  .refine y2l (y1N (G.run X.A X.stack s2 (z6B H2 cs ob) ⟨us,[]⟩ us [v0,.ref fa] _ _ hr (I2.env0T h1 h2 h3) (by have:=hb s2 us I2.kIn (by rw[y0n,<-r.length];exact G.len _ _ _ _ spq);rw[y0n]at this;exact this) r spq) λr s' hq=>?_);cases r with
   |error e=>exact hx pins σ H2 s2 e s' I2 (zkm.cut h1 h2 (λc hc=>(h3 c hc).1) hq)
   |ok fl =>
    cases fl with
    |ret u=>exact I2.afterT h1 h2 h3 hq
    |next=>exact False.elim hq
    |brk=>exact False.elim hq
    |cont=>exact False.elim hq
  .refine⟨clos,cs,pm,c',ctv,oc,vsc,t,tr m1,tr m2,m3,m4,λy z c e1 e2=>I2.ok.inj y z c (lk e1) (lk e2),inn,λc hc=>⟨mem hc,?_⟩,λy hy=>?_,λi y v e1 e2=>?_⟩
   .obtain⟨y,e⟩:=mem hc;obtain⟨v,o,ho,hd⟩:=I2.cell y c (lk e);refine⟨ob c,v,z3n hc,?_⟩;have:=h1 c hc;rw[ho]at this;rw[<-y06 this];exact hd
   .have hm':(y,NameKind.free)∈lsc.names:=y0V hy;obtain⟨c,e⟩:=z0z I2 S y hm';exact⟨c,(z1s lsc.names [] y (z0z I2 S) (.inl hm')).trans e⟩
   .obtain⟨j,f1,f2,f3⟩:=S.at_ e1 e2;have hm':(y,NameKind.free)∈lsc.names:=y0V f2;obtain⟨m,hn,hl⟩:=I2.loc;have hvis:=S.frees _ hm' rfl;obtain⟨u,ru,look⟩:=hl j y v f1 f3 (.inr hvis);rcases look with⟨hk',_⟩|⟨_,c,ec,cell⟩
    .have hk'':X.env.scope.names.lookup y=some .local:=hk';rcases hvis with z|z
     .rw[z]at hk'';cases hk''
     .rw[z]at hk'';cases hk''
    .have hcl:clos.lookup y=some c:=(z1s lsc.names [] y (z0z I2 S) (.inl hm')).trans ec;have hc:=inn y c hcl;obtain⟨o,ho,hd⟩:=cell;refine⟨c,ob c,u,hcl,z3n hc,?_,ru⟩;have:=h1 c hc;rw[ho]at this;rw[<-y06 this];exact hd
end
def NFr(H H':Hp):Prop:=∀b o,(∀ob,o≠frO ob)->H b=some o->H' b=some o
theorem NFr.utk{H H3:Hp}{cs:List Addr}(hc:∀c∈cs,∃ob,H c=some (frO ob))(s:Same H H3):NFr H3 (L2.utk H3 cs):=λb o n e=>z6Z (λc h=>let⟨ob,q⟩:=hc c h;⟨ob,s _ _ q⟩) e n
def Fun.okL{CX:CXT}{P:Program}{w:World}{K:yyF}{mg:yyS}{base:Heap}{x qual:Str}{st:Stmt}{f c:Addr}{fd:FuncData}{N ps:List Str}{k:Nat}{sp:Sp}(F:Fun K x qual st f fd)(hc:fd.code=.ref c)(S:z1d N ps (z07 st))(len:∀vs H Q E,sp vs H Q E->vs.length=ps.length)(hbody:∀(A:Around)(outer:List Env)(s:Shared)(H:Hp)(vs:List V)(Q:VK)(E:XK),z1o k (A.deeper (envOfC qual (z07 st) s.heap.objs.size f (.ref c)))->sp vs H Q E -> ∃t,PSs (z2a CX P w K mg base N qual (z07 st) f (.ref c) A outer s H E) (z0v st) t/\t { nx:=λ_ H'=>Q .non H',rt:=Q } (start N vs) H):z2d P w K mg base CX (k+1) f fd ps sp:=by obtain⟨oc,od,kV,doc,pm,an,cdv,ct,osl,rfl,lk,hcd⟩:=F.ex;have:cdv=.ref c:=hc;subst this;exact zgB lk hcd S len λA outer s H vs Q E hr hsp=>hbody A outer s H vs Q E hr hsp
def z9g{P:Program}{w:World}{K:yyF}{mg mb:yyS}{CX:CXT}{k:Nat}{fa a:Addr}{fd:FuncData}{x:Str}{sp:Sp}{s₁:Shared}{vs:List Value}{ns:List Int}{Ts:List Tb}(KX:K.In s₁.heap)(hns:s₁.heap.Ns mainGlobals mg)(hb:s₁.heap.Ns builtinsNs mb)(hbb:∀x:Str,x≠"__name__"->mb x=bootBuiltins x)(hlim:s₁.heap.NoLimit)(hg:s₁.gens=#[])(ha:s₁.heap.get? a=some { cls:=.type "list",data:=.seq vs.toArray })(hi:IntsAre vs ns)(hl:ns.length<=sizeLine)(hr:z1o k callerA)(hT:∀T∈Ts,s₁.heap.get? T.at_=some (PySem.W.tabObj #[])/\K.lookup T.at_=none/\∃c,PySem.W.CodeHd s₁.heap c T.at_)(hbm:z44 s₁.heap mg)(F:∀base:Heap,K.In base->base.Ns mainGlobals mg->z44 base mg->z2d P w K mg base CX k fa fd [x] sp)(hbind:∀(s:Shared) (u:Value),BindsTo s fd ⟨[u],[]⟩ [(x,u)])(hsp:∀H:Hp,z7c Ts H->SqL K H a (ns.map V.int)->sp [.ref a] H (λv _=>v=.bl true) λ_ _ _=>False)(hCX:∀H e s',CX [] H s₁ (λ_ _ _=>False) e s'->False) : codeAny (model P w) callerA (.call (.ref fa) ⟨[.ref a],[]⟩) (λr s'=>r=.ok (.ret (.bool true))/\OldK s₁.heap s'.heap/\s'.os=s₁.os/\AllBare s'.gens) s₁:=by
 have rv:=z5F hi;have lenV:=hi.length;have isT:∀b,(∃T∈Ts,T.at_=b)->s₁.heap.get? b=some (PySem.W.tabObj #[])/\K.lookup b=none/\∃c,PySem.W.CodeHd s₁.heap c b:=λb ⟨T,hT1,e⟩=>e▸hT T hT1;have core:∀H:Hp,z7c Ts H->SqL K H a (ns.map V.int)->HOk P w H s₁.heap->(∀b,H b≠none->(b=a/\K.lookup a=none/\∃o xs,H b=some (.frz o (.lst xs)))\/((∃T∈Ts,T.at_=b)/\H b=some (.tbl #[]))) ->
   codeAny (model P w) callerA (.call (.ref fa) ⟨[.ref a],[]⟩) (λr s'=>r=.ok (.ret (.bool true))/\OldK s₁.heap s'.heap/\s'.os=s₁.os/\AllBare s'.gens) s₁:=by
  intro H hO hS hok hA;have base_of:∀{b:Addr}{o:Obj},s₁.heap.get? b=some o->H b=none->(zbD s₁.heap H).get? b=some o:=λe n=>zcF e n;have noA:∀{b:Addr}{o:Obj},s₁.heap.get? b=some o->(∀xs,o.data≠.seq xs)->(∀xs,o.data≠.fields xs)->H b=none:=λ{b o} e d1 d2=>by
   cases q:H b with
   |none=>rfl
   |some u =>
    rcases hA b (by rw[q];simp)with⟨e',_⟩|⟨e',_⟩
    .subst e';rw[ha]at e;cases e;exact absurd rfl (d1 _)
    .rw[(isT b e').1]at e;cases e;exact absurd rfl (d2 _)
  have nsK:∀{b:Addr}{m:yyS},s₁.heap.Ns b m->(zbD s₁.heap H).Ns b m:=λ{b m} ⟨o,es,ep,e,d,r⟩=>⟨o,es,ep,base_of e (noA e (λxs z=>by rw[z]at d;cases d) (λxs z=>by rw[z]at d;cases d)),d,r⟩;have hKb:K.In (zbD s₁.heap H):=λb o e=>base_of (KX b o e) (by
   cases q:H b with
   |none=>rfl
   |some u =>
    rcases hA b (by rw[q];simp)with⟨e',hk,_⟩|⟨e',_⟩
    .subst e';rw[hk]at e;cases e
    .rw[(isT b e').2.1]at e;cases e)
  have hM:Mod K mg (zbD s₁.heap H):=⟨hKb,nsK hns,⟨mb,nsK hb,hbb⟩,let⟨mc,h1,h2⟩:=hlim;⟨mc,nsK h1,h2⟩⟩;have hBM:z44 (zbD s₁.heap H) mg:=by obtain⟨bm,o,b1,b2,b3,b4,b5,b6,b7⟩:=hbm;exact⟨bm,o,b1,b2,b3,base_of b4 (noA b4 (λxs z=>by rw[z]at b7;cases b7) (λxs z=>by rw[z]at b7;cases b7)),b5,b6,b7⟩
  have e0:zaA P w K mg (zbD s₁.heap H) callerA [] s₁ H:=⟨rfl,hM,λb o e=>zfG e,y30 (zbh _ _),trivial,λb hb=>absurd (show b∈([]:List Addr)from hb) (by simp),hok,.of_eq hg⟩;refine y1N ((F _ hKb (nsK hns) hBM).run callerA [] s₁ H ⟨[.ref a],[]⟩ [.ref a] [.ref a] _ _ hr e0 (hbind s₁ (.ref a)) (.cons rfl .nil) (hsp H hO hS)) λr s' h=>?_;cases r with
  |error e=>exact(hCX H e s' h).elim
  |ok fl =>
   cases fl with
   |next=>exact False.elim h
   |brk=>exact False.elim h
   |cont=>exact False.elim h
   |ret u =>
    obtain⟨v,H',os,bare,un,hok',r',q⟩:=h;have q':v=.bl true:=q;subst q';obtain rfl:u=Value.bool true:=r';have key:∀b o,s₁.heap.get? b=some o->s'.heap.get? b=some o\/((∃T∈Ts,T.at_=b)/\∃more,s'.heap.get? b=some (PySem.W.tabObj (#[]++more))):=λb o e=>by
     cases q:H b with
     |none=>exact .inl (un.keep b o e q (by intro z;exact absurd (show b∈([]:List Addr)from z) (by simp)) (by simp))
     |some u =>
      rcases hA b (by rw[q];simp)with⟨_,_,ob,xs,z⟩|⟨e',z⟩
      .have z2:=un.frzs b ob _ z;obtain⟨e1,_⟩:=hok b _ z;obtain⟨e2,_⟩:=hok' b _ z2;rw[e]at e1;cases e1;exact .inl e2
      .obtain⟨more,z2⟩:=un.tbls b #[] z;exact .inr ⟨e',more,hok' b _ z2⟩
    refine⟨rfl,⟨λb o e=>?_,λb o e=>?_⟩,os,bare⟩
    .rcases key b o e with z|⟨e',more,z⟩
     .exact .inl z
     .obtain⟨h1,_,c,hc⟩:=isT b e';rw[e]at h1;cases h1;refine .inr (.inl ⟨?_,rfl,#[],more,rfl,z⟩);obtain⟨o,vs,_,_,_,_,_,_,_,g1,g2,g3,g4,_⟩:=hc;exact⟨c,o,vs,g1,g2,g3,g4⟩
    .rcases key b o e with z|⟨e',more,z⟩
     .exact⟨_,z⟩
     .exact⟨_,z⟩
 have naT:∀T∈Ts,T.at_≠a:=λT h z=>by have:=(hT T h).1;rw[z,ha]at this;cases this
 open Classical in
 cases hk:K.lookup a with
 |some o =>
  have e:=KX a o hk;rw[ha]at e;cases e;refine core (λb=>if(∃T∈Ts,T.at_=b)then some (.tbl #[])else none) (λT h=>.inl (if_pos ⟨T,h,rfl⟩)) (.inr ⟨_,vs.toArray,_,hk,rfl,rfl,rfl,by rw[y0g,lenV];exact hl,by simpa using rv⟩) (λb u z=>?_) λb z=>?_
  .by_cases hb:∃T∈Ts,T.at_=b
   .have z':=(if_pos hb).symm.trans z;cases z';exact(isT b hb).1
   .have z':=(if_neg hb).symm.trans z;cases z'
  .by_cases hb:∃T∈Ts,T.at_=b
   .exact .inr ⟨hb,if_pos hb⟩
   .exact absurd (if_neg hb) z
 |none =>
  have cA:∀b,b=a->(if b=a then some (HO.frz { cls:=.type "list",data:=.seq vs.toArray } (.lst (ns.map V.int)))else if(∃T∈Ts,T.at_=b)then some (.tbl #[])else none)=some (HO.frz { cls:=.type "list",data:=.seq vs.toArray } (.lst (ns.map V.int))):=λb e=>if_pos e;have cT:∀b,b≠a->(∃T∈Ts,T.at_=b)->(if b=a then some (HO.frz { cls:=.type "list",data:=.seq vs.toArray } (.lst (ns.map V.int)))else if(∃T∈Ts,T.at_=b)then some (.tbl #[])else none)=some (.tbl #[]):=λb e h=>by rw[if_neg e,if_pos h]
  have cN:∀b,b≠a->¬(∃T∈Ts,T.at_=b)->(if b=a then some (HO.frz { cls:=.type "list",data:=.seq vs.toArray } (.lst (ns.map V.int)))else if(∃T∈Ts,T.at_=b)then some (.tbl #[])else none)=none:=λb e h=>by rw[if_neg e,if_neg h]
  refine core (λb=>if b=a then some (.frz { cls:=.type "list",data:=.seq vs.toArray } (.lst (ns.map V.int)))else if(∃T∈Ts,T.at_=b)then some (.tbl #[])else none) (λT h=>.inl (cT _ (naT T h) ⟨T,h,rfl⟩)) (.inl (.inr ⟨{ cls:=.type "list",data:=.seq vs.toArray },if_pos rfl⟩)) (λb u z=>?_) (λb z=>?_)
  .by_cases hb:b=a
   .have z':=(cA b hb).symm.trans z;cases z';subst hb;exact⟨ha,by rw[y01];exact hl,vs,_,rv,ha⟩
   .by_cases hb2:∃T∈Ts,T.at_=b
    .have z':=(cT b hb hb2).symm.trans z;cases z';exact(isT b hb2).1
    .have z':=(cN b hb hb2).symm.trans z;cases z'
  .by_cases hb:b=a
   .exact .inl ⟨hb,hk,_,_,cA b hb⟩
   .by_cases hb2:∃T∈Ts,T.at_=b
    .exact .inr ⟨hb2,cT b hb hb2⟩
    .exact absurd (cN b hb hb2) z
def walk_of2{l:PySem.W.OpenLaw}{n k:Nat}{q:Program}{loose:List Str}{XP:(yyS)->Heap->Prop}{YP:World->Heap->Prop}{d:DefRec}{K:Params->yyF}{CX:World->CXT}{sp:World->Sp}{x:Str}{Ts:List Tb}(hn:l.most=some n)(hn2:n<=sizeLine)(hdf:d.params.defaults=[])(hr:z1o k callerA)(hY:∀(w:World)(h:Heap),YP w h->(K w.params).In h/\∀P∈Ts.map (·.at_),h.get? P=some (PySem.W.tabObj #[]))(F:∀(w:World)(mg:yyS)(fa:Addr)(h:Heap),(K w.params).In h->h.Ns mainGlobals mg->mg d.name=some (.ref fa) -> ∃fd:FuncData,(∀(s:Shared)(u:Value),BindsTo s fd ⟨[u],[]⟩ [(x,u)])/\(∀T∈Ts,(K w.params).lookup T.at_=none/\∃c,PySem.W.codeHdIn (K w.params) c T.at_=true) /\ ∀base:Heap,(K w.params).In base->base.Ns mainGlobals mg->z44 base mg->z2d l.prog w (K w.params) mg base (CX w) k fa fd [x] (sp w))(hsp:∀(w:World)(H:Hp)(a:Addr)(ns:List Int),ns.length<=n->z7c Ts H->SqL (K w.params) H a (ns.map V.int)->sp w [.ref a] H (λv _=>v=.bl true) λ_ _ _=>False)(hCX:∀(w:World)(H:Hp)(s:Shared)(e:Value)(s':Shared),CX w [] H s (λ_ _ _=>False) e s'->False) : PySem.W.WalkO q loose XP YP l.row.toRowW d [] (λf vs=>PySem.call f vs):=by
 refine Att.attach_call hn hdf λw s₀ s₁ mg mb fa o pm cd doc a vs ns G Y ho hd hcd hmg hobj hints hlen hg=>?_;obtain⟨KX,hTb⟩:=hY w _ Y;obtain⟨fd,hb,hT,hF⟩:=F w mg fa _ KX G.T.g hmg;refine z9g (Ts:=Ts) KX G.T.g G.T.b G.T.builtins G.T.nolimit hg hobj hints (y0e hlen hn2) hr (λT h=>⟨hTb _ (y0f.mpr ⟨T,h,rfl⟩),(hT T h).1,?_⟩) ?_ hF hb (λH hO hS=>hsp w H a ns hlen hO hS) λH e s'=>hCX w H s₁ e s'
 .obtain⟨c,e⟩:=(hT T h).2;exact⟨c,PySem.W.codeHd_of_K KX e⟩
 .obtain⟨bm,ob,b1,b2,b3,b4,b5,b6⟩:=G.T.bmain;refine⟨bm,ob,b1,b2,λz=>?_,b3,b4,b5,b6⟩;obtain⟨o,es,ep,e,d,_⟩:=G.T.g;rw[z]at b3;rw[b3]at e;cases e;rw[b6]at d;cases d
def zeJ{Ts:List Tb}{T:Tb}(h:(Ts.map (·.at_)).Nodup)(hT:T∈Ts):∀T'∈Ts,T'.at_=T.at_->T'=T:=by
 induction Ts with
 |nil=>cases hT
 |cons a r ih =>
  rw[y0o,y1l]at h;intro T' hT' e;rcases y0k.mp hT with z|z
  .rcases y0k.mp hT' with y|y
   .rw[y,z]
   .exact absurd (y0f.mpr ⟨T',y,by rw[e,z]⟩) h.1
  .rcases y0k.mp hT' with y|y
   .exact absurd (y0f.mpr ⟨T,z,by rw[<-e,y]⟩) h.1
   .exact ih h.2 z T' y e
end L2
namespace Gu
open PySem L2
def z8n(Ts:List Tb)(K:yyF):Sp:=λvs H Q _=>∃(a:Addr)(ns:List Int),vs=[.ref a]/\SqL K H a (ns.map V.int)/\ns.length<=63/\z7c Ts H/\∀H',Q (.bl true) H'
def z9a:List Stmt->Pos
 |[.Return (some (.Call _ [_,.Lambda _ _ _ p] _ _)) _]=>p
 |_::r=>z9a r
 |[]=>⟨0,0,0,0⟩
end Gu
namespace L2
open PySem PySem.Spec PyProof.Rows
def z5D.lam2{CX:CXT}{P:Program}{w:World}{K:yyF}{mg:yyS}{base:Heap}{k:Nat}{H:Hp}{f:Addr}{params:Arguments}{body:Expr}{scope:Scope}{qual:Str}{N ps:List Str}{fv:St}{sp:List V->Hp->VK->Prop}(C:z2V H f params body scope qual N fv)(S:zj2 N ps scope)(hbind:∀(cl:List (Str × Addr)) (pm cdv ct:Value) (us:List Value),us.length=ps.length->bindArgs (PySem.W.kla_fn "<lambda>" qual params body scope cl pm cdv ct) ⟨us,[]⟩=pure (ps.zip us))(hfv:fv.length=N.length)(len:∀vs H Q,sp vs H Q->vs.length=ps.length)(hbody:∀(H':Hp),Same H H'->∀(A:Around) (outer:List Env) (s:Shared) (cd:Value) (clos:List (Str × Addr)) (cs:List Addr) (vs:List V) (Q:VK),z1o k (A.deeper (PySem.W.envX qual scope s.heap.objs.size f cd clos))->NFr H' (utk H' cs)->(∀c∈cs,∃o u,H' c=some (frO o)/\o.data=.cell u)->sp vs H' Q -> ∃t,PE (zay P w K mg base N qual scope f cd clos A outer s (utk H' cs)) body t/\t (z4S vs fv) (utk H' cs) λv H1=>(∀c∈cs,H1 c=none)->Q v (rtk H' H1 cs)):z5D P w K mg base CX (k+1) H f sp:=by obtain⟨clos,cs,pm,c',ctv,oc,vs',t,e1,_⟩:=id C;refine⟨⟨_,_,e1,rfl⟩,λH' s' A outer s us vs Q hr e0 r hsp=>?_⟩;exact zga (C.mono s') S hbind hfv hr e0 r (len _ _ _ hsp) λcd clos cs hr' hcs=>hbody H' s' A outer s cd clos cs vs Q hr' (NFr.utk (λc hc=>let⟨o,_,q,_⟩:=hcs c hc;⟨o,q⟩) (Same.refl _)) hcs hsp
end L2
namespace Gu
open PySem L2
def goW(M:List Row):Int->List Int->Int
 |x,[]=>x
 |x,l::w=>goW M ((row M x).2.getD l.toNat 0) w
theorem z74(M:List Row):∀(w w':List Int)(x:Int),goW M x (w++w')=goW M (goW M x w) w'
 |[],_,_=>rfl
 |l::w,w',x=>z74 M w w' _
def LW(n:Nat)(w:List Int):Prop:=∀l∈w,0<=l/\l<(n:Int)
def LW.tail{n:Nat}{l:Int}{w:List Int}(h:LW n (l::w)):LW n w:=λx hx=>h x (y0d _ hx)
theorem z9f{n:Nat}{M:List Row}{C:Int->Prop}(hl:∀x,C x->(row M x).2.length=n)(hc:∀x,C x->∀g∈(row M x).2,C g):∀(w:List Int)(x:Int),LW n w->C x->C (goW M x w)
 |[],_,_,h=>h
 |l::w,x,hw,h=>by
  obtain⟨l0,l1⟩:=hw l y0p;have hi:l.toNat<(row M x).2.length:=by rw[hl x h];lia
  refine z9f hl hc w _ hw.tail ?_;rw[y08,y0a hi];exact hc x h _ (y1J hi)
def zdG{n:Nat}{M:List Row}(G:z1n n M){w:List Int}{x:Int}(hw:LW n w)(h0:0<=x)(h1:x<(M.length:Int)):0<=goW M x w/\goW M x w<(M.length:Int) :=
 z9f (n:=n) (C:=λx=>0<=x/\x<(M.length:Int)) (λx hx=>G.len _ (z1D hx.1 hx.2)) (λx hx=>G.go _ (z1D hx.1 hx.2)) w x hw ⟨h0,h1⟩
end Gu
namespace L2
open PySem PySem.Spec PyProof.Rows
def z2d.sub{P:Program}{w:World}{K:yyF}{mg:yyS}{base:Heap}{CX:CXT}{k:Nat}{f:Addr}{fd:FuncData}{ps:List Str}{sp sp':Sp}(h:z2d P w K mg base CX k f fd ps sp)(i:∀vs H Q E,sp' vs H Q E->sp vs H Q E):z2d P w K mg base CX k f fd ps sp' :=
 { h with len:=λvs H Q E q=>h.len vs H Q E (i vs H Q E q),run:=λA outer s H args us vs Q E hr e0 b r q=>h.run A outer s H args us vs Q E hr e0 b r (i vs H Q E q) }
structure ZA(z TI TO i1 i2:Addr)(fp1 fp2:List Addr):Prop where
 TIz:TI≠z
 TOz:TO≠z
 i1z:i1≠z
 i2z:i2≠z
 TITO:TI≠TO
 TIi1:TI≠i1
 TIi2:TI≠i2
 TOi1:TO≠i1
 TOi2:TO≠i2
 i12:i1≠i2
 f1z:z∉fp1
 f1T:TO∉fp1
 f1i:i2∉fp1
 f2z:z∉fp2
 f2T:TO∉fp2
 f2i:i1∉fp2
section
variable{prog:Program}{w:World}{A:Around}{E:yyE}{s:Shared}{z TI TO i1 i2:Addr}{fp1 fp2:List Addr}{n1 n2:Nat}{P1 P2:Nat->Value->Prop}{S1 S2:Nat->Heap->Prop}
def ndr{it:Addr}{fp:List Addr}{n:Nat}{P:Nat->Value->Prop}{St:Nat->Heap->Prop}(D:Draws prog w A it fp n P St){i:Nat}{h h':Heap}{a:Addr}(st:St i h)(hs:Heap.SameBut a h h')(ha:a∉fp):St i h' :=
 D.frame i h h' st λb hb o e=>hs.extBut b o (λq=>ha (q▸hb)) e
def z9x{k1 k2:Nat}{a b:Value}{Q:yyE}(D1:Draws prog w A i1 fp1 n1 P1 S1)(D2:Draws prog w A i2 fp2 n2 P2 S2)(Z:ZA z TI TO i1 i2 fp1 fp2)(hz:IsZip s.heap z TI TO .none)(hTI:IsPair s.heap TI (.ref i1) (.ref i2))(hTO:IsPair s.heap TO a b)(t1:S1 k1 s.heap)(t2:S2 k2 s.heap)(l1:k1<n1)(l2:k2<n2)(hQ:∀x y h' tk,P1 k1 x->P2 k2 y->IsZip h' z TI TO (rawInt s.heap.objs.size)->IsPair h' TO x y->S1 (k1+1) h'->S2 (k2+1) h'->IsPair h' s.heap.objs.size x y -> (∀c o,c≠z->c≠TO->c≠i1->c≠i2->s.heap.get? c=some o->h'.get? c=some o)->Q (.ref s.heap.objs.size) { s with heap:=h',toks:=tk }) : wpAny (model prog w) A (Builtin.«zip.__next__» ⟨[.ref z],[]⟩) (λfin s'=>∃v,fin=.done (.ret v)/\Q v s') E s:=by
 show wpAny _ _ (field (.ref z) 2>>=_) _ _ _;refine y00 (y14 hz rfl (x:=.bool false) rfl ?_);show wpAny _ _ (field (.ref z) 3>>=_) _ _ _;refine y00 (y14 hz rfl (x:=.ref TI) rfl (y00 (y1Q hTI rfl ?_)));show wpAny _ _ (Builtin.SmallTypes.ownedTupleIsFree (.ref z)>>=_) _ _ _;refine y00 ?_;unfold Builtin.SmallTypes.ownedTupleIsFree;refine y00 (y14 hz rfl (x:=.none) rfl (y03 ?_));simp only[if_true];refine y00 (wpAny_rule (y00 (y14 hz rfl (x:=.ref TO) rfl (y00 (y2b hz (by simp) λha za sa=>?_)))));replace za:IsZip ha z TI TO .ellipsis:=za;refine y00 ?_;simp only[List.zipIdx_cons,List.zipIdx_nil,y1U,List.forIn_nil];refine y00 (y00 (wpAny_onRaise ?_));show wpAny _ _ (Builtin.SmallTypes.nextOf (.ref i1)>>=_) _ _ _;refine y00 (D1.item k1 _ _ _ l1 (ndr D1 t1 sa Z.f1z) λx hb tb px t1b sb=>y03 ?_);have Tb:IsPair hb TO a b:=sb.extBut _ _ Z.TOi1 (sa.extBut _ _ Z.TOz hTO);refine y00 (y1Q Tb rfl (y00 (wpAny_updateSeq_pair Tb λhc Tc sc=>?_)));replace Tc:IsPair hc TO x b:=Tc;refine y00 (wpAny_letGo (y03 ?_));refine y00 (y00 (wpAny_onRaise ?_));show wpAny _ _ (Builtin.SmallTypes.nextOf (.ref i2)>>=_) _ _ _;refine y00 (D2.item k2 _ _ _ l2 (ndr D2 (ndr D2 (ndr D2 t2 sa Z.f2z) sb Z.f2i) sc Z.f2T) λy hd td py t2d sd=>y03 ?_);have Td:IsPair hd TO x b:=sd.extBut _ _ Z.TOi2 Tc;refine y00 (y1Q Td rfl (y00 (wpAny_updateSeq_pair Td λhe Te se=>?_)));replace Te:IsPair he TO x y:=Te;refine y00 (wpAny_letGo (y03 (y03 ?_)));refine y00 (y1Q Te rfl (y00 (wpAny_newTuple ?_)));have hsz:he.objs.size=s.heap.objs.size:=by rw[se.1,sd.1,sc.1,sb.1,sa.1]
 have ze:IsZip he z TI TO .ellipsis:=se.extBut _ _ Z.TOz.symm (sd.extBut _ _ Z.i2z.symm (sc.extBut _ _ Z.TOz.symm (sb.extBut _ _ Z.i1z.symm za)));have ke:∀c o,c≠z->c≠TO->c≠i1->c≠i2->s.heap.get? c=some o->he.get? c=some o:=λc o c1 c2 c3 c4 e=>se.extBut _ _ c2 (sd.extBut _ _ c4 (sc.extBut _ _ c2 (sb.extBut _ _ c3 (sa.extBut _ _ c1 e))));have t1e:=ndr D1 (ndr D1 (ndr D1 t1b sc Z.f1T) sd Z.f1i) se Z.f1T;have t2e:=ndr D2 t2d se Z.f2T;have zlt:z<he.objs.size:=y05 ze;show wpAny _ _ (Builtin.SmallTypes.ownedTupleHandOut (.ref z) (.ref he.objs.size)>>=_) _ _ _;refine y00 ?_;unfold Builtin.SmallTypes.ownedTupleHandOut;have zf:IsZip (he.push { cls:=.type "tuple",data:=.seq #[x,y] }) z TI TO .ellipsis:=y02 _ ze;refine y00 (y2b zf (by simp) λhg zg sg=>?_);replace zg:IsZip hg z TI TO (rawInt he.objs.size):=zg;refine y2b zg (by simp) λhh zh sh=>?_;replace zh:IsZip hh z TI TO (rawInt he.objs.size):=zh;have up:∀c o,c≠z->he.get? c=some o->hh.get? c=some o:=λc o c1 e=>sh.extBut _ _ c1 (sg.extBut _ _ c1 (y02 _ e));have pr:IsPair hh he.objs.size x y:=sh.extBut _ _ (y3o zlt) (sg.extBut _ _ (y3o zlt) (y04 _ rfl));rw[hsz]at zh pr;refine y03 ⟨_,rfl,?_⟩;show Q (.ref he.objs.size) _;rw[hsz];exact hQ x y hh _ px py zh (up _ _ Z.TOz Te) (D1.frame _ _ _ t1e λb hb o e=>up b o (λq=>Z.f1z (q▸hb)) e) (D2.frame _ _ _ t2e λb hb o e=>up b o (λq=>Z.f2z (q▸hb)) e) pr λc o c1 c2 c3 c4 e=>up c o c1 (ke c o c1 c2 c3 c4 e)
def zcg{a b:Value}{Q:Fin->Shared->Prop}(D1:Draws prog w A i1 fp1 n1 P1 S1)(Z:ZA z TI TO i1 i2 fp1 fp2)(hz:IsZip s.heap z TI TO .none)(hTI:IsPair s.heap TI (.ref i1) (.ref i2))(hTO:IsPair s.heap TO a b)(t1:S1 n1 s.heap)(hE:∀h' e,(∀c o,c≠z->c≠TO->c≠i1->c≠i2->s.heap.get? c=some o->h'.get? c=some o)->(∃o,h'.get? e=some o/\o.cls=.type "StopIteration")->E (.ref e) { s with heap:=h' }) : wpAny (model prog w) A (Builtin.«zip.__next__» ⟨[.ref z],[]⟩) Q E s:=by
 show wpAny _ _ (field (.ref z) 2>>=_) _ _ _;refine y00 (y14 hz rfl (x:=.bool false) rfl ?_);show wpAny _ _ (field (.ref z) 3>>=_) _ _ _;refine y00 (y14 hz rfl (x:=.ref TI) rfl (y00 (y1Q hTI rfl ?_)));show wpAny _ _ (Builtin.SmallTypes.ownedTupleIsFree (.ref z)>>=_) _ _ _;refine y00 ?_;unfold Builtin.SmallTypes.ownedTupleIsFree;refine y00 (y14 hz rfl (x:=.none) rfl (y03 ?_));simp only[if_true];refine y00 (wpAny_rule (y00 (y14 hz rfl (x:=.ref TO) rfl (y00 (y2b hz (by simp) λha za sa=>?_)))));replace za:IsZip ha z TI TO .ellipsis:=za;refine y00 ?_;simp only[List.zipIdx_cons,List.zipIdx_nil,y1U,List.forIn_nil];refine y00 (y00 (wpAny_onRaise ?_));show wpAny _ _ (Builtin.SmallTypes.nextOf (.ref i1)>>=_) _ _ _;refine y00 (D1.done _ _ _ (ndr D1 t1 sa Z.f1z) λhb e sb he=>?_);obtain⟨oe,hoe,hce⟩:=he;have zb:IsZip hb z TI TO .ellipsis:=sb _ _ Z.i1z.symm za;have hez:e≠z:=λx=>by subst x;rw[zb]at hoe;cases hoe;simp at hce
 exact y2b zb (by simp) λhc _ sc=>hE hc e (λc o c1 _ c3 _ x=>sc.extBut _ _ c1 (sb _ _ c3 (sa.extBut _ _ c1 x))) ⟨oe,sc.extBut _ _ hez hoe,hce⟩
end
end L2
namespace Gu
open PySem L2
def z3L{r:List Int}{s i:Nat}(h:i<s):(r.take s).getD i 0=r.getD i 0:=by rw[y08,y2L,if_pos h,<-y08]
def z9P{r:List Int}{s:Nat}(hs:0<s)(hle:s<=r.length)(hd:s ∣ r.length):(List.replicate (r.length/s) (r.take s)).flatten=r↔Per r s:=by
 have lt:(r.take s).length=s:=by rw[y0I];lia
 have e1:r.length/s*s=r.length:=Nat.div_mul_cancel hd;have lf:(List.replicate (r.length/s) (r.take s)).flatten.length=r.length:=by rw[zc3,lt,e1]
 have g:∀i,i<r.length->(List.replicate (r.length/s) (r.take s)).flatten.getD i 0=r.getD (i%s) 0:=λi hi=>by rw[z5M _ _ _ (by rw[lt,e1];exact hi),lt,z3L (y1K _ hs)]
 constructor
 .intro h;rw[h]at g;exact z8v hd g
 .intro h;refine y24 lf λi h1 h2=>?_;have a:=g i h2;rw[<-z5c h hs i h2,z18 h1,z18 h2]at a;exact a
def zg8{r:List Int}:Per r r.length:=⟨Nat.dvd_refl _,λi hi=>by lia⟩
def zbo{α:Type}{xs:List α}{c:Nat}(h:c<xs.length):atI xs (-1-(c:Int))=xs[xs.length-1-c]?:=by
 have e:ixN xs.length (-1-(c:Int))=some (xs.length-1-c):=by unfold ixN;rw[if_neg (by lia),if_pos (by lia)];congr 1;lia
 unfold atI;rw[e];rfl
def z76{b r:List Int}{s c:Nat}(hs:0<s)(h:z4s b (r.take s) s c):z4s b r s c:=by have g:∀j,(r.take s).getD (s-1-j%s) 0=r.getD (s-1-j%s) 0:=λj=>z3L (by have:=y1K j hs;lia);exact⟨h.le,λj hj=>by rw[h.eq j hj,g],by have:=h.no;rw[g]at this;exact this⟩
def zdg{r:List Int}{s c:Nat}(hs:0<s)(hle:s<=r.length):(r.take s).drop (s-c%s)++(r.take s).take (s-c%s)=(z27 s).map λk=>r.getD ((k-(c:Int))%(s:Int)).toNat 0:=by
 have hm:c%s<s:=y1K _ hs;have lt:(r.take s).length=s:=by rw[y0I];lia
 have e2:∀i:Nat,(((i:Int)-(c:Int))%(s:Int))=(((s-c%s+i)%s:Nat):Int):=λi=>by
  rw[y2r];have e3:((s-c%s+i:Nat):Int)=((i:Int)-(c:Int))+(s:Int)*(((c/s:Nat):Int)+1):=by
   have:=y3l c s;have e4:(c:Int)=((c%s:Nat):Int)+(s:Int)*((c/s:Nat):Int):=by rw[<-y3m,<-Int.natCast_add,this]
   rw[Int.mul_add,Int.mul_one];lia
  rw[e3,Int.add_mul_emod_self_left]
 have gt:∀i,i<s->(r.take s)[i]?=some (r.getD i 0):=λi hi=>by rw[y2L,if_pos hi,y0a (by lia),z18 (by lia)]
 have e0:∀(k:Nat)(l:List Int),k<=s->l.length=s->(l.drop k++l.take k).length=s:=λk l hk hl=>by rw[y07,y1g,y0I];lia
 generalize r.take s=l at *;obtain⟨k,hk⟩:∃k,k=s-c%s:=⟨_,rfl⟩;have hk0:0<k:=by lia
 have hks:k<=s:=by lia
 rw[<-hk];refine y24 (by rw[e0 _ _ hks lt,y01,z1A]) λi h1 h2=>?_;have hi:i<s:=by rw[e0 _ _ hks lt]at h1;exact h1
 have e1:((z27 s).map λk=>r.getD ((k-(c:Int))%(s:Int)).toNat 0)[i]?=some (r.getD ((k+i)%s) 0):=by rw[y0l,z2m hi];show some (r.getD (((i:Int)-(c:Int))%(s:Int)).toNat 0)=_;rw[e2 i,<-hk,y19]
 have e5:(l.drop k++l.take k)[i]?=some (r.getD ((k+i)%s) 0):=by
  rw[List.getElem?_append,y1g,lt];by_cases h:i<s-k
  .rw[if_pos h,y2a,gt _ (by lia),y0W (by lia)]
  .have e6:(k+i)%s=i-(s-k):=by
    rw[show k+i=(i-(s-k))+s by lia,y2m,y0W (by lia)]
   rw[if_neg h,y2L,if_pos (by lia),gt _ (by lia),e6]
 rw[y0a h1]at e5;rw[y0a h2]at e1;exact(y06 e5).trans (y06 e1).symm
def z1L(M:List Row):Int->List Int->List Int
 |_,[]=>[]
 |x,l::w=>(row M x).1.getD l.toNat 0::z1L M ((row M x).2.getD l.toNat 0) w
theorem z0X(M:List Row):∀(w:List Int)(x:Int),(z1L M x w).length=w.length
 |[],_=>rfl
 |_::w,x=>by show(z1L M _ w).length+1=w.length+1;rw[z0X M w]
theorem z37(M:List Row):∀(w w':List Int)(x:Int),z1L M x (w++w')=z1L M x w++z1L M (goW M x w) w'
 |[],_,_=>rfl
 |l::w,w',x=>by show _::z1L M _ (w++w')=_::(z1L M _ w++z1L M (goW M _ w) w');rw[z37 M w w']
def z9m(M:List Row)(w:List Int)(x:Int)(k:Nat):(z1L M x w).take k=z1L M x (w.take k):=by
 have e:=z37 M (w.take k) (w.drop k) x;rw[y2j]at e;rw[e];by_cases h:k<=w.length
 .have hl:(z1L M x (w.take k)).length=k:=by rw[z0X,y0I];lia
  rw[List.take_append_of_le_length (by lia),y0D (by lia)]
 .have:w.drop k=[]:=y26 (by lia);rw[this];show(z1L M x (w.take k)++[]).take k=_;rw[y0n,y0D (by rw[z0X,y0I];lia)]
end Gu
namespace L2
open PySem PySem.StrLaws PySem.Builtin PySem.Builtin.Str
abbrev sg(x:Str):List Nat:=x.cps.toList
def z6u(a b:Str):sg (a++b)=sg a++sg b:=by show(a.cps++b.cps).toList=_;rw[Array.toList_append]
def z9d{a b:Str}(h:sg a=sg b):a=b:=PySem.Str.ext' (Array.toList_inj.mp h)
def z0T(a:Str):(sg a).length=a.length:=by show a.cps.toList.length=a.cps.size;rw[y18]
def zh9{x y:Str}{k:Nat}:At x y x.length k↔k+y.length<=x.length/\((sg x).drop k).take y.length=sg y:=by unfold At;rw[subAt_eq];simp
theorem z7s(s sub:Str)(hi limit lo:Nat)(hw:1<=sub.length):∀(m cur:Nat)(st:Array Nat × Nat),ChainG s sub hi lo st.fst.toList st.snd->st.fst.size<=limit->(st.fst.size<limit->∀k,st.snd<=k->k<cur->¬At s sub hi k) ->
  ChainG s sub hi lo (forIn (List.range' cur m) st (occBody s sub hi limit)).run.fst.toList (forIn (List.range' cur m) st (occBody s sub hi limit)).run.snd/\(forIn (List.range' cur m) st (occBody s sub hi limit)).run.fst.size<=limit /\
  ((forIn (List.range' cur m) st (occBody s sub hi limit)).run.fst.size<limit->∀k,(forIn (List.range' cur m) st (occBody s sub hi limit)).run.snd<=k->k<cur+m->¬At s sub hi k)
 |0,cur,st,h,hl,hn=>⟨h,hl,hn⟩
 |m+1,cur,st,h,hl,hn=>by
  rw[List.range'_succ,y1U];unfold occBody;have e:cur+(m+1)=(cur+1)+m:=by lia
  rw[e];split
  .rename_i hc;refine z7s s sub hi limit lo hw m (cur+1) _ ?_ ?_ ?_
   .show ChainG s sub hi lo (st.fst.push cur).toList (cur+sub.length);rw[Array.toList_push];exact chainG_snoc h hc.1.1.2 ⟨hc.1.2,hc.2⟩ (hn hc.1.1.1)
   .show(st.fst.push cur).size<=limit;rw[Array.size_push];have:=hc.1.1.1;lia
   .intro _ k h1 h2;have h1':cur+sub.length<=k:=h1;lia
  .rename_i hc;refine z7s s sub hi limit lo hw m (cur+1) _ h hl ?_;intro hs k h1 h2 hA;by_cases hk:k<cur
   .exact hn hs k h1 hk hA
   .have ek:k=cur:=by lia
    subst ek;exact hc ⟨⟨⟨hs,h1⟩,hA.1⟩,hA.2⟩
def zfT(x y:Str)(L:Nat)(hw:1<=y.length):∃f,ChainG x y x.length 0 (occurrences x y 0 x.length L) f/\(occurrences x y 0 x.length L).length<=L/\((occurrences x y 0 x.length L).length<L->∀k,f<=k->¬At x y x.length k):=by rw[occ_eq];have key:=z7s x y x.length L 0 hw (x.length+1-0) 0 ((#[]:Array Nat),0) rfl (y1r _) (λ_ k _ h=>by lia);refine⟨_,key.1,by rw[y18];exact key.2.1,λhl k hk hA=>?_⟩;rw[y18]at hl;exact key.2.2 hl k hk (by have:=hA.1;lia) hA
def zcM(x:Str):1<=strKind x:=by
 unfold Builtin.Str.strKind;split
 .lia
 .split<;>lia
def zed(y:Str)(parts:List Str):Txt.join y parts=Str.join y parts:=glued_eq_join y parts
open PySem.Spec PyProof.Rows PySem.SeqAt
def Its(x:Str):It:=⟨λi _=>i<x.length,λi H v H'=>H'=H/\∃c,(sg x)[i]?=some c/\v=.str ⟨#[c]⟩,λi _=>x.length<=i⟩
def ze7{x:Str}{i:Nat}:(sg x)[i]?=x.cps[i]?:=by simp
def z8H{P:Program}{w:World}{K:yyF}{tg:Expr}(it:Addr)(x:Str)(t:Tok):z9w P w K tg (Its x) [it] it (λi h=>h.IsStrIter it "str_ascii_iterator" x t i) where
 mem:=by simp
 obj:=λi h st b hb=>by
  have e:b=it:=by simpa using hb
  subst e;obtain⟨o,e,c,d⟩:=st;exact⟨o,e,λv z=>by rw[d]at z;cases z⟩
 keep:=λi h h' st k=>let⟨o,ho,r⟩:=st;⟨o,k it (by simp) o ho,r⟩
 item:=by intro X hP hw hK hc i pins s σ H E I hf st hg;subst hP hw hK;obtain⟨f0,f1,f2,f3,f4,f5⟩:=hf it (by simp);have hg':i<x.cps.size:=hg;refine wpAny_pyNext_ascii_item st (c:=x.cps[i]) (by simp[hg']) λh' st' sb=>?_;have I1:Inv X pins σ H { s with heap:=h',toks:=s.toks+1 }:=I.turned (t':=s.toks+1) (λb o hb e=>(sb.2 b hb).trans e) f0 f1 f3 f4 f5;obtain⟨o,e,c,d⟩:=id st';exact⟨_,rfl,z9i (s:={ s with heap:=h',toks:=s.toks+1 }) e c d (by decide) ⟨.str ⟨#[x.cps[i]]⟩,H,I1,⟨_,rfl⟩,⟨rfl,x.cps[i],by rw[ze7];simp[hg'],rfl⟩,st',λb hb=>(hf b hb).1⟩⟩
 done:=by intro X hP hw hK hc i pins s σ H E I hf st hg;subst hP hw hK;obtain⟨f0,f1,f2,f3,f4,f5⟩:=hf it (by simp);exact wpAny_pyNext_ascii_end (I.ok.hd hc) st (y2S hg) λh' eb=>⟨rfl,I.turned (t':=s.toks) (λb o hb e=>eb b o hb e) f0 f1 f3 f4 f5⟩
 self:=λ_ _ _ _ _ st h=>wpAny_pyIter_striter_ascii st h
def zat{P:Program}{w:World}{K:yyF}{tg:Expr}(it:Addr)(x:Str)(t:Tok):z9w P w K tg (Its x) [it] it (λi h=>h.IsStrIter it "str_iterator" x t i) where
 mem:=by simp
 obj:=λi h st b hb=>by
  have e:b=it:=by simpa using hb
  subst e;obtain⟨o,e,c,d⟩:=st;exact⟨o,e,λv z=>by rw[d]at z;cases z⟩
 keep:=λi h h' st k=>let⟨o,ho,r⟩:=st;⟨o,k it (by simp) o ho,r⟩
 item:=by intro X hP hw hK hc i pins s σ H E I hf st hg;subst hP hw hK;obtain⟨f0,f1,f2,f3,f4,f5⟩:=hf it (by simp);have hg':i<x.cps.size:=hg;refine wpAny_pyNext_wide_item st (c:=x.cps[i]) (by simp[hg']) λh' st' sb=>?_;have I1:Inv X pins σ H { s with heap:=h',toks:=s.toks+1 }:=I.turned (t':=s.toks+1) (λb o hb e=>(sb.2 b hb).trans e) f0 f1 f3 f4 f5;obtain⟨o,e,c,d⟩:=id st';exact⟨_,rfl,z9i (s:={ s with heap:=h',toks:=s.toks+1 }) e c d (by decide) ⟨.str ⟨#[x.cps[i]]⟩,H,I1,⟨_,rfl⟩,⟨rfl,x.cps[i],by rw[ze7];simp[hg'],rfl⟩,st',λb hb=>(hf b hb).1⟩⟩
 done:=by intro X hP hw hK hc i pins s σ H E I hf st hg;subst hP hw hK;obtain⟨f0,f1,f2,f3,f4,f5⟩:=hf it (by simp);exact wpAny_pyNext_wide_end (I.ok.hd hc) st (y2S hg) λh' eb=>⟨rfl,I.turned (t':=s.toks) (λb o hb e=>eb b o hb e) f0 f1 f3 f4 f5⟩
 self:=λ_ _ _ _ _ st h=>wpAny_pyIter_striter_wide st h
theorem z5B:∀{xs:List Str}{us:List Value},z0B (xs.map V.str) us->∃l:List (Str × Tok),strValues l=us/\l.map (·.1)=xs
 |[],_,.nil=>⟨[],rfl,rfl⟩
 |x::xs,_,.cons r t=>by obtain⟨tk,rfl⟩:=r;obtain⟨l,rfl,rfl⟩:=z5B t;exact⟨(x,tk)::l,rfl,rfl⟩
theorem z6d:∀(l:List (Str × Tok)),z0B ((l.map (·.1)).map V.str) (strValues l)
 |[]=>.nil
 |p::l=>.cons ⟨p.2,rfl⟩ (z6d l)
def z6i(x:Str)(cuts:List Nat)(w:Nat):(Builtin.Str.partsBetween x cuts w).length=cuts.length+1:=by
 rw[StrLaws.partsBetween_eq];have:∀(cuts:List Nat)(a:Nat),(StrLaws.partsFrom x w a cuts).length=cuts.length+1:=λcuts=>by
  induction cuts with
  |nil=>intro a;rfl
  |cons c r ih=>intro a;show(StrLaws.partsFrom x w (c+w) r).length+1=_;rw[ih];rfl
 exact this cuts 0
section
variable{X:Cx}(K:yyF)
def zf6(hK:X.K=K):MtR X "str.join" (λx vs H Q=>∃(y:Str) (p:Addr) (xs:List Str),x=.str y/\vs=[.ref p]/\SqL K H p (xs.map V.str)/\(xs.map (·.length)).sum+xs.length*y.length<=16777216/\Q (.str (Str.join y xs)) H):=by subst hK;intro pins s σ H x vs v us Q I rx r h;obtain⟨y,p,xs,rfl,rfl,hq,hz,q⟩:=h;obtain⟨t,rfl⟩:=rx;obtain⟨u,rfl,ru⟩:=z1q r;cases ru;obtain⟨its,rv,pl,_⟩:=I.list hq;obtain⟨l,rfl,rfl⟩:=z5B rv;refine SC.join pl.isList rfl (joinOk_of hz) λt' k=>⟨.str _,H,I.tok _,⟨_,rfl⟩,?_⟩;rw[zed];exact q
def z4D:z0G X (.type "int") (λxs H Q=>∃(x:Str) (n:Int),xs=[.str x]/\intText? x=some n/\x.length<=640/\Q (.int n) H):=by intro pins s σ H xs us Q I r h;obtain⟨x,n,rfl,hn,hl,q⟩:=h;obtain⟨u,rfl,t,rfl⟩:=z1q r;exact PySem.W.KIN.call_text hn hl ⟨.int n,H,I.tok _,⟨_,rfl⟩,q⟩
def z6v:z0G X (.type "str") (λxs H Q=>∃(x:Str),xs=[.str x]/\Q (.str x) H):=by intro pins s σ H xs us Q I r h;obtain⟨x,rfl,q⟩:=h;obtain⟨u,rfl,t,rfl⟩:=z1q r;exact PySem.P.str_of_str ⟨.str x,H,I,⟨_,rfl⟩,q⟩
def z1u{pins:yyP}{σ:St}{H:Hp}{s:Shared}{tk:Nat}{l:List (Str × Tok)}{us:List Value}(I:Inv X pins σ H s)(hu:us=strValues l)(hz:l.length<=sizeLine){Q:VK}(q:∀a,H a=none->Q (.ref a) (upd H a (.lst ((l.map (·.1)).map V.str)))) : EP X pins σ Q (.ref s.heap.objs.size) { s with heap:=s.heap.push { cls:=.type "list",data:=.seq us.toArray },toks:=tk }:=by subst hu;exact⟨.ref _,_,I.laid (a:=s.heap.objs.size) (o:=.lst ((l.map (·.1)).map V.str)) (t':=tk) (λb u e=>y02 _ e) (y09 _) ⟨by rw[y01,y01];exact hz,strValues l,0,z6d l,y04 _ rfl⟩,rfl,q _ I.fresh⟩
open PySem.Builtin.Str in
def zbS:MtR X "str.split" (λx vs H Q=>∃(y z:Str),x=.str y/\vs=[.str z]/\1<=z.length/\y.length+2<=sizeLine/\∀a,H a=none->Q (.ref a) (upd H a (.lst ((Txt.split y z).map V.str)))):=by
 intro pins s σ H x vs v us Q I rx r h;obtain⟨y,z,rfl,rfl,hz,hy,q⟩:=h;obtain⟨t,rfl⟩:=rx;obtain⟨u,rfl,t',rfl⟩:=z1q r;have hz0:(z.length==0)=false:=by simp;lia
 have hcut:=StrLaws.occ_length_le y z 0 y.length (y.length+1);unfold Txt.split at q;cases h1:(decide (y.length<z.length)||decide (strKind y<strKind z))
 .rw[if_neg (y2v h1)]at q;cases hf:(occurrences y z 0 y.length (y.length+1)).isEmpty
  .rw[if_neg (y2v hf)]at q;have hpl:(partsBetween y (occurrences y z 0 y.length (y.length+1)) z.length).length<=sizeLine:=by
    rw[z6i];lia
   refine y1z y25 (y3i _ _ _) y1V (F.args_str_split_2 _ _) (meets_str_split_sep y z t t' h1 hz0 hf (by lia) hpl) ?_;refine z1u (l:=numbered s.toks (partsBetween y (occurrences y z 0 y.length (y.length+1)) z.length)) I (strsFrom_eq _ _) ?_ ?_
   .have:=y1M List.length (numbered_texts s.toks (partsBetween y (occurrences y z 0 y.length (y.length+1)) z.length));rw[y01]at this;lia
   .rw[numbered_texts];exact q
  .rw[if_pos hf]at q;exact y1z y25 (y3i _ _ _) y1V (F.args_str_split_2 _ _) (meets_str_split_not_found y z t t' h1 hz0 hf) (z1u (l:=[(y,t)]) (tk:=s.toks) I rfl (show 1<=sizeLine by decide) q)
 .rw[if_pos h1]at q;exact y1z y25 (y3i _ _ _) y1V (F.args_str_split_2 _ _) (meets_str_split_cannot_occur y z t t' h1) (z1u (l:=[(y,t)]) (tk:=s.toks) I rfl (show 1<=sizeLine by decide) q)
open PySem.Builtin.Str in
def z7t:MtR X "str.split" (λx vs H Q=>∃(y z:Str) (k:Int),x=.str y/\vs=[.str z,.int k]/\1<=z.length/\y.length+2<=sizeLine/\0<=k/\k<1000/\∀a,H a=none->Q (.ref a) (upd H a (.lst ((Txt.splitMax y z k).map V.str)))):=by
 intro pins s σ H x vs v us Q I rx r h;obtain⟨y,z,k,rfl,rfl,hz,hy,k0,k1,q⟩:=h;obtain⟨t,rfl⟩:=rx;obtain⟨u,u2,rfl,⟨t',rfl⟩,t2,rfl⟩:=zaw r;have hz0:(z.length==0)=false:=by simp;lia
 have hk:(decide (k < -(2^63:Int))||decide (k ≥ 2^63))=false:=by simp;lia
 unfold Txt.splitMax at q;cases h1:(decide (y.length<z.length)||decide (strKind y<strKind z))
 .rw[if_neg (y2v h1)]at q;cases hf:(occurrences y z 0 y.length (limitOf y k)).isEmpty
  .rw[if_neg (y2v hf)]at q;have hpl:(partsBetween y (occurrences y z 0 y.length (limitOf y k)) z.length).length<=sizeLine:=by
    have hcut:=StrLaws.occ_length_le y z 0 y.length (limitOf y k);have e:limitOf y k=k.toNat:=by unfold limitOf;rw[if_neg (by lia)]
    have hs:2000<=sizeLine:=by decide
    rw[z6i];lia
   refine y1z y25 (y3i _ _ _) y1V (F.args_str_split_3 _ _ _) (meets_str_split_sep_max y z k t t' t2 hk h1 hz0 hf (by lia) hpl) ?_;refine z1u (l:=numbered s.toks (partsBetween y (occurrences y z 0 y.length (limitOf y k)) z.length)) I (strsFrom_eq _ _) ?_ ?_
   .have:=y1M List.length (numbered_texts s.toks (partsBetween y (occurrences y z 0 y.length (limitOf y k)) z.length));rw[y01]at this;lia
   .rw[numbered_texts];exact q
  .rw[if_pos hf]at q;exact y1z y25 (y3i _ _ _) y1V (F.args_str_split_3 _ _ _) (meets_str_split_max_not_found y z k t t' t2 hk h1 hz0 hf) (z1u (l:=[(y,t)]) (tk:=s.toks) I rfl (show 1<=sizeLine by decide) q)
 .rw[if_pos h1]at q;exact y1z y25 (y3i _ _ _) y1V (F.args_str_split_3 _ _ _) (meets_str_split_max_cannot_occur y z k t t' t2 hk h1) (z1u (l:=[(y,t)]) (tk:=s.toks) I rfl (show 1<=sizeLine by decide) q)
end
open PySem.W
def zmj(K:yyF)(n:Nat)(t:TGs):TG:=λv σ H Q=>∃a xs,v=.ref a/\SqL K H a xs/\xs.length=n/\t xs σ H Q
def zkv(K:yyF)(t:TGs):TG:=λv σ H Q=>∃a x xs,v=.ref a/\SqL K H a (x::xs)/\∀D,H D=none->t [x,.ref D] σ (upd H D (.lst xs)) Q
section
variable{X:Cx}{pos:Pos}
def ziE{es:List Expr}{k:Nat}{t:TGs}{n:Nat}(hc:X.calm=true)(h:PGs X es t)(hn:(assignEach es X.env).length=n:=by rfl)(hst:(assignEach es X.env).findIdx? (·.1)=none:=by rfl):PG X (.Tuple es k pos) (zmj X.K n t):=by intro pins s σ H v u Q I r hw;obtain⟨a,xs,e1,hq,hl,hw⟩:=hw;subst e1;cases r;obtain⟨its,rv,pl,hz⟩:=I.list hq;rw[assign_Tuple];refine y00 (y1d ?_);unfold unpack;rw[show(assignEach es X.env).length=its.toArray.size by simp[hn,<-hl,rv.length],hst];refine y00 (y0C (kun_itemsOf (I.ok.hd hc) pl.isList λh' hx=>?_));have I1:Inv X pins σ H { s with heap:=h' }:=I.kept (t':=s.toks) λb o e=>hx b o (y0i (y05 e)) e;exact h pins _ σ H xs _ Q I1 (by simpa using rv) hw
def zbO{e:Expr}{es:List Expr}{p:Pos}{t:TG}{u:TGs}(h1:PG X e t)(h2:PGs X es u):PGs X (.Starred e p::es) (z6O t u):=by
 intro pins s σ H vs us Q I r h;obtain⟨v,vr,e1,h⟩:=h;subst e1;cases r with
 |cons r rr =>
  show wpAny _ _ (assignInOrder (assign e X.env::(assignEach es X.env).map (·.2)) _) _ _ _;refine assignInOrder_cons (thn (h1 pins s σ H _ _ _ I r h) λ_ s1 hz8=>?_);obtain⟨σ1,H1,I1,q1⟩:=hz8;exact h2 pins s1 σ1 H1 _ _ Q I1 rr q1
def zf3{es:List Expr}{k:Nat}{t:TGs}(hc:X.calm=true)(h:PGs X es t)(hn:(assignEach es X.env).length=2:=by rfl)(hst:(assignEach es X.env).findIdx? (·.1)=some 1:=by rfl):PG X (.Tuple es k pos) (zkv X.K t):=by
 intro pins s σ H v u Q I r hw;obtain⟨a,x,xs,e1,hq,hw⟩:=hw;subst e1;cases r;obtain⟨its,rv,pl,hz⟩:=I.list hq;cases rv with
 |@cons _ y _ ys ry rys =>
 rw[assign_Tuple];refine y00 (y1d ?_);unfold unpack;rw[hn,hst];refine y00 (y0C ?_);have hl:=pl.isList;have hlt:a≠s.heap.objs.size:=by obtain⟨o,ho,_⟩:=hl;exact y0i (y05 ho)
 have hsz:(y::ys).toArray.size=ys.length+1:=by simp
 have hyl:ys.length=xs.length:=rys.length.symm;have hzz:ys.length+1<=sizeLine:=by rw[hyl];exact hz
 unfold unpackItems;refine y00 ?_;unfold notIterableAtAll;refine y00 (y1T hl.typeIs slot_list_iter.lookup ?_);refine y03 ?_;simp only[y0L,if_false];refine y00 (y0C (y0X hl ?_));refine y00 (y0C (kun_draw hlt 1 0 _ _ ⟨_,y04 _ rfl,rfl,rfl⟩ (hl.push _) (by lia) λh₁ hit₁ hs₁=>?_));have hl₁:h₁.IsList a (y::ys).toArray:=(hl.push _).extBut hs₁.extBut hlt;rw[y2A]at hit₁;have hit₁':=hit₁;obtain⟨oi,hoi,_⟩:=hit₁';have hl₁':=hl₁;obtain⟨ol,hol,_⟩:=hl₁';rw[List.drop_zero];rw[if_neg (show ¬(((y::ys).toArray.toList.take 1).length<1)by simp)];refine y00 (y0C (kun_collect (s:={ s with heap:=h₁ }) (T:="list_iterator") (.inr (.inr (.inl rfl))) (Walks.list (A:=X.A.in1) (I.ok.hd hc) s.heap.objs.size a hlt (y::ys).toArray) (λj u st=>st.1.typeIs) (k:=1) (by lia) ⟨hit₁,hl₁⟩ (y05 hoi) (y05 hol) (λh₂ tk hk=>?_) (by rw[hsz];exact hzz)));have he:Heap.ExtBut s.heap.objs.size s.heap h₂:=λb o hb e=>hk b o hb (hs₁.extBut b o hb (y02 _ e));have I1:Inv X pins σ H { s with heap:=h₂,toks:=tk }:=I.kept (t':=tk) λb o e=>he b o (y0i (y05 e)) e;have e1:(y::ys).toArray.toList.drop 1=ys:=rfl;have e2:(y::ys).toArray.toList.take 1=[y]:=rfl;rw[e1,e2];show wpAny _ _ (if ys.length<2-1-1 then _ else _) _ _ _;rw[if_neg (by lia)];show wpAny _ _ (newList (ys.take (ys.length-(2-1-1)))>>=λd=>pure ([y]++[d]++ys.drop (ys.length-(2-1-1)))) _ _ _;rw[show ys.length-(2-1-1)=ys.length by lia,List.take_length,List.drop_length];refine y00 (wpAny_newList ?_ (by lia));refine y03 ?_;have I2:Inv X pins σ (upd H h₂.objs.size (.lst xs)) { s with heap:=h₂.push { cls:=.type "list",data:=.seq ys.toArray },toks:=tk }:=I1.laid (a:=h₂.objs.size) (o:=.lst xs) (t':=tk) (λb u e=>y02 _ e) (y09 _) ⟨by lia,ys,0,rys,y04 _ rfl⟩;exact h pins _ σ _ [x,.ref h₂.objs.size] _ Q I2 (.cons ry (.cons rfl .nil)) (hw _ I1.fresh)
end
open PySem.W (Frag nsIn)
def z1N(K:Frag)(a:Addr):Bool:=!(a==sysModules)&&match K.lookup a with
 |some o=>(o.cls == .type "dict")&&o.dict.isNone&&(o.slots == #[])&&(match o.data with|.dict es _=>es.all (λe=>isExactStrKey e.key)|_=>false)
 |none=>false
def z4H{K:Frag}{a:Addr}(h:z1N K a=true):(a==sysModules)=false/\∃o es ep,K.lookup a=some o/\o.ExactDict/\o.data=.dict es ep/\(es.all λe=>isExactStrKey e.key)=true:=by
 unfold z1N at h;rw[y0b]at h;obtain⟨h1,h2⟩:=h;refine⟨by simpa using h1,?_⟩;cases hl:K.lookup a with
 |none=>rw[hl]at h2;cases h2
 |some o =>
  rw[hl]at h2;simp only[y0b]at h2;obtain⟨⟨⟨c1,c2⟩,c3⟩,c4⟩:=h2;cases hd:o.data with
  |dict es ep=>rw[hd]at c4;exact⟨o,es,ep,rfl,⟨by simpa using c1,by simpa using c2,by simpa using c3⟩,hd,c4⟩
  |_=>rw[hd]at c4;cases c4
section
variable{prog:Program}{w:World}{A:Around}{E:yyE}{s:Shared}{K:Frag}{a:Addr}{x:Str}{tk:Tok}
def zh3{r:Option Value}{Q:Option Value->Shared->Prop}(hd:z1N K a=true)(hK:K.In s.heap)(hn:nsIn K a x=some r)(h:Q r { s with toks:=s.toks+1 }):wpAny (model prog w) A (dictGet a (.str x tk)) Q E s:=by
 obtain⟨_,o,es,ep,hl,hex,hdt,hall⟩:=z4H hd;have ho:=hK _ _ hl;unfold dictGet;try with_reducible refine y0C ?_
 refine y00 (wpAny_pyHash_str (y00 (KTD.kt_dictFind_strs (s:={ s with toks:=s.toks+1 }) ho hdt hall ?_)));have hf:findBy (λk v=>v.isStr k) es x=r:=by
  have e1:findBy (λk v=>v.isStr k) es x=(es.toList.find? λe=>e.key.isStr x).map (·.val):=by obtain⟨l⟩:=es;simp[findBy]
  rw[e1];unfold nsIn at hn;obtain⟨cl,dc,dt,sl⟩:=o;have hdt':dt=.dict es ep:=hdt;subst hdt';rw[hl]at hn;dsimp only at hn;cases hq:es.toList.find? λe=>e.key.isStr x with
  |none =>
   rw[hq]at hn;dsimp only at hn;split at hn
   .cases hn
   .exact y06 hn
  |some e=>rw[hq]at hn;exact y06 hn
 rw[findBy_of_findIdx?]at hf;cases hi:es.findIdx? λe=>e.key.isStr x with
 |none=>rw[hi]at hf;exact y03 (by rw[<-hf]at h;exact h)
 |some i=>rw[hi]at hf;exact y00 (wpAny_dictEntries (s:={ s with toks:=s.toks+1 }) ho hdt (y03 (by rw[<-hf]at h;exact h)))
def zev(hd:z1N K a=true)(hK:K.In s.heap):s.TypeIs (.ref a) "dict":=by obtain⟨_,o,es,ep,hl,hex,hdt,hall⟩:=z4H hd;exact⟨o,hK _ _ hl,hex.1⟩
def zaj{v:Value}{Q:yyE}(hd:z1N K a=true)(hK:K.In s.heap)(hn:nsIn K a x=some (some v))(h:Q v { s with toks:=s.toks+1 }):wpAny (model prog w) A (getItem (.ref a) (.str x tk)) Q E s:=by
 have T:=zev hd hK;unfold getItem;try with_reducible refine y0C ?_
 refine y00 (wpAny_sequenceKey T (by decide) ?_);refine y00 (y0P (name:=Str.ofString "__getitem__") T slot_dict_getitem
  (y0Q slot_dict_getitem T entry_dict_getitem ?_ (args_dict_getitem _ _)))
 show wpAny _ _ (dictGet a (.str x tk)>>=_) _ _ s;exact y00 (zh3 hd hK hn (y03 ⟨v,rfl,y03 h⟩))
def zew{r:Option Value}{Q:yyE}(hd:z1N K a=true)(hK:K.In s.heap)(hn:nsIn K a x=some r)(h:Q (.bool (!r.isSome)) { s with toks:=s.toks+1 }):wpAny (model prog w) A (compareOp .NotIn (.str x tk) (.ref a)) Q E s:=by
 have T:=zev hd hK;show wpAny _ _ (do return .bool (!(<-contains (.ref a) (.str x tk)))) Q E s
 refine y00 ?_;unfold contains;try with_reducible refine y0C ?_
 refine y00 (y1T T slot_dict_contains.lookup ?_);show wpAny _ _ (if(some (Value.builtin "dict.__contains__")==some Value.none)=true then _ else _) _ E s;rw[if_neg (by rw[beq_builtin_none];exact y0s)];refine y00 (wpAny_callSpecialUnlessNone?_slot (name:=Str.ofString "__contains__") T slot_dict_contains
  (y0Q slot_dict_contains T entry_dict_contains ?_ (args_dict_contains _ _)))
 show wpAny _ _ (dictGet a (.str x tk)>>=_) _ _ s;refine y00 (zh3 hd hK hn ?_);cases r with
 |some v =>
  show wpAny _ _ (ret (.bool true)) _ _ _;exact y03 ⟨_,rfl,y11 (y03 h)⟩
 |none =>
  show wpAny _ _ (Builtin.Dict.pendingKey? a (.str x tk)>>=_) _ _ _;exact y00 (wpAny_pendingKey_other (z4H hd).1 (y03 ⟨_,rfl,y11 (y03 h)⟩))
end
def ziM(K:Frag)(td ty:TE):TE:=λσ H Q=>td σ H λx H1=>ty σ H1 λy H2=>∃a z v u,x=.ref a/\z1N K a=true/\y=.str z/\nsIn K a z=some (some u)/\z0y v u/\Q v H2
section
variable{X:Cx}{o i:Expr}{td ty:TE}{pos:Pos}
def Inv.inK{pins:yyP}{σ:St}{H:Hp}{s:Shared}(I:Inv X pins σ H s):X.K.In s.heap:=λa o e=>I.kIn a o e
def zbR(ho:PE X o td)(hi:PE X i ty)(hs:zkx i):PE X (.Subscript o i pos) (ziM X.K td ty):=by intro pins s σ H Q I h;refine zeo PySem.F.slot_dict_getitem.lookup hs (thn (ho pins s σ H _ I h) λu s1 ⟨x,H1,I1,rx,q1⟩=>thn (hi pins s1 σ H1 _ I1 q1) λiv s2 hz8=>?_);obtain⟨y,H2,I2,ry,a,z,v,w,ex,hd,ey,hn,rv,q2⟩:=hz8;subst ex ey;obtain rfl:u=Value.ref a:=rx;obtain⟨t,rfl⟩:=ry;exact⟨zev hd I2.inK,zaj hd I2.inK hn ⟨v,H2,I2.tok _,rv,q2⟩⟩
end
def zdF(K:Frag)(a:Addr)(xs:List Str):Bool:=match K.lookup a with
 |some ⟨.type "tuple",_,.seq its _,_⟩=>decide (its.toList.length=xs.length)&&(its.toList.zip xs).all λp=>p.1.isStr p.2
 |_=>false
def zcZ{v:Value}{x:Str}(h:v.isStr x=true):z0y (.str x) v:=KTD.kt_isStr h
theorem z8e:∀{us:List Value}{xs:List Str},us.length=xs.length->((us.zip xs).all λp=>p.1.isStr p.2)=true->z0B (xs.map V.str) us
 |[],[],_,_=>.nil
 |u::us,x::xs,h,ha=>by rw[List.zip_cons_cons,List.all_cons,y0b]at ha;exact .cons (zcZ ha.1) (z8e (by simpa using h) ha.2)
def z6E{K:Frag}{a:Addr}{xs:List Str}(h:zdF K a xs=true)(hz:xs.length<=1000)(H:Hp):SqT K H a (xs.map V.str):=by
 unfold zdF at h;split at h
 .rename_i dc its n sl hl;rw[y0b]at h;have h1:=y0m h.1;refine .inr ⟨_,its,n,hl,rfl,rfl,?_,z8e h1 h.2⟩;rw[y18]at h1;rw[h1];exact y0e hz (by decide)
 .cases h
def ziQ(X:Cx)(CX:CXT)(k i:Nat)(t:TA):TE:=λσ H Q=>∃(f:Addr)(fd:FuncData)(ps:List Str)(sp:Sp)(E:XK),σ[i]?=some (some (.ref f))/\z2d X.prog X.w X.K X.mg X.base CX k f fd ps sp/\z19 X.K fd ps []/\PySem.W.keepIn X.K (.ref f)=true/\z2C CX X E/\t σ H λvs H1=>sp vs H1 Q E
section
variable{X:Cx}{CX:CXT}{k:Nat}{x:Str}{p pos:Pos}{e:Expr}{es:List Expr}{t:TA}
def zcv(i:Nat)(hr:z1o k X.A)(ha:PA X (e::es) t)(hN:X.N[i]?=some x:=by rfl)(hv:Vis X.env.scope x:=by first|exact Or.inl rfl|exact Or.inr (Or.inl rfl)|exact Or.inr (Or.inr rfl))(hd:(x==("__debug__":Str))=false:=by decide)(hcd:(x==("__classdict__":Str))=false:=by decide)(he:starEach (e::es) X.env=(false,eval e X.env)::starEach es X.env:=by rfl)(hpl:(backTo pos (starEach es X.env)).any (·.1)=false:=by rfl) : PE X (.Call (.Name x p) (e::es) [] pos) (ziQ X CX k i t):=by intro pins s σ H Q I h;obtain⟨f,fd,ps,sp,E,ef,F,hb,hk,hx,h⟩:=h;refine y15 (z2K (z4q hN hv hd hcd pins s σ H (λv H1=>v=.ref f/\H1=H) I ⟨_,ef,rfl,rfl⟩) λu s1 v H1 I1 r1 hz9=>?_);obtain⟨hv1,hH1⟩:=hz9;subst hv1 hH1;cases r1;refine y1O (h₀:=X.base) I1.ok.mod.kin hk (thn (ha pos pins s1 σ H1 _ I1 h) λus s2 ⟨vs,H2,I2,r,q⟩=>⟨I2.kIn,?_⟩) he hpl;exact zhK F hr hb .nil hx I2 r (by rw[y0n];exact q)
end
open PySem.W.KIN (signs_num val_back)
def z5s(n:Nat):Str:=Str.ofString (toString ((n:Nat):Int))
def zdJ(n:Nat):sg (z5s n)=(Nat.toDigits 10 n).map Char.toNat:=signs_num n
def z36(n:Nat):∀c∈sg (z5s n),48<=c/\c<=57:=λc hc=>by rw[zdJ]at hc;obtain⟨ch,hch,e⟩:=y0f.mp hc;have r:=PyProof.Rows.digit_range (Nat.isDigit_of_mem_toDigits (by decide) (by decide) hch);rw[<-e];exact r
end L2
namespace Gu
open PySem L2
def zjB{α:Type}{us:List α}(h:us.length=1):∃a,us=[a]:=by
 cases us with
 |nil=>cases h
 |cons a r =>
  cases r with
  |nil=>exact⟨a,rfl⟩
  |cons _ _=>simp at h
def zl6{α:Type}{us:List α}(h:us.length=2):∃a b,us=[a,b]:=by
 cases us with
 |nil=>cases h
 |cons a r =>
  obtain⟨b,rfl⟩:=zjB (show r.length=1 by simpa using h);exact⟨a,b,rfl⟩
def zl5{α:Type}{us:List α}(h:us.length=3):∃a b c,us=[a,b,c]:=by
 cases us with
 |nil=>cases h
 |cons a r =>
  obtain⟨b,c,rfl⟩:=zl6 (show r.length=2 by simpa using h);exact⟨a,b,c,rfl⟩
end Gu
namespace L2
open PySem PySem.Spec PyProof.Rows
def zac(CX:CXT)(X:Cx)(σ0:St)(E:XK):Prop:=∀(pins:yyP)(H:Hp)(s:Shared)(e:Value)(s':Shared),Inv X pins σ0 H s->CX X.stack H s E e s'->X.xe e s'
section
variable{X:Cx}{CX:CXT}{k:Nat}{f:Addr}{fd:FuncData}{ps:List Str}{sp:Sp}{dvs:List V}{ds:List Value}{E:XK}{e:Expr}{σ0:St}
def zfA{pins:yyP}{H:Hp}{s:Shared}{Q:VK}{us:List Value}{vs:List V}(F:z2d X.prog X.w X.K X.mg X.base CX k f fd ps sp)(hr:z1o k X.A)(hb:z19 X.K fd ps ds)(hd:z0B dvs ds)(hx:zac CX X σ0 E)(I:Inv X pins σ0 H s)(r:z0B vs us)(h:sp (vs++dvs) H Q E):wpAny (model X.prog X.w) X.A (call (.ref f) us) (EP X pins σ0 Q) X.xe s:=by
 have r2:z0B (vs++dvs) (us++ds):=r.append hd;have hl:(us++ds).length=ps.length:=by rw[<-r2.length];exact F.len _ _ _ _ h
 refine y2l (y1N (F.run X.A X.stack s H ⟨us,[]⟩ (us++ds) (vs++dvs) Q E hr I.env0 (hb s us I.kIn hl) r2 h) λr s' hq=>?_);cases r with
 |error e=>exact hx pins H s e s' I hq
 |ok fl =>
  cases fl with
  |ret u=>exact I.after hq
  |next=>exact False.elim hq
  |brk=>exact False.elim hq
  |cont=>exact False.elim hq
end
open PySem.SeqAt
open PySem.AutoSeq1 (wpAny_loadPart')
end L2
namespace Gu
open PySem L2
def z1e(e:Row)(m:Nat):(hdW e m).length=m:=by unfold hdW;rw[y01,List.length_range]
def z7S(e:Row)(m:Nat):hdW e (m+1)=hdW e m++[lat e m]:=by unfold hdW;rw[List.range_succ,y0t];rfl
def zc2(e:Row){k m:Nat}(h:k<=m):(hdW e m).take k=hdW e k:=by unfold hdW;rw[<-y3g,List.take_range,y1E h]
def stS(M:List Row)(e:Row)(i:Nat):Int:=goW M 0 (hdW e i)
def oS(M:List Row)(e:Row)(i:Nat):Int:=(row M (stS M e i)).1.getD (lat e i).toNat 0
def z1E(M:List Row)(e:Row)(i:Nat):stS M e (i+1)=(row M (stS M e i)).2.getD (lat e i).toNat 0:=by unfold stS;rw[z7S,z74];rfl
def zdj(M:List Row)(e:Row)(i:Nat):z1L M 0 (hdW e (i+1))=z1L M 0 (hdW e i)++[oS M e i]:=by rw[z7S,z37];rfl
def z8j(M:List Row)(e:Row){i m:Nat}(h:i<m):(z1L M 0 (hdW e m)).getD i 0=oS M e i:=by
 have h1:(z1L M 0 (hdW e m)).take (i+1)=z1L M 0 (hdW e (i+1)):=by rw[z9m,zc2 e h]
 have h2:(z1L M 0 (hdW e m)).getD i 0=(z1L M 0 (hdW e (i+1))).getD i 0:=by rw[<-h1,z3L (y1I i)]
 rw[h2,zdj,y08,y0E (by rw[z0X,z1e];exact y09 _),z0X,z1e,Nat.sub_self];rfl
def z32(M:List Row)(e:Row):Nat->Int
 |0=>goW M 0 e.1
 |t+1=>goW M (z32 M e t) e.2
def z1J(M:List Row)(e:Row)(t:Nat):List (List Int):=(List.range t).map λj=>z1L M (z32 M e j) e.2
def z3H(M:List Row)(e:Row)(t:Nat):z1J M e (t+1)=z1J M e t++[z1L M (z32 M e t) e.2]:=by unfold z1J;rw[List.range_succ,y0t];rfl
def z8r(M:List Row)(e:Row)(t:Nat):(z1J M e t).length=t:=by unfold z1J;rw[y01,List.length_range]
theorem z2A(M:List Row)(e:Row):∀t,(z1J M e t).flatten.length=t*e.2.length
 |0=>by unfold z1J;simp
 |t+1=>by rw[z3H,y22,y07,z2A M e t];simp only[y1i,List.flatten_nil,y0n];rw[z0X,Nat.add_mul,Nat.one_mul]
def z6T(e:Row)(m i:Nat)(h:i<(hdW e m).length):(hdW e m)[i]=lat e i:=by
 have h':i<m:=by rw[z1e]at h;exact h
 have:(hdW e m)[i]?=some (lat e i):=by unfold hdW;rw[y0l,List.getElem?_range h'];rfl
 rw[y0a h]at this;exact y06 this
def zcD(e:Row):hdW e e.1.length=e.1:=by refine y24 (z1e _ _) λi i1 i2=>?_;rw[z6T,z2R i2,z18 i2]
def zgQ{e:Row}(h:e.2≠[])(t:Nat):hdW e (e.1.length+(t+1)*e.2.length)=hdW e (e.1.length+t*e.2.length)++e.2:=by
 have hl:0<e.2.length:=y0r.mpr h;refine y24 (by rw[y07,z1e,z1e,Nat.add_mul,Nat.one_mul];lia) λi i1 i2=>?_;have e1:(hdW e (e.1.length+(t+1)*e.2.length))[i]=lat e i:=z6T _ _ _ _;rw[e1];rw[z1e]at i1;by_cases hi:i<e.1.length+t*e.2.length
 .rw[List.getElem_append_left (by rw[z1e];exact hi)];rw[z6T]
 .rw[List.getElem_append_right (by rw[z1e];lia)];rw[z1m (by have:=y1r (t*e.2.length);lia)];have em:(i-e.1.length)%e.2.length=i-(e.1.length+t*e.2.length):=by
   have:i-e.1.length=(i-(e.1.length+t*e.2.length))+t*e.2.length:=by lia
   rw[this,Nat.add_mul_mod_self_right,y0W];rw[Nat.add_mul,Nat.one_mul]at i1;lia
  rw[em];have hj:i-(e.1.length+t*e.2.length)<e.2.length:=by rw[Nat.add_mul,Nat.one_mul]at i1;lia
  rw[z18 hj];congr 1;rw[z1e]
theorem z5k(M:List Row){e:Row}(h:e.2≠[]):∀t,z1L M 0 (hdW e (e.1.length+t*e.2.length))=z1L M 0 e.1++(z1J M e t).flatten/\stS M e (e.1.length+t*e.2.length)=z32 M e t
 |0=>by
  unfold stS;rw[Nat.zero_mul,y2B,zcD];exact⟨by unfold z1J;simp,rfl⟩
 |t+1=>by obtain⟨i1,i2⟩:=z5k M h t;unfold stS at i2⊢;rw[zgQ h t,z37,z74,i1,i2,z3H,y22];exact⟨by rw[y1a];simp,rfl⟩
def zdw(M:List Row){e:Row}(h:e.2≠[]){k first:Nat}(hf:first<k)(hk:z32 M e k=z32 M e first) : ∀i,lat (z1L M 0 e.1++((z1J M e k).take first).flatten,((z1J M e k).drop first).flatten) i=oS M e i:=by
 have hl:0<e.2.length:=y0r.mpr h;have htk:(z1J M e k).take first=z1J M e first:=by unfold z1J;rw[<-y3g,List.take_range,y1E (y0Y hf)]
 have hall:(z1L M 0 e.1++((z1J M e k).take first).flatten)++((z1J M e k).drop first).flatten=z1L M 0 (hdW e (e.1.length+k*e.2.length)):=by rw[(z5k M h k).1,y1a,<-y22,y2j]
 have l1:(z1L M 0 e.1++((z1J M e k).take first).flatten).length=e.1.length+first*e.2.length:=by rw[htk,y07,z0X,z2A]
 have l2:(z1L M 0 e.1++((z1J M e k).take first).flatten).length+((z1J M e k).drop first).flatten.length=e.1.length+k*e.2.length:=by rw[<-y07,hall,z0X,z1e]
 have hmul:first*e.2.length+(k-first)*e.2.length=k*e.2.length:=by rw[<-Nat.add_mul];congr 1;lia
 have l3:((z1J M e k).drop first).flatten.length=(k-first)*e.2.length:=by lia
 have hpos:0<(k-first)*e.2.length:=Nat.mul_pos (by lia) hl;generalize z1L M 0 e.1++((z1J M e k).take first).flatten=A at *;generalize((z1J M e k).drop first).flatten=B at *;refine zdE (λi hi=>?_) (λj hj=>?_) ?_ (λz=>?_)
 .have hi:i<A.length:=hi;rw[<-z8j M e (i:=i) (m:=e.1.length+k*e.2.length) (by lia),<-hall,y08,y08,y0A hi]
 .have hj:j<B.length:=hj;show B.getD j 0=oS M e (A.length+j);rw[<-z8j M e (i:=A.length+j) (m:=e.1.length+k*e.2.length) (by lia),<-hall,y08,y08,y0E (by lia),y21]
 .show Pd (oS M e) A.length B.length;have pl:Pd (lat e) A.length B.length:=by
   have:=(z5Y h).mul (k-first);rw[Nat.mul_comm]at this;rw[l3];exact this.mono (by lia)
  have ps:∀d,stS M e (A.length+d+B.length)=stS M e (A.length+d):=by
   intro d;induction d with
   |zero =>
    rw[y2B,l2,l1,(z5k M h k).2,(z5k M h first).2,hk]
   |succ d ih =>
    rw[show A.length+(d+1)+B.length=(A.length+d+B.length)+1 by lia,show A.length+(d+1)=A.length+d+1 by lia,z1E,z1E,ih,pl (A.length+d) (by lia)]
  intro i hi;unfold oS;have:=ps (i-A.length);rw[show A.length+(i-A.length)=i by lia]at this;rw[this,pl i hi]
 .have:B=[]:=z;rw[this]at l3;simp at l3;lia
end Gu
namespace L2
open PySem PySem.Spec PyProof.Rows PySem.SeqAt
open PySem.AutoSeq1 (wpAny_loadPart')
section
variable{X:Cx}
def zbN(l:Addr)(its:List Value)(n:Nat)(k:Int)(t:Tok)(h2:2<=k)(hk:k<=1000000)(hne:its≠[])(hz:its.length*k.toNat<=sizeLine) : Meets (Builtin.«tuple.__mul__» ⟨[.ref l,.int k t],[]⟩) (λ_ R s=>s.heap.get? l=some { cls:=.type "tuple",dict:=none,data:=.seq its.toArray n,slots:=#[] } /\ R (.ok (.ret (.ref s.heap.objs.size))) { s with heap:=s.heap.push { cls:=.type "tuple",data:=.seq (List.replicate k.toNat its).flatten.toArray } }) :=
 .of_wp λprog w A R s h=>by
  obtain⟨hp,g,d,tk,os⟩:=s;obtain⟨hl,h⟩:=h;have hie:its.toArray.isEmpty=false:=by cases its with|nil=>exact absurd rfl hne|cons a r=>simp
  have hcap:¬((its.toArray.size:Int)*k>(2^63-1)/8):=by
   have h1:((its.length*k.toNat:Nat):Int)<=sizeLine:=by lia
   have h3:((its.length*k.toNat:Nat):Int)=(its.length:Int)*k:=by rw[y3m];congr 1;lia
   have h4:(sizeLine:Int)<=(2^63-1)/8:=by rw[y2d];decide
   simp only[y0g];lia
  wp_walk using wpAny_loadPart' hl
  refine y1n (λhab=>absurd hab (by simp;lia)) (λ_=>?_)
  wp_walk using wpAny_loadPart' hl
  have hk1:(k==1)=false:=by simpa using(show k≠1 by lia)
  have hk0:decide (k<=0)=false:=by simpa using(show ¬k<=0 by lia)
  refine y1n (λhab=>absurd hab (by rw[hie,hk1];decide)) (λ_=>?_);refine y1n (λhab=>absurd hab (by rw[hie,hk0];decide)) (λ_=>?_);refine y1n (λhab=>absurd hab hcap) (λ_=>?_);have htm:Builtin.Tuple.tupleTooMany ((its.toArray.size:Int)*k)=false:=by
   have h1:((its.length*k.toNat:Nat):Int)<=sizeLine:=by lia
   have h3:((its.length*k.toNat:Nat):Int)=(its.length:Int)*k:=by rw[y3m];congr 1;lia
   unfold Builtin.Tuple.tupleTooMany;simp only[y0g];exact y0v (by lia)
  refine y1n (λhab=>absurd hab (by rw[htm];decide)) (λ_=>?_);have hnew:List.foldl (λx1 x2=>x1++x2) #[] (List.replicate k.toNat its.toArray)=(List.replicate k.toNat its).flatten.toArray:=by have q:=z5x its k.toNat [];rw[List.nil_append]at q;exact q
  rw[hnew];unfold Builtin.Tuple.tupleExact;refine y00 (y0T ?_ (by show(List.replicate k.toNat its).flatten.toArray.size<=sizeLine;rw[y0g,z7k,Nat.mul_comm];exact hz));exact y03 ⟨_,rfl,h⟩
def zdo:OpR X (binaryOp .Mult) (λx y H Q=>∃(l:Addr)(k:Int)(xs:List V),x=.ref l/\y=.int k/\H l=some (.tup xs)/\xs≠[]/\2<=k/\k<=1000000/\xs.length*k.toNat<=sizeLine /\ ∀p,H p=none->Q (.ref p) (upd H p (.tup (List.replicate k.toNat xs).flatten))):=by
 intro pins s σ H x y v u Q I rx ry h;obtain⟨l,k,xs,rfl,rfl,hH,hne,h2,hk,hz,q⟩:=h;cases rx;obtain⟨t,rfl⟩:=ry;obtain⟨z,its,n,r,e⟩:=I.hok l _ hH;have hl:=r.length;have hne':its≠[]:=λw=>by subst w;exact hne (y12.mp (by simpa using hl))
 refine y2o (T:="tuple") (U:="int") (by decide) ⟨_,e,rfl⟩ (λs'=>y3j s' k t) z21 F.fills_int_mul y2k z2M F.slot_int_index.lookup
  (y1z y2k (y3j s k t) F.entry_int_rmul (F.args_int_rmul_2 _ _) (z24 k t l its.toArray n)
   ⟨e,rfl,⟨_,e,rfl⟩,y1z y2q ⟨_,e,rfl⟩ F.entry_tuple_mul (F.args_tuple_mul_2 _ _) (zbN l its n k t h2 hk hne' (by rw[<-hl];exact hz)) ⟨e,?_⟩⟩)
 exact⟨.ref _,_,I.laid (o:=.tup (List.replicate k.toNat xs).flatten) (t':=s.toks) (λb u q=>y02 _ q) (y09 _) ⟨by rw[z7k,Nat.mul_comm];exact hz,_,0,r.rep k.toNat,y04 _ rfl⟩,rfl,q _ I.fresh⟩
def zbc(l:Addr)(its:List Value)(n:Nat)(k:Int)(t:Tok)(h0:-1000<=k)(hk:k<=1000000)(hne:its=[]\/k=1) : Meets (Builtin.«tuple.__mul__» ⟨[.ref l,.int k t],[]⟩) (λ_ R s=>s.heap.get? l=some { cls:=.type "tuple",dict:=none,data:=.seq its.toArray n,slots:=#[] }/\R (.ok (.ret (.ref l))) s) :=
 .of_wp λprog w A R s h=>by
  obtain⟨hp,g,d,tk,os⟩:=s;obtain⟨hl,h⟩:=h;have hyes:(its.toArray.isEmpty||k==1)=true:=by
   rcases hne with e|e
   .subst e;simp
   .subst e;simp
  wp_walk using wpAny_loadPart' hl
  refine y1n (λhab=>absurd hab (by simp;lia)) (λ_=>?_)
  wp_walk using wpAny_loadPart' hl
  exact⟨_,rfl,h⟩
def zcQ:OpR X (binaryOp .Mult) (λx y H Q=>∃(l:Addr)(k:Int)(xs:List V),x=.ref l/\y=.int k/\H l=some (.tup xs)/\-1000<=k/\k<=1000000/\xs.length*k.toNat<=sizeLine /\ ∀(p:Addr)(H':Hp),Same H H'->H' p=some (.tup (List.replicate k.toNat xs).flatten)->Q (.ref p) H'):=by
 intro pins s σ H x y v u Q I rx ry h;obtain⟨l,k,xs,rfl,rfl,hH,h0,hk,hz,q⟩:=h;by_cases hs:xs≠[]/\2<=k
 .exact zdo pins s σ H _ _ v u Q I rx ry ⟨l,k,xs,rfl,rfl,hH,hs.1,hs.2,hk,hz,λp hp=>q p _ (Gu.same_up (Same.refl H) hp) z0a⟩
 .cases rx;obtain⟨t,rfl⟩:=ry;obtain⟨z,its,n,r,e⟩:=I.hok l _ hH;have hl:=r.length;by_cases h1:its=[]\/k=1
  .refine y2o (T:="tuple") (U:="int") (by decide) ⟨_,e,rfl⟩ (λs'=>y3j s' k t) z21 F.fills_int_mul y2k z2M F.slot_int_index.lookup
    (y1z y2k (y3j s k t) F.entry_int_rmul (F.args_int_rmul_2 _ _) (z24 k t l its.toArray n)
     ⟨e,rfl,⟨_,e,rfl⟩,y1z y2q ⟨_,e,rfl⟩ F.entry_tuple_mul (F.args_tuple_mul_2 _ _) (zbc l its n k t h0 hk h1) ⟨e,?_⟩⟩)
   refine⟨.ref l,H,I,rfl,q l H (Same.refl H) ?_⟩;have:(List.replicate k.toNat xs).flatten=xs:=by
    rcases h1 with w|w
    .subst w;have:xs=[]:=y12.mp (by simpa using hl);subst this;simp
    .subst w;simp
   rw[this];exact hH
  .have hne:its≠[]:=λw=>h1 (.inl w);have hxs:xs≠[]:=λw=>hne (y12.mp (by rw[<-hl,w];rfl));have hk0:k<=0:=by
    have a1:k≠1:=λw=>h1 (.inr w);have a2:¬2<=k:=λw=>hs ⟨hxs,w⟩;lia
   refine y2o (T:="tuple") (U:="int") (by decide) ⟨_,e,rfl⟩ (λs'=>y3j s' k t) z21 F.fills_int_mul y2k z2M F.slot_int_index.lookup
    (y1z y2k (y3j s k t) F.entry_int_rmul (F.args_int_rmul_2 _ _) (z24 k t l its.toArray n)
     ⟨e,rfl,⟨_,e,rfl⟩,y1z y2q ⟨_,e,rfl⟩ F.entry_tuple_mul (F.args_tuple_mul_2 _ _) (zco l its n k t h0 hk0 hne) ⟨e,?_⟩⟩)
   have e0:k.toNat=0:=by lia
   rw[e0]at q;exact⟨.ref _,_,I.laid (o:=.tup []) (t':=s.toks) (λb u q=>y02 _ q) (y09 _) ⟨y1r _,[],0,.nil,y04 _ rfl⟩,rfl,q _ _ (Gu.same_up (Same.refl H) I.fresh) z0a⟩
end
end L2
namespace Gu
open PySem L2
def z5g{n:Nat}(h:n<=1000000):n<=sizeLine:=y0e h (by decide)
def z8K(n:Nat)(e:Row):Prop:=e.2≠[]/\LW n e.1/\LW n e.2
theorem z6X{n:Nat}{M:List Row}(G:z1n n M){e:Row}(l1:LW n e.1)(l2:LW n e.2):∀t,0<=z32 M e t/\z32 M e t<(M.length:Int)
 |0=>by have:=G.some;exact zdG G l1 (by lia) (by lia)
 |t+1=>by obtain⟨a,b⟩:=z6X G l1 l2 t;exact zdG G l2 a b
def seen(M:List Row)(e:Row)(t:Nat):List Int:=(List.range t).map (z32 M e)
def z5u(M:List Row)(e:Row)(t:Nat):seen M e (t+1)=seen M e t++[z32 M e t]:=by unfold seen;rw[List.range_succ,y0t];rfl
def z3a(M:List Row)(e:Row)(t:Nat):(seen M e t).length=t:=by unfold seen;rw[y01,List.length_range]
def ziw{n:Nat}{e:Row}(hl:∀i,0<=lat e i/\lat e i<(n:Int))(hne:e.2≠[]):LW n e.1/\LW n e.2:=by
 have hp:0<e.2.length:=y0r.mpr hne;refine⟨λl h=>?_,λl h=>?_⟩
 .obtain⟨i,hi,rfl⟩:=List.mem_iff_getElem.mp h;have:=hl i;rw[z2R hi,z18 hi]at this;exact this
 .obtain⟨i,hi,rfl⟩:=List.mem_iff_getElem.mp h;have:=hl (e.1.length+i);rw[z1m (by lia),y21,y0W hi,z18 hi]at this;exact this
section
variable{L:Nat}{W:List (List Int)}(hW:∀w∈W,IsP L w)
include hW
end
abbrev str(s:String):Str:=Str.ofString s
def z10(x:Str):Bool:=decide (1<=x.length/\x.length<=12)&&(sg x).all λc=>decide (97<=c/\c<=122)
def z8V(x:Str):Bool:=decide (0<x.length)&&(sg x).all λc=>decide (48<=c/\c<=57)
def zcp:sg (str "abcdefghijklmnopqrstuvwxyz")=List.range' 97 26:=by decide +kernel
def zf2:sg (str "0123456789")=List.range' 48 10:=by decide +kernel
def zdt(c:Nat):(!(Builtin.Str.occurrences (str "abcdefghijklmnopqrstuvwxyz") ⟨#[c]⟩ 0 (str "abcdefghijklmnopqrstuvwxyz").length 1).isEmpty)=decide (97<=c/\c<=122):=by rw[StrLaws.found_one];show decide (c∈sg (str "abcdefghijklmnopqrstuvwxyz"))=_;rw[zcp,y36,List.mem_range'_1];lia
def zej(c:Nat):(!(Builtin.Str.occurrences (str "0123456789") ⟨#[c]⟩ 0 (str "0123456789").length 1).isEmpty)=decide (48<=c/\c<=57):=by rw[StrLaws.found_one];show decide (c∈sg (str "0123456789"))=_;rw[zf2,y36,List.mem_range'_1];lia
def zbE(i:Int):Str:=str (toString i)
def z1M(w:List Int):Str:=if w=[]then str "-" else Str.join (str "") (w.map zbE)
def z1R{i:Int}(h:i.natAbs<10^61):i.natAbs.log2<1920:=by
 rcases Nat.eq_zero_or_pos i.natAbs with z|z
 .rw[z];decide
 .exact(Nat.log2_lt (by lia)).mpr (y0h h (by decide +kernel))
def z4L{n:Nat}(h:n<10^60):1<=(z5s n).length/\(z5s n).length<=60:=by rw[<-z0T,zdJ,y01];exact⟨toDigits_len_ge 10 n,toDigits_len_pow (by decide) (by decide) h⟩
def z20{y:Str}{xs:List Str}{B:Nat}(h:∀x∈xs,x.length<=B):(Str.join y xs).length<=xs.length*(B+y.length)/\(xs.map (·.length)).sum+xs.length*y.length<=xs.length*(B+y.length):=by have h1:=StrLaws.join_length_le y xs;have h2:=StrLaws.sumLen_le xs h;rw[Nat.mul_add];exact⟨by lia,by lia⟩
open PySem.NumText
def zdW(m:Nat):sg (zbE (-((m+1:Nat):Int)))=45::sg (z5s (m+1)):=by have e:toString (-((m+1:Nat):Int))="-"++toString (m+1):=rfl;unfold zbE;rw[e];show(Str.ofString ("-"++toString (m+1))).cps.toList=45::(Str.ofString (toString (((m+1:Nat):Int)))).cps.toList;rw[Str.ofString_eq_toList,Str.ofString_eq_toList];have e2:(toString (((m+1:Nat):Int)))=toString (m+1):=rfl;rw[e2,String.toList_append,y0t];rfl
def zcf{i:Int}(h0:0<=i)(h9:i<=9):intText? ⟨#[48+i.toNat]⟩=some i:=by have e:=intText_digits (x:=⟨#[48+i.toNat]⟩) (λc hc=>by have:c∈[48+i.toNat]:=hc;rw[y0q.mp this];lia) (by simp) (by show 1<=4300;decide);rw[e];show some (((0*10+(48+i.toNat-48):Nat)):Int)=some i;congr 1;lia
end Gu
namespace Gu
open PySem L2
def z25{n:Int}(h:n.natAbs<10^60):(∀c∈sg (zbE n),45<=c)/\(zbE n).length<=61:=by
 rcases Int.lt_or_le n 0 with q|q
 .obtain⟨k,rfl⟩:∃k:Nat,n=-((k+1:Nat):Int):=⟨(-n).toNat-1,by lia⟩;have hk:k+1<10^60:=by lia
  refine⟨λc hc=>?_,?_⟩
  .rw[zdW]at hc;rcases y0k.mp hc with rfl|hc
   .lia
   .have:=z36 _ c hc;lia
  .rw[<-z0T,zdW,y0c,z0T];have:=z4L hk;lia
 .obtain⟨k,rfl⟩:=y23 q;have hk:k<10^60:=by lia
  refine⟨λc hc=>?_,?_⟩
  .have:=z36 k c hc;lia
  .have:=z4L hk;show(z5s k).length<=61;lia
def z1B:List (Str × List Str):=[(str "sew",[str "name",str "rows"]),(str "join",[str "name",str "name",str "name"]),(str "turn",[str "name",str "name"]),(str "look",[str "name",str "name",str "word"]),(str "power",[str "name",str "name",str "number"]),(str "drop",[str "name"]),(str "hang",[str "name",str "word",str "ring"]),(str "wear",[str "name",str "name"]),(str "doff",[str "name"]),(str "unhang",[str "name"])]
def z9K(K:yyF)(a:Addr):Bool:=z1B.all λp=>match PySem.W.nsIn K a p.1 with
 |some (some (.ref t))=>zdF K t p.2
 |_=>false
def z96{K:yyF}{a:Addr}(h:z9K K a=true):∀p∈z1B,∃t,PySem.W.nsIn K a p.1=some (some (.ref t))/\zdF K t p.2=true:=λp hp=>by
 have:=y0u.mp h p hp;split at this
 .rename_i t e;exact⟨t,e,this⟩
 .cases this
end Gu
namespace L2
open PySem PySem.Builtin PySem.Builtin.Str PyProof.Rows
open PySem.SeqAt
section
theorem z8f:∀(n:Nat)(x acc:Array Nat),((List.replicate n x).foldl (·++·) acc).size=acc.size+x.size*n
 |0,x,acc=>by simp
 |n+1,x,acc=>by rw[y0Z,List.foldl_cons,z8f n x,Array.size_append,Nat.mul_succ];lia
end
end L2
namespace L2
open PySem PySem.Spec PyProof.Rows PySem.SeqAt
section
variable{X:Cx}{a b c:Expr}{ta tb tc:TE}{pos:Pos}
def zlB(te:TE):TE:=λσ H Q=>te σ H λv H1=>(∃y:Str,v=.str y/\y.length<=sizeLine/\Q (.str y) H1)\/∃i:Int,v=.int i/\i.natAbs.log2<1920/\Q (.str (Str.ofString (toString i))) H1
def zil(h:PE X a ta):PE X (.FormattedValue a (-1) none pos) (zlB ta):=by
 intro pins s σ H Q I hq;refine FormattedValue_plain (thn (h pins s σ H _ I hq) λu s1 hz8=>?_);obtain⟨x,H1,I1,rx,q1⟩:=hz8;rcases q1 with⟨y,rfl,hy,q⟩|⟨i,rfl,hi,q⟩
 .obtain⟨t,rfl⟩:=rx;exact formatField_str (λt' tk=>⟨.str y,H1,I1.tok _,⟨_,rfl⟩,q⟩) hy
 .obtain⟨t,rfl⟩:=rx;exact formatField_int_small hi ⟨.str _,H1,I1.tok _,⟨_,rfl⟩,q⟩
def zh8(ta tb:TE):TE:=λσ H Q=>ta σ H λv1 H1=>∃x1:Str,v1=.str x1/\x1.length<=sizeLine/\tb σ H1 λv2 H2=>∃x2:Str,v2=.str x2/\x1.length+x2.length<=sizeLine/\Q (.str (x1++x2)) H2
def zhz(ta tb tc:TE):TE:=λσ H Q=>ta σ H λv1 H1=>∃x1:Str,v1=.str x1/\x1.length<=sizeLine/\tb σ H1 λv2 H2=>∃x2:Str,v2=.str x2/\x1.length+x2.length<=sizeLine/\tc σ H2 λv3 H3=>∃x3:Str,v3=.str x3/\x1.length+x2.length+x3.length<=sizeLine/\Q (.str (x1++x2++x3)) H3
def zdn(ha:PE X a ta)(hb:PE X b tb)(he:evalEach [a,b] X.env=[eval a X.env,eval b X.env]:=by rfl):PE X (.JoinedStr [a,b] pos) (zh8 ta tb):=by
 intro pins s σ H Q I hq;refine wpAny_JoinedStr ?_;rw[he];refine thn (ha pins s σ H _ I hq) λu s1 hz8=>?_;obtain⟨x,H1,I1,rx,x1,ex,l1,q1⟩:=hz8;subst ex;obtain⟨t1,rfl⟩:=rx;refine⟨x1,t1,rfl,by rw[y27];exact l1,?_⟩;rw[y27];refine thn (hb pins s1 σ H1 _ I1 q1) λu s2 hz8=>?_;obtain⟨x,H2,I2,rx,x2,ex,l2,q2⟩:=hz8;subst ex;obtain⟨t2,rfl⟩:=rx;have l2':(x1++x2).length<=sizeLine:=by rw[y0F];exact l2
 exact⟨x2,t2,rfl,l2',l2',⟨.str _,H2,I2.tok _,⟨_,rfl⟩,q2⟩⟩
def zd7(ha:PE X a ta)(hb:PE X b tb)(hc:PE X c tc)(he:evalEach [a,b,c] X.env=[eval a X.env,eval b X.env,eval c X.env]:=by rfl):PE X (.JoinedStr [a,b,c] pos) (zhz ta tb tc):=by
 intro pins s σ H Q I hq;refine wpAny_JoinedStr ?_;rw[he];refine thn (ha pins s σ H _ I hq) λu s1 hz8=>?_;obtain⟨x,H1,I1,rx,x1,ex,l1,q1⟩:=hz8;subst ex;obtain⟨t1,rfl⟩:=rx;refine⟨x1,t1,rfl,by rw[y27];exact l1,?_⟩;rw[y27];refine thn (hb pins s1 σ H1 _ I1 q1) λu s2 hz8=>?_;obtain⟨x,H2,I2,rx,x2,ex,l2,q2⟩:=hz8;subst ex;obtain⟨t2,rfl⟩:=rx;have l2':(x1++x2).length<=sizeLine:=by rw[y0F];exact l2
 refine⟨x2,t2,rfl,l2',?_⟩;refine thn (hc pins s2 σ H2 _ I2 q2) λu s3 hz8=>?_;obtain⟨x,H3,I3,rx,x3,ex,l3,q3⟩:=hz8;subst ex;obtain⟨t3,rfl⟩:=rx;have l3':(x1++x2++x3).length<=sizeLine:=by rw[y0F,y0F];exact l3
 exact⟨x3,t3,rfl,l3',l3',⟨.str _,H3,I3.tok _,⟨_,rfl⟩,q3⟩⟩
end
end L2
namespace Gu
open PySem L2
def z4G(n:Nat)(rows:List Row)(m:Nat):Prop:=z1n n rows/\rows.length<=m
end Gu
namespace L2
open PySem PySem.Spec PyProof.Rows
section
variable{prog:Program}{w:World}{κ:Type}[DecidableEq κ]{knd:HeapKind prog w κ}{A:Around}{E:yyE}{s:Shared}{d a:Addr}{k:κ}
theorem z6h{α β:Type}(f:α->β):∀(l:List α)(i:Nat),(l.map f).eraseIdx i=(l.eraseIdx i).map f
 |[],_=>rfl
 |_::_,0=>rfl
 |x::l,i+1=>y1M (f x::·) (z6h f l i)
def z5Q{xs:List (κ × Addr × Value)}:∀{j:Nat}{p:Addr × Value},(xs.map (·.1)).Nodup->xs[j]?=some (k,p)->xs.eraseIdx j=xs.filter λx=>decide (x.1≠k):=by
 induction xs with
 |nil=>intro j p _ h;cases h
 |cons x xs ih =>
  intro j p hn h;rw[y0o,y1l]at hn;cases j with
  |zero =>
   obtain rfl:=y06 h;rw[List.eraseIdx_cons_zero,y1u (by simp)];refine(List.filter_eq_self.mpr λy hy=>?_).symm;exact y1x λz=>hn.1 (y0f.mpr ⟨y,hy,z⟩)
  |succ j =>
   rw[y2M]at h;rw[List.eraseIdx_cons_succ,y1v,ih hn.2 h];refine y1x λz=>hn.1 ?_;exact y0f.mpr ⟨(k,p),y0M h,z.symm⟩
def z59{xs:List (κ × Addr × Value)}{j:Nat}{p:Addr × Value}{Q:Option DictEntry->Shared->Prop}(hu:knd.room A)(hkey:knd.is s.heap k a)(hm:s.heap.DictOfH knd d xs)(hj:xs[j]?=some (k,p))(hz:xs.length<=sizeLine)(hQ:∀e h',h'.DictOfH knd d (xs.filter λx=>decide (x.1≠k))->Heap.SameBut d s.heap h'->Q (some e) { s with heap:=h',toks:=s.toks+knd.draws k }) : wpAny (model prog w) A (Builtin.Dict.takeOut d (.ref a)) Q E s:=by
 obtain⟨o,es,ep,ho,hc,hd,he,his,hn⟩:=hm;have hes:es.size<=sizeLine:=by rw[size_of_entries he];exact hz
 unfold Builtin.Dict.takeOut;refine y0C (y00 (knd.pyHash hu hkey (y00 (wpAny_dictFind_heap (s:={ s with toks:=s.toks+knd.draws k }) hu hkey ho hd he his hn (λz=>absurd hj (z j p)) λi q hi=>?_))));obtain rfl:i=j:=idxH_unique hn hi hj;refine y00 (wpAny_dictEntries (s:={ s with toks:=s.toks+knd.draws k }) ho hd ?_);rw[entry_at he i,hi];refine y00 (wpAny_updateDictKeys (hz:=hes) (s:={ s with toks:=s.toks+knd.draws k }) ho hd (y03 (hQ _ _ ⟨_,_,ep+1,y1b _ ho (Obj.isFreed_of_dict (Obj.data_mapDictKeys hd _)),hc.mapDictKeys _,Obj.data_mapDictKeys hd _,?_,λx hx=>?_,?_⟩ (y2u ..))))
 .rw[<-z5Q hn hi];have e2:(es.eraseIdxIfInBounds i).toList=es.toList.eraseIdx i:=by obtain⟨l⟩:=es;simp
  rw[e2,he];exact z6h _ xs i
 .exact knd.keeps (his x (List.mem_filter.mp hx).1) ho hd (y2u ..)
 .exact hn.sublist (List.filter_sublist.map _)
end
open PySem.SeqAt
end L2
namespace W
open PySem L2 PySem.Spec
section
variable{P:Obj->Prop}
inductive KD(P:Obj->Prop){α:Type}:Sem α->Prop
 |pure (a:α):KD P (.pure a)
 |uns (x:String):KD P (.unsupported x)
 |load {a:Addr} {p:Option Value} {k:Obj->Sem α}:(∀o,KD P (k o))->KD P (.load a p k)
 |upd {a:Addr} {p:Option Value} {f:Obj->Obj} {k:Unit->Sem α}:(∀o,P o->P (f o))->KD P (k ())->KD P (.update a p f k)
 |alloc {o:Obj} {k:Addr->Sem α}:(∀a,KD P (k a))->KD P (.alloc o k)
 |stack {k:List (Code × Pos)->Sem α}:(∀l,KD P (k l))->KD P (.stack k)
theorem KD.bind{α β:Type}{t:Sem α}{f:α->Sem β}(h:KD P t)(g:∀a,KD P (f a)):KD P (t>>=f):=by
 show KD P (Sem.bind t f);induction h with
 |pure a=>exact g a
 |uns x=>exact .uns x
 |load _ ih=>exact .load ih
 |upd u _ ih=>exact .upd u ih
 |alloc _ ih=>exact .alloc ih
 |stack _ ih=>exact .stack ih
def Pv(P:Obj->Prop)(ea:Addr)(h:Heap):Prop:=∃o,h.get? ea=some o/\P o
theorem KD.wp{α:Type}{M:Model}{Γ:PySem.Ctx}{E:Value->Pos->Shared->Prop}{Q:α->Shared->Prop}{t:Sem α}{ea:Addr}(hP:∀o,P o->o.isFreed=false)(k:KD P t):∀{s:Shared}{p:Pos},Pv P ea s.heap->Sem.wp M Γ t (λa _ s'=>Pv P ea s'.heap->Q a s') E p s->Sem.wp M Γ t (λa _ s'=>Q a s') E p s:=by
 induction k with
 |pure a=>exact λhp h=>h hp
 |uns x=>exact λ_ h=>h
 |load _ ih=>exact λhp ⟨o,e,h⟩=>⟨o,e,ih o hp h⟩
 |@upd a _ f _ u _ ih =>
  refine λhp ⟨e,h⟩=>⟨e,ih ?_ h⟩;obtain⟨o,eo,po⟩:=hp;by_cases ha:a=ea
  .subst ha;exact⟨f o,y1b f eo (hP _ (u o po)),u o po⟩
  .exact⟨o,(y1F _ _ ha).trans eo,po⟩
 |alloc _ ih=>exact λ⟨o,eo,po⟩ h=>ih _ ⟨o,y02 _ eo,po⟩ h
 |stack _ ih=>exact λhp h=>ih _ hp h
def KD.any{α:Type}{M:Model}{A:Around}{E:yyE}{Q:α->Shared->Prop}{t:Sem α}{ea:Addr}(hP:∀o,P o->o.isFreed=false)(k:KD P t){s:Shared}(hp:Pv P ea s.heap)(h:wpAny M A t (λa s'=>Pv P ea s'.heap->Q a s') E s):wpAny M A t Q E s :=
 λΓ p hΓ=>k.wp hP hp (h Γ p hΓ)
end
def xn(c:Nat):Nat:=cond (Nat.blt c 16) c 7
def xd(c:Nat):Option Addr:=cond (Nat.blt c 16) none (some (c-16))
def XP(c:Nat)(o:Obj):Prop:=o.dict=xd c/\∃vs,o.data=.fields vs/\(xd c=none->vs[2]?=some .none)
def XP.nf{c:Nat}{o:Obj}(h:XP c o):o.isFreed=false:=by obtain⟨_,vs,e,_⟩:=h;exact Obj.isFreed_of_fields e
def XP.map{c:Nat}{o:Obj}(i:Nat)(v:Value)(hi:i≠2)(h:XP c o):XP c (o.mapFields (·.setIfInBounds i v)):=by obtain⟨d,vs,e,f⟩:=h;obtain⟨a,b,dt,sl⟩:=o;cases e;exact⟨d,_,rfl,λz=>by rw[Array.getElem?_setIfInBounds_ne hi];exact f z⟩
section
variable{c:Nat}
def zha{α:Type}{t u:Sem α}{p:Prop}[Decidable p](h:KD (XP c) t)(g:KD (XP c) u):KD (XP c) (if p then t else u):=by split<;>assumption
def z9R(v:Value):KD (XP c) (fieldsOf v):=by
 unfold fieldsOf;split
 .exact .load λo=>by
   show KD _ (match o.data with|.fields vs=>Pure.pure vs|_=>unsupported _:Sem _)
   split
   .exact .pure _
   .exact .uns _
 .exact .uns _
def z31(v:Value)(i:Nat):KD (XP c) (field v i):=by unfold field;exact(z9R v).bind λvs=>by split<;>first|exact .pure _|exact .uns _
def zaP(v:Value)(i:Nat)(x:Value)(hi:i≠2):KD (XP c) (setField v i x):=by
 unfold setField updateField;split
 .exact .load λo=>by
   show KD _ (match o.data with|.fields vs=>(if i<vs.size then update _ (Obj.mapFields (·.setIfInBounds i x))else unsupported _)|_=>unsupported _:Sem _)
   split
   .split
    .exact .upd (λo h=>h.map i x hi) (.pure _)
    .exact .uns _
   .exact .uns _
 .exact .uns _
def z3I(e:Value)(f:Option Addr):KD (XP c) (setFlight e f):=by unfold setFlight;exact(z31 _ _).bind λv=>by split<;>first|exact zaP _ _ _ (by decide)|exact .pure _
def zc1(a b d e f:Value)(l:List Value):KD (XP c) (EntryCells.newEntry a b d e f l):=by unfold EntryCells.newEntry newFields newObj;exact zha (.uns _) (.alloc λ_=>.pure _)
theorem z7D:∀l:List Env,KD (XP c) (readyFrames l)
 |[]=>by unfold readyFrames;exact .pure _
 |env::outer=>by
  unfold readyFrames;split
  .refine KD.bind (.load λ_=>.pure _) λo=>?_;split
   .exact .pure _
   .refine KD.bind ?_ λim=>KD.bind ?_ λbk=>.upd (λo h=>h) (z7D outer)
    .unfold behindIsImport;split
     .exact .pure _
     .split
      .exact .pure _
      .exact(z31 _ _).bind λ_=>.pure _
    .unfold keptBack underTheClaimsCaller;split
     .split
      .exact .pure _
      .exact .stack λ_=>.pure _
     .exact .pure _
  .exact .uns _
def zbf(e:Value)(env:Env):KD (XP c) (noteFrame e env):=by
 unfold noteFrame;split
 .refine(z31 _ _).bind λv=>?_;have tl:∀b,KD (XP c) (do setField e 1 (<-EntryCells.newEntry v (<-PySem.frameOf env) .none (rawInt b) .none (<-entryPlaceOf b (v != .none))):Sem Unit):=λb=>by
   refine KD.bind ?_ λf=>KD.bind ?_ λl=>(zc1 _ _ _ _ _ _).bind λx=>zaP _ _ _ (by decide)
   .unfold PySem.frameOf frameEnvs frameObject;refine KD.bind (.stack λ_=>.pure _) λl=>KD.bind ?_ λx=>by split<;>first|exact .pure _|exact .uns _
    split
    .exact .pure _
    .exact(z7D _).bind λ_=>.pure _
   .unfold entryPlaceOf;refine .stack λl=>?_;show KD _ (match l.find? _ with|some (_,pos)=>_|none=>_:Sem _)
    split<;>exact .pure _
  split
  .refine(z31 _ _).bind λx=>?_;split
   .exact .pure _
   .exact(zaP _ _ _ (by decide)).bind λ_=>tl _
  .exact tl _
 .exact .uns _
def z8w(env:Env)(e:Value):KD (XP c) (leaving env e):=(zbf e env).bind λ_=>z3I e none
end
def subIn(K:yyF)(C C':Addr):Bool:=match K.lookup C with
 |some ⟨_,_,.cls cd,_⟩=>cd.mro.contains (.ref C')
 |_=>false
def nsC(K:yyF)(C:Addr):Addr:=match K.lookup C with
 |some ⟨_,_,.cls cd,_⟩=>cd.ns
 |_=>0
def zf5(K:yyF)(C:Addr)(bB:List Value)(id:String)(i:Option Value):Bool:=match K.lookup C with
 |some o=>(match o.data,o.slots.toList with
  |.cls d,[_,_,_,_,some (.builtin n),_]=>decide (o.cls=.type "type")&&decide (n=id)&&(d.hasDel==false)&&(match d.mro with
   |z::r=>z == .ref C&&PySem.W.tailIn K bB r
   |[]=>false)&&PySem.W.nsOkIn K d.ns&&PySem.W.nsIn K d.ns "__init__" == some i
  |_,_=>false)
 |none=>false
def zln{K:yyF}{h:Heap}{N:Addr}{m:yyS}{n:Str}{r:Option Value}(X:K.In h)(G:h.Ns N m)(e:PySem.W.nsIn K N n=some r):m n=r:=by
 cases r with
 |none=>exact PySem.W.ns_none_of X G e
 |some v =>
  obtain⟨o,es,ep,ho,hd,_,hf⟩:=G;unfold PySem.W.nsIn at e;split at e
  .rename_i q;cases ho.symm.trans (X _ _ q);cases hd;split at e
   .rename_i en he;cases e;rw[<-hf];unfold nsFind findBy;rw[<-Array.find?_toList,he];rfl
   .split at e<;>cases e
  .cases e
def z9M{K:yyF}{h:Heap}{C:Addr}{bmB:List Value}{newId:String}{i:Option Value}(X:K.In h)(e:zf5 K C bmB newId i=true):∃bm nm q bs hd sn sub ab col dd k0 k1 k2 k3 k5, h.get? C=some (excClassObj nm q C (nsC K C) bs bm hd sn sub ab col dd k0 k1 k2 k3 k5 newId)/\h.Ns (nsC K C) (h.nsMap (nsC K C))/\h.nsMap (nsC K C) "__init__"=i/\OwnTail h bmB bm/\∀C',(Value.ref C::bm).contains (.ref C')=subIn K C C':=by
 unfold zf5 at e;split at e
 .rename_i o hl;split at e
  .rename_i cd a0 a1 a2 a3 n a5 hm hs;simp only[y0b,y1y,y1A]at e;obtain⟨⟨⟨⟨⟨e1,e2⟩,e3⟩,e4⟩,e5⟩,e6⟩:=e;split at e4
   .rename_i z r hz;simp only[y0b,y1y]at e4;obtain⟨c,dict,dt,sl⟩:=o;obtain⟨nm,bs,mro,ns,q,hd,sn,sub,ab,col,hdel⟩:=cd;simp only at hm e3 e5 e6 e1 hs hz;have hsl:sl=#[a0,a1,a2,a3,some (Value.builtin n),a5]:=by rw[<-Array.toArray_toList (xs:=sl),hs]
    subst hm e3 hsl e1 hz e2;rw[e4.1]at hl;have en:nsC K C=ns:=by unfold nsC;rw[hl]
    rw[en];refine⟨r,nm,q,bs,hd,sn,sub,ab,col,dict,a0,a1,a2,a3,a5,X C _ hl,Heap.Ns.of_isNs (PySem.W.isNs_of_in X e5),?_,PySem.W.tail_of_in X e4.2,λC'=>by unfold subIn;rw[hl]⟩;exact zln X (Heap.Ns.of_isNs (PySem.W.isNs_of_in X e5)) e6
   .cases e4
  .cases e
 .cases e
def Fl(xa:Nat->Addr)(h0:Heap)(H:Hp)(h:Heap)(ea c:Nat):Prop:=Fly h0 H h ea (xa (xn c))/\Pv (XP c) ea h
section
variable{P:Program}{w:World}{xa:Nat->Addr}
section
variable{M:Model}{A:Around}{E:yyE}{Q:Unit->Shared->Prop}{s:Shared}{fr:List Addr}{H1 H':Hp}{h1:Heap}{env:Env}{outer:List Env}{L ea c:Nat}{base:Heap}
def zfa(hA:A.frames=some (env::outer))(hL:env.frame=some L)(FF:s.heap.FunFrames base (env::outer))(u:Un fr [] H1 H' h1 s.heap)(hok:HOk P w H' s.heap)(hfr:∀b∈frs (env::outer),H' b=none/\(b∈fr\/h1.get? b=none))(hfr2:∀b∈fr,b∈frs (env::outer))(hf:zg6 h1 H' s.heap ea (xa (xn c))\/Fly h1 H' s.heap ea (xa (xn c)))(hx:Pv (XP c) ea s.heap)(k:∀h',Un fr [] H1 H' h1 h'->HOk P w H' h'->Fl xa h1 H' h' ea c->Q () { s with heap:=h' }):wpAny M A (leaving env (.ref ea)) Q E s :=
 KD.any (λ_=>XP.nf) (z8w _ _) hx (zd0 hA hL FF u hok hfr hfr2 hf λh' a b d hx=>k h' a b ⟨d,hx⟩)
def zb5(FF:s.heap.FunFrames base (env::outer))(u:Un fr [] H1 H' h1 s.heap)(hok:HOk P w H' s.heap)(hfr:∀b∈frs (env::outer),H' b=none/\(b∈fr\/h1.get? b=none))(hfr2:∀b∈fr,b∈frs (env::outer))(hf:Fl xa h1 H' s.heap ea c)(k:∀h',Un fr [] H1 H' h1 h'->HOk P w H' h'->Fl xa h1 H' h' ea c->Q () { s with heap:=h' }):wpAny M A (setFlight (.ref ea) none) Q E s :=
 KD.any (λ_=>XP.nf) (z3I _ _) hf.2 (zcP FF u hok hfr hfr2 hf.1 λh' a b d hx=>k h' a b ⟨d,hx⟩)
def zi5(hA:A.frames=some (env::outer))(hL:env.frame=some L)(FF:s.heap.FunFrames base (env::outer))(u:Un fr [] H1 H' h1 s.heap)(hok:HOk P w H' s.heap)(hfr:∀b∈frs (env::outer),H' b=none/\(b∈fr\/h1.get? b=none))(hfr2:∀b∈fr,b∈frs (env::outer))(hf:Fl xa h1 H' s.heap ea c)(k:∀h',Un fr [] H1 H' h1 h'->HOk P w H' h'->Fl xa h1 H' h' ea c->Q () { s with heap:=h' }):wpAny M A (noteFrame (.ref ea) env) (λ_ s2=>wpAny M A (setFlight (.ref ea) none) Q E s2) E s :=
 KD.any (λ_=>XP.nf) (zbf _ _) hf.2 (y0B (zfZ (Q:=λ_ s'=>Pv (XP c) ea s'.heap->Q () s') hA hL FF u hok hfr hfr2 hf.1 λh' a b d hx=>k h' a b ⟨d,hx⟩) (λ_ _ h hp=>KD.any (λ_=>XP.nf) (z3I _ _) hp h) λ_ _ z=>z)
end
def CXw(xa:Nat->Addr)(P:Program)(w:World):CXT:=λouter H s E e s'=>∃(ea c:Nat)(H':Hp),e=.ref ea/\s'.os=s.os/\PyProof.Rows.AllBare s'.gens/\Un (frs outer) [] H H' s.heap s'.heap/\HOk P w H' s'.heap/\Fl xa s.heap H' s'.heap ea c/\E (.ref ea) (some c) H'
instance:NoE (CXw xa P w):=⟨λ⟨_,_,_,_,_,_,_,_,_,h⟩=>h⟩
instance:zkm (CXw xa P w):=⟨λ{s s' H cs ob outer E e} h1 h2 h3 ⟨ea,c,H',e1,os,bare,un,hok,⟨fly,fx⟩,q⟩=>by
 obtain⟨un2,hok2⟩:=unT h1 h2 h3 un hok;have no:∀{b:Addr},H' b=none->utk H' cs b=none:=λ{b} z=>by
  by_cases hc:b∈cs
  .exact z4i hc
  .rw[z0r hc];exact z
 obtain⟨f1,f2,a0,oe,vs,T,oT,ts,g1,g2,g3,g4,g5,g6,g7,g8⟩:=fly;exact⟨ea,c,utk H' cs,e1,os,bare,un2,hok2,⟨⟨f1,no f2,a0,oe,vs,T,oT,ts,g1,g2,g3,g4,g5,g6,no g7,g8⟩,fx⟩,q⟩⟩
section
variable{K:yyF}{mg:yyS}{base:Heap}{N:List Str}{qual:Str}{scope:Scope}{f:Addr}{cd:Value}{A:Around}{outer:List Env}{s:Shared}{H:Hp}{E E':XK}
def zk5{pins:yyP}{σ:L2.St}{H':Hp}{s':Shared}{ea c:Nat}(J:Inv (z2a (CXw xa P w) P w K mg base N qual scope f cd A outer s H E) pins σ H' s')(hf:zg6 s.heap H' s'.heap ea (xa (xn c))\/Fly s.heap H' s'.heap ea (xa (xn c)))(hx:Pv (XP c) ea s'.heap)(hE:E (.ref ea) (some c) H'):(z2a (CXw xa P w) P w K mg base N qual scope f cd A outer s H E).xe (.ref ea) s':=by
 have hfree:=J.stkFree;show wpAny (model P w) (A.deeper (PyProof.Rows.envOfC qual scope s.heap.objs.size f cd)) (leaving (PyProof.Rows.envOfC qual scope s.heap.objs.size f cd) (.ref ea)) (λ_ s''=>CXw xa P w outer H s E (.ref ea) s'') (λe' s''=>CXw xa P w outer H s E e' s'') s';refine zfa (P:=P) (w:=w) (fr:=frs outer) (H1:=H) (H':=H') (h1:=s.heap) (base:=base) J.ok.frames rfl J.stack J.base J.hok (λb hb=>⟨hfree b hb,?_⟩) (λb hb=>y0d _ hb) hf hx λh' a b d=>?_
 .rcases y0k.mp (J.stkSub b hb)with z|z
  .right;rw[z];exact y1s (y09 _)
  .exact .inl z
 .exact⟨ea,c,H',rfl,J.os,J.bare,a,b,d,hE⟩
def z2x(hE:∀e C H',E' e C H'->E e C H'):z2C (CXw xa P w) (z2a (CXw xa P w) P w K mg base N qual scope f cd A outer s H E) E':=by
 intro pins σ H1 s1 e s' I hx;obtain⟨ea,c,H',rfl,os,bare,un,hok,⟨fly,fx⟩,q⟩:=hx;have up:∀b,s1.heap.get? b=none->s.heap.get? b=none:=λb z=>by
  cases q:s.heap.get? b with
  |none=>rfl
  |some o =>
   obtain⟨o',e⟩:=I.base.there b o q (by simp[z2a]);rw[z]at e;cases e
 obtain⟨a1,a2,a0,oe,vs,T,oT,ts,g1,g2,g3,g4,g5,g6,r⟩:=fly;exact zk5 (I.call' (ch:=[]) os un hok bare (λb z=>absurd z (by simp))) (.inr ⟨up _ a1,a2,a0,oe,vs,T,oT,ts,g1,g2,g3,g4,g5,up _ g6,r⟩) fx (hE _ _ _ q)
def z9W{x:Str}{c:Nat}{B newId initId:String}{bmB:List Value}{arg:Expr}{ta:TE}{np cpos pos:Pos}(hc:Nat.blt c 16=true)(hx:mg x=some (.ref (xa c)))(hg:Gl (z2a (CXw xa P w) P w K mg base N qual scope f cd A outer s H E) x)(he:zf5 K (xa c) bmB newId none=true)(hB:ExcBaseFacts B newId initId bmB)(ha:PE (z2a (CXw xa P w) P w K mg base N qual scope f cd A outer s H E) arg ta)(htr:backTo cpos (starEach [arg] (z2a (CXw xa P w) P w K mg base N qual scope f cd A outer s H E).env)=[(false,eval arg (z2a (CXw xa P w) P w K mg base N qual scope f cd A outer s H E).env)]:=by rfl)(hdb:(x==("__debug__":Str))=false:=by decide) : PS (z2a (CXw xa P w) P w K mg base N qual scope f cd A outer s H E) (.Raise (some (.Call (.Name x np) [arg] [] cpos)) none pos) (λD σ H=>ta σ H λv H1=>∀ea,E (.ref ea) (some c) H1):=by
 intro pins s1 σ H D I h;obtain⟨bm,nm,q,bs,hd,sn,sub,ab,col,dict,a0,a1,a2,a3,a5,hC,hN,hi,ht,_⟩:=z9M I.ok.mod.kin he;refine wpAny_Raise_call_subT (nm:=nm) (q:=q) (N:=nsC K (xa c)) (bs:=bs) (hdct:=hd) (sn:=sn) (sub:=sub) (ab:=ab) (col:=col) (dd:=dict) (k0:=a0) (k1:=a1) (k2:=a2) (k3:=a3) (k5:=a5) hB (z5j ht hB.hasBase) (I.ok.hd rfl) (by rw[htr];rfl) hi (z23 I hg hx ⟨rfl,?_⟩ hdb);rw[htr];refine y3a (Calls.spliced_cons (thn (ha pins s1 σ H _ I h) λu s2 ⟨v,H2,I2,r2,q2⟩=>Calls.spliced_nil ?_));have bk:=I2.bk;refine⟨rfl,by show 1<=sizeLine;decide,bk _ _ hC,hN.keeps bk,ht.keeps bk,λh' e me=>?_⟩;obtain⟨kp,nw,t,g1,g2,g3⟩:=me;have ec:xn c=c:=by unfold xn;rw[hc];rfl
 have ed:xd c=none:=by unfold xd;rw[hc];rfl
 refine zk5 (I2.kept (h':=h') (t':=s2.toks) kp) (.inl ?_) ⟨_,g1,by rw[ed],_,rfl,λ_=>rfl⟩ (q2 e);rw[ec];refine⟨?_,?_,_,_,_,g1,⟨rfl,rfl⟩,rfl,rfl⟩
 .cases z:s.heap.get? e with
  |none=>rfl
  |some o =>
   obtain⟨o',e'⟩:=I2.base.there e o z (by simp[z2a]);rw[nw]at e';cases e'
 .cases z:H2 e with
  |none=>rfl
  |some o =>
   obtain⟨ob,hob⟩:=z34 (I2.hok e o z);rw[nw]at hob;cases hob
end
end
inductive U where
 |non|bl (b:Bool)|int (i:Int)|str (x:Str)|tup (us:List U)|ref (a:Addr)
inductive Ob where
 |lst (us:List U)|scr (us:List U)|ins (C:Addr) (fs:List (Str × U))|dic (t:Bool) (kvs:List (U × U))|clo (i:Nat) (ρ:List (Option U))|pin (o:Obj) (xs:List (U × Addr × Value)) (kvs:List (U × U))|thg (x:HO)
abbrev Sto:=Addr->Option Ob
structure zkZ where
 params:Arguments
 body:Expr
 scope:Scope
 qual:Str
 N:List Str
 ps:List Str
class WW where
 w:World
 Ts:List Tb
 lam:Nat->zkZ
 rd:Nat->List (Option U)->Sto->(U->Sto->Prop)->Prop
mutual
def Ur(H:Hp):U->V->Prop
 |.non,v=>v=.non
 |.bl b,v=>v=.bl b
 |.int i,v=>v=.int i
 |.str x,v=>v=.str x
 |.ref a,v=>v=.ref a
 |.tup us,v=>∃a vs,v=.ref a/\H a=some (.tup vs)/\UrL H us vs
def UrL(H:Hp):List U->List V->Prop
 |[],vs=>vs=[]
 |u::us,vs=>∃v r,vs=v::r/\Ur H u v/\UrL H us r
end
structure Kp(H H':Hp):Prop where
 tup:∀a xs,H a=some (.tup xs)->H' a=some (.tup xs)
 frz:∀a o u,H a=some (.frz o u)->H' a=some (.frz o u)
def Kp.refl(H:Hp):Kp H H:=⟨λ_ _ h=>h,λ_ _ _ h=>h⟩
def Kp.trans{H H1 H2:Hp}(a:Kp H H1)(b:Kp H1 H2):Kp H H2:=⟨λx y h=>b.tup x y (a.tup x y h),λx y z h=>b.frz x y z (a.frz x y z h)⟩
def Kp.new{H:Hp}{a:Addr}{o:HO}(h:H a=none):Kp H (upd H a o):=⟨λx _ e=>by rw[z0c (z0h e h)];exact e,λx _ _ e=>by rw[z0c (z0h e h)];exact e⟩
def Kp.put{H:Hp}{a:Addr}{o o':HO}(h:H a=some o)(h1:∀xs,o≠.tup xs)(h2:∀b u,o≠.frz b u):Kp H (upd H a o'):=by
 refine⟨λx y e=>?_,λx y z e=>?_⟩
 .rw[z0c];exact e;rintro rfl;rw[h]at e;cases e;exact h1 _ rfl
 .rw[z0c];exact e;rintro rfl;rw[h]at e;cases e;exact h2 _ _ rfl
abbrev Tp(H H':Hp):Prop:=∀a xs,H a=some (.tup xs)->H' a=some (.tup xs)
mutual
theorem Ur.tp{H H':Hp}(k:Tp H H'):∀{u:U}{v:V},Ur H u v->Ur H' u v
 |.non,_,h|.bl _,_,h|.int _,_,h|.str _,_,h|.ref _,_,h=>by simp only[Ur]at h⊢;exact h
 |.tup us,_,h=>by simp only[Ur]at h⊢;obtain⟨a,vs,e,z,r⟩:=h;exact⟨a,vs,e,k _ _ z,UrL.tp k r⟩
theorem UrL.tp{H H':Hp}(k:Tp H H'):∀{us:List U}{vs:List V},UrL H us vs->UrL H' us vs
 |[],_,h=>by simp only[UrL]at h⊢;exact h
 |u::us,_,h=>by simp only[UrL]at h⊢;obtain⟨v,r,e,q1,q2⟩:=h;exact⟨v,r,e,Ur.tp k q1,UrL.tp k q2⟩
end
def Ur.mono{H H':Hp}(k:Kp H H'){u:U}{v:V}(h:Ur H u v):Ur H' u v:=h.tp k.tup
def UrL.mono{H H':Hp}(k:Kp H H'){us:List U}{vs:List V}(h:UrL H us vs):UrL H' us vs:=h.tp k.tup
def UrL.cons{H:Hp}{u:U}{v:V}{us:List U}{vs:List V}(a:Ur H u v)(b:UrL H us vs):UrL H (u::us) (v::vs):=by simp only[UrL];exact⟨v,vs,rfl,a,b⟩
def UrL.nil{H:Hp}:UrL H [] []:=by simp only[UrL]
theorem UrL.len{H:Hp}:∀{us:List U}{vs:List V},UrL H us vs->us.length=vs.length
 |[],_,h=>by simp only[UrL]at h;subst h;rfl
 |u::us,_,h=>by simp only[UrL]at h;obtain⟨v,r,rfl,_,q⟩:=h;rw[y0c,y0c,q.len]
theorem UrL.app{H:Hp}:∀{us us':List U}{vs vs':List V},UrL H us vs->UrL H us' vs'->UrL H (us++us') (vs++vs')
 |[],_,_,_,h,h'=>by simp only[UrL]at h;subst h;exact h'
 |u::us,_,_,_,h,h'=>by simp only[UrL]at h;obtain⟨v,r,rfl,p,q⟩:=h;exact .cons p (q.app h')
theorem UrL.get{H:Hp}:∀{us:List U}{vs:List V}{i:Nat}{u:U},UrL H us vs->us[i]?=some u->∃v,vs[i]?=some v/\Ur H u v
 |[],_,_,_,_,e=>by simp at e
 |u::us,_,0,_,h,e=>by
  simp only[UrL]at h;obtain⟨v,r,rfl,p,_⟩:=h;simp at e;subst e;exact⟨v,rfl,p⟩
 |u::us,_,i+1,_,h,e=>by simp only[UrL]at h;obtain⟨v,r,rfl,_,q⟩:=h;obtain⟨v',h1,h2⟩:=q.get (i:=i) (by simpa using e);exact⟨v',by simpa using h1,h2⟩
theorem UrL.take{H:Hp}:∀{us:List U}{vs:List V}(n:Nat),UrL H us vs->UrL H (us.take n) (vs.take n)
 |us,_,0,h=>by rw[List.take_zero,List.take_zero];exact .nil
 |[],_,n+1,h=>by simp only[UrL]at h;subst h;exact .nil
 |u::us,_,n+1,h=>by simp only[UrL]at h;obtain⟨v,r,rfl,p,q⟩:=h;exact .cons p (q.take n)
theorem UrL.drop{H:Hp}:∀{us:List U}{vs:List V}(n:Nat),UrL H us vs->UrL H (us.drop n) (vs.drop n)
 |us,_,0,h=>h
 |[],_,n+1,h=>by simp only[UrL]at h;subst h;exact .nil
 |u::us,_,n+1,h=>by simp only[UrL]at h;obtain⟨v,r,rfl,p,q⟩:=h;exact q.drop n
abbrev En:=List (Option U)
def lk:En->Nat->Option U
 |[],_=>none
 |x::_,0=>x
 |_::r,n+1=>lk r n
def st:En->Nat->U->En
 |[],_,_=>[]
 |_::r,0,u=>some u::r
 |x::r,n+1,u=>x::st r n u
def EnR(H:Hp)(ρ:En)(σ:St):Prop:=ρ.length=σ.length/\∀i u,lk ρ i=some u->∃v,σ[i]?=some (some v)/\Ur H u v
theorem EnR.tp{H H':Hp}{ρ:En}{σ:St}(h:EnR H ρ σ)(k:Tp H H'):EnR H' ρ σ:=⟨h.1,λi u e=>let⟨v,a,b⟩:=h.2 i u e;⟨v,a,b.tp k⟩⟩
def EnR.mono{H H':Hp}{ρ:En}{σ:St}(h:EnR H ρ σ)(k:Kp H H'):EnR H' ρ σ:=h.tp k.tup
theorem zdy:∀(ρ:En)(i:Nat)(u:U),(st ρ i u).length=ρ.length
 |[],_,_=>rfl
 |_::r,0,_=>rfl
 |_::r,n+1,u=>by rw[st,y0c,y0c,zdy r n u]
theorem z7L:∀{ρ:En}{i j:Nat}{u:U},i≠j->lk (st ρ j u) i=lk ρ i
 |[],_,_,_,_=>rfl
 |_::r,0,0,_,h=>absurd rfl h
 |_::r,0,_+1,_,_=>rfl
 |_::r,_+1,0,_,_=>rfl
 |_::r,i+1,j+1,u,h=>z7L (ρ:=r) λe=>h (by rw[e])
theorem z7J:∀{ρ:En}{i:Nat}{u x:U},lk (st ρ i u) i=some x->x=u/\i<ρ.length
 |[],_,_,_,h=>by cases h
 |_::r,0,_,_,h=>by cases h;exact⟨rfl,Nat.succ_pos _⟩
 |_::r,i+1,u,x,h=>by obtain⟨a,b⟩:=z7J (ρ:=r) h;exact⟨a,Nat.succ_lt_succ b⟩
theorem EnR.set{H:Hp}{ρ:En}{σ:St}{u:U}{v:V}(h:EnR H ρ σ)(i:Nat)(r:Ur H u v):EnR H (st ρ i u) (σ.set i (some v)):=by
 refine⟨by rw[zdy,List.length_set];exact h.1,λj x e=>?_⟩;by_cases z:j=i
 .subst z;obtain⟨rfl,hl⟩:=z7J e;exact⟨v,by rw[y2N (by rw[<-h.1];exact hl)],r⟩
 .rw[z7L z]at e;obtain⟨v',h1,h2⟩:=h.2 j x e;exact⟨v',by rw[y1R (y0N z)];exact h1,h2⟩
def FsR(H:Hp):List (Str × U)->List (Str × V)->Prop:=Paired λp q=>p.1=q.1/\Ur H p.2 q.2
variable[WW]
def kU:Key->U
 |.inl i=>.int i
 |.inr x=>.str x
def KsR(H:Hp):List (U × U)->List (Key × V)->Prop:=Paired λp q=>p.1=kU q.1/\Ur H p.2 q.2
mutual
def ky:U->Bool
 |.int _=>true
 |.str _=>true
 |.tup us=>kyL us
 |_=>false
def kyL:List U->Bool
 |[]=>true
 |u::us=>ky u&&kyL us
end
mutual
def uh:U->Int
 |.int i=>hashInt i
 |.str x=>hashStr WW.w x
 |.tup us=>reduceHash (Builtin.Tuple.tupleHashOf (uhL us))
 |_=>0
def uhL:List U->List Int
 |[]=>[]
 |u::us=>uh u::uhL us
end
mutual
def dep:U->Nat
 |.tup us=>z6y us+1
 |_=>0
def z6y:List U->Nat
 |[]=>0
 |u::us=>max (dep u) (z6y us)
end
def isT:U->Bool
 |.tup _=>true
 |_=>false
def tk(u:U):Bool:=isT u&&ky u&&decide (dep u<=8)
def zeO(a:Addr)(xs:List (U × Addr × Value)):HO :=
 .ext λh=>(a==sysModules)=false/\∃o es ep,h.get? a=some o/\o.ExactDict/\o.data=.dict es ep/\es.toList=xs.map (λx=>⟨uh x.1,.ref x.2.1,x.2.2⟩)/\(xs.map (·.1)).Nodup
def UK(H:Hp):List (U × U)->List (U × Addr × Value)->Prop:=Paired λp q=>p.1=q.1/\(tk p.1=true/\Ur H p.1 (.ref q.2.1))/\∃v,Ur H p.2 v/\z0y v q.2.2
def zls(o:Obj)(a:Addr)(xs:List (U × Addr × Value)):HO :=
 .ext λh=>h.get? a=some o/\(a==sysModules)=false/\∃es ep,o.ExactDict/\o.data=.dict es ep/\es.toList=xs.map (λx=>⟨uh x.1,.ref x.2.1,x.2.2⟩)/\(xs.map (·.1)).Nodup
def z98(H:Hp)(a:Addr)(kvs:List (U × U)):Bool->Prop
 |false=>∃vs,H a=some (.dK vs)/\KsR H kvs vs
 |true=>∃xs,H a=some (zeO a xs)/\UK H kvs xs/\kvs.length<=sizeLine
def hid:HO->Bool
 |.frz _ _=>false
 |.tbl _=>false
 |_=>true
def ObR(H:Hp)(a:Addr):Ob->Prop
 |.lst us=>∃vs,H a=some (.lst vs)/\UrL H us vs
 |.scr us=>∃o vs,H a=some (.frz o (.lst vs))/\UrL H us vs
 |.ins C fs=>∃dx vs,H a=some (.ins C dx vs)/\FsR H fs vs
 |.dic t kvs=>z98 H a kvs t
 |.pin o xs kvs=>H a=some (zls o a xs)/\UK H kvs xs/\kvs.length<=sizeLine
 |.thg x=>H a=some x/\hid x=true
 |.clo i ρ=>∃fv,z2V H a (WW.lam i).params (WW.lam i).body (WW.lam i).scope (WW.lam i).qual (WW.lam i).N fv/\fv.length=(WW.lam i).N.length/\EnR H ρ fv
abbrev Hd:=List (Addr × HO)
def Rep(hd:Hd)(S:Sto)(H:Hp):Prop:=(∀a o,S a=some o->ObR H a o)/\(∀p∈hd,S p.1=none/\H p.1=some p.2/\hid p.2=true)/\z7c WW.Ts H
theorem ObR.some{H:Hp}{a:Addr}{o:Ob}(h:ObR H a o):∃x,H a=some x:=by
 cases o with
 |lst us=>obtain⟨_,e,_⟩:=h;exact⟨_,e⟩
 |scr us=>obtain⟨_,_,e,_⟩:=h;exact⟨_,e⟩
 |ins C fs=>obtain⟨_,_,e,_⟩:=h;exact⟨_,e⟩
 |dic t kvs=>cases t<;>(obtain⟨_,e,_⟩:=h;exact⟨_,e⟩)
 |clo i ρ=>obtain⟨_,⟨_,_,_,_,_,_,_,_,e,_⟩,_⟩:=h;exact⟨_,e⟩
 |pin o xs kvs=>exact⟨_,h.1⟩
 |thg x=>exact⟨_,h.1⟩
def z2V.kp{H H':Hp}{f:Addr}{params:Arguments}{body:Expr}{scope:Scope}{qual:Str}{N:List Str}{fv:St}(h:z2V H f params body scope qual N fv)(s:Kp H H'):z2V H' f params body scope qual N fv:=by
 obtain⟨clos,cs,pm,c',ctv,oc,vs,t,e1,e2,e3,e4,e5,e5',e6,e7,e8⟩:=h;refine⟨clos,cs,pm,c',ctv,oc,vs,t,s.frz _ _ _ e1,s.frz _ _ _ e2,e3,e4,e5,e5',λc hc=>?_,e7,λi x v h1 h2=>?_⟩
 .obtain⟨hx,o,u,q,d⟩:=e6 c hc;exact⟨hx,o,u,s.frz _ _ _ q,d⟩
 .obtain⟨c,o,u,q1,q2,q3⟩:=e8 i x v h1 h2;exact⟨c,o,u,q1,s.frz _ _ _ q2,q3⟩
def isC:Ob->Bool
 |.clo _ _=>true
 |_=>false
theorem ObR.tp{H H':Hp}{a:Addr}{o:Ob}(h:ObR H a o)(n:isC o=false)(k:Tp H H')(e:H' a=H a):ObR H' a o:=by
 cases o with
 |lst us=>obtain⟨vs,h1,h2⟩:=h;exact⟨vs,e.trans h1,h2.tp k⟩
 |scr us=>obtain⟨o,vs,h1,h2⟩:=h;exact⟨o,vs,e.trans h1,h2.tp k⟩
 |ins C fs=>obtain⟨dx,vs,h1,h2⟩:=h;exact⟨dx,vs,e.trans h1,Paired.mapP h2 λ_ _ z=>⟨z.1,z.2.tp k⟩⟩
 |dic t kvs =>
  cases t
  .obtain⟨vs,h1,h2⟩:=h;exact⟨vs,e.trans h1,Paired.mapP h2 λ_ _ z=>⟨z.1,z.2.tp k⟩⟩
  .obtain⟨vs,h1,h2,h3⟩:=h;exact⟨vs,e.trans h1,Paired.mapP h2 λ_ _ ⟨z1,z2,v,z3,z4⟩=>⟨z1,⟨z2.1,z2.2.tp k⟩,v,z3.tp k,z4⟩,h3⟩
 |pin o xs kvs =>
  obtain⟨h1,h2,h3⟩:=h;exact⟨e.trans h1,Paired.mapP h2 λ_ _ ⟨z1,z2,v,z3,z4⟩=>⟨z1,⟨z2.1,z2.2.tp k⟩,v,z3.tp k,z4⟩,h3⟩
 |thg x=>exact⟨e.trans h.1,h.2⟩
 |clo i ρ=>cases n
theorem ObR.mono{H H':Hp}{a:Addr}{o:Ob}(h:ObR H a o)(k:Kp H H')(e:H' a=H a):ObR H' a o:=by
 cases n:isC o with
 |false=>exact h.tp n k.tup e
 |true =>
  cases o<;>simp only[isC,y0L]at n;obtain⟨fv,h1,h2,h3⟩:=h;exact⟨fv,z2V.kp h1 k,h2,h3.mono k⟩
theorem Rep.none{hd:Hd}{S:Sto}{H:Hp}(r:Rep hd S H){a:Addr}(h:H a=none):S a=none:=by
 cases e:S a with
 |none=>rfl
 |some o=>obtain⟨x,q⟩:=(r.1 a o e).some;rw[h]at q;cases q
def ObR.notab{H:Hp}{a:Addr}{o:Ob}(h:ObR H a o):(∀ps,H a≠Option.some (.tbl ps))/\∀oc vs,oc.data=.fields vs->H a≠Option.some (frO oc):=by
 cases o with
 |lst us=>obtain⟨_,e,_⟩:=h;rw[e];exact⟨(λ_ z=>by cases z),λ_ _ _ z=>by cases z⟩
 |scr us=>obtain⟨_,_,e,_⟩:=h;rw[e];exact⟨(λ_ z=>by cases z),λ_ _ _ z=>by cases z⟩
 |ins C fs=>obtain⟨_,_,e,_⟩:=h;rw[e];exact⟨(λ_ z=>by cases z),λ_ _ _ z=>by cases z⟩
 |dic t kvs=>cases t<;>(obtain⟨_,e,_⟩:=h;rw[e];exact⟨(λ_ z=>by cases z),λ_ _ _ z=>by cases z⟩)
 |pin o xs kvs=>rw[h.1];exact⟨(λ_ z=>by cases z),λ_ _ _ z=>by cases z⟩
 |thg x=>rw[h.1];exact⟨(λ_ z=>by cases z;cases h.2),λ_ _ _ z=>by cases z;cases h.2⟩
 |clo i ρ =>
  obtain⟨_,⟨_,_,_,_,_,_,_,_,e,_⟩,_⟩:=h;rw[e];refine⟨(λ_ z=>by cases z),λoc vs d z=>?_⟩;injection z with z;injection z with z;rw[<-z]at d;cases d
def z1z{Ts:List Tb}{H H':Hp}(h:z7c Ts H)(k1:∀b ps,H b=some (.tbl ps)->H' b=some (.tbl ps))(k2:∀b oc vs,oc.data=.fields vs->H b=some (frO oc)->H' b=some (frO oc)):z7c Ts H':=λT hT=>by
 rcases h T hT with q|⟨c',oc,vs,t,q1,q2,q3,q4⟩
 .exact .inl (k1 _ _ q)
 .exact .inr ⟨c',oc,vs,t,k1 _ _ q1,k2 _ _ _ q3 q2,q3,q4⟩
def up(S:Sto)(a:Addr)(o:Ob):Sto:=λb=>if b=a then some o else S b
def z05{S:Sto}{a:Addr}{o:Ob}:up S a o a=some o:=by unfold up;rw[if_pos rfl]
def z0k{S:Sto}{a b:Addr}{o:Ob}(h:b≠a):up S a o b=S b:=by unfold up;rw[if_neg h]
theorem Rep.up{hd:Hd}{S:Sto}{H:Hp}{a:Addr}{o:Ob}{x:HO}(r:Rep hd S H)(k:Kp H (upd H a x))(n:H a=Option.none\/S a≠Option.none)(h:ObR (upd H a x) a o):Rep hd (up S a o) (upd H a x):=by
 refine⟨λb p e=>?_,λp hp=>?_,?_⟩
 .by_cases z:b=a
  .subst z;rw[z05]at e;cases e;exact h
  .rw[z0k z]at e;exact(r.1 b p e).mono k (z0c z)
 .obtain⟨h1,h2,h3⟩:=r.2.1 p hp;have z:p.1≠a:=by
   rintro rfl;rcases n with n|n
   .rw[n]at h2;cases h2
   .exact n h1
  exact⟨by rw[z0k z];exact h1,by rw[z0c z];exact h2,h3⟩
 .have nt:(∀ps,H a≠some (.tbl ps))/\∀oc vs,oc.data=.fields vs->H a≠some (frO oc):=by
   rcases n with n|n
   .rw[n];exact⟨(λ_ z=>by cases z),λ_ _ _ z=>by cases z⟩
   .cases e:S a with
    |none=>exact absurd e n
    |some o=>exact ObR.notab (r.1 a o e)
  exact z1z r.2.2 (λb ps e=>by rw[z0c (λz=>nt.1 ps (by rw[<-z];exact e))];exact e) λb oc vs d e=>by rw[z0c (λz=>nt.2 oc vs d (by rw[<-z];exact e))];exact e
abbrev Xq:=Nat->Sto->Prop
abbrev Kq(α:Type):=α->Sto->Prop
abbrev WG(α:Type):=En->Sto->Kq α->Xq->Prop
abbrev WE:=WG U
abbrev WA:=WG (List U)
abbrev WT:=WG Bool
section
def Co(hd:Hd){α β:Type}(R:Hp->α->β->Prop)(H:Hp)(Q:Kq α)(Q':β->Hp->Prop):Prop:=∀u S v H',Kp H H'->Rep hd S H'->R H' u v->Q u S->Q' v H'
def Cx'(xa:Nat->Addr)(xk:XK)(hd:Hd)(H:Hp)(E:Xq):Prop:=∀ea c S H',Kp H H'->Rep hd S H'->E c S->xk (.ref ea) (some c) H'
variable(xa:Nat->Addr)(xk:XK)
structure Ct(hd:Hd){α β:Type}(R:Hp->α->β->Prop)(H:Hp)(Q:Kq α)(E:Xq)(Q':β->Hp->Prop):Prop where
 ok:Co hd R H Q Q'
 ex:Cx' xa xk hd H E
def Lt(xk:St->XK){α β:Type}(R:Hp->α->β->Prop)(t:WG α):St->Hp->(β->Hp->Prop)->Prop:=λσ H Q' =>
 ∃hd ρ S Q E,EnR H ρ σ/\Rep hd S H/\t ρ S Q E/\Ct xa (xk σ) hd R H Q E Q'
end
section
variable{xa:Nat->Addr}{xk:XK}{xq:St->XK}{hd:Hd}{α β:Type}{R:Hp->α->β->Prop}
def Co.mono{H H1:Hp}{Q:Kq α}{Q':β->Hp->Prop}(c:Co hd R H Q Q')(k:Kp H H1):Co hd R H1 Q Q':=λu S v H' k'=>c u S v H' (k.trans k')
def Cx'.mono{H H1:Hp}{E:Xq}(c:Cx' xa xk hd H E)(k:Kp H H1):Cx' xa xk hd H1 E:=λea x S H' k'=>c ea x S H' (k.trans k')
theorem Ct.mono{H H1:Hp}{Q:Kq α}{E:Xq}{Q':β->Hp->Prop}(c:Ct xa xk hd R H Q E Q')(k:Kp H H1):Ct xa xk hd R H1 Q E Q':=⟨c.ok.mono k,c.ex.mono k⟩
def Lt.bind{γ δ:Type}{R1:Hp->γ->δ->Prop}{t:WG γ}{f:γ->WG α}{σ:St}{H:Hp}{Q':β->Hp->Prop}{T:δ->Hp->Prop}(h:Lt xa xq R (λρ S Q E=>t ρ S (λu S1=>f u ρ S1 Q E) E) σ H Q')(hT:∀hd ρ S Q E u v H1,EnR H1 ρ σ->Rep hd S H1->R1 H1 u v->f u ρ S Q E->Ct xa (xq σ) hd R H1 Q E Q'->T v H1):Lt xa xq R1 t σ H T:=by obtain⟨hd,ρ,S,Q,E,e,r,h,c⟩:=h;exact⟨hd,ρ,S,_,E,e,r,h,λu S1 v H1 k1 r1 u1 q1=>hT hd ρ S1 Q E u v H1 (e.mono k1) r1 u1 q1 (c.mono k1),c.ex⟩
end
section
variable(xa:Nat->Addr)(X:Cx)(xk:St->XK)
def SE(e:Expr)(t:WE):Prop:=PE X e (Lt xa xk Ur t)
def SA(es:List Expr)(t:WA):Prop:=PA X es (Lt xa xk UrL t)
def ST(e:Expr)(t:WT):Prop:=PT X e (Lt xa xk (λ_ a b=>a=b) t)
end
def PE.weak{X:Cx}{e:Expr}{t t':TE}(h:PE X e t)(w:∀σ H Q,t' σ H Q->t σ H Q):PE X e t':=λpins s σ H Q I q=>h pins s σ H Q I (w σ H Q q)
def PA.weak{X:Cx}{e:List Expr}{t t':TA}(h:PA X e t)(w:∀σ H Q,t' σ H Q->t σ H Q):PA X e t':=λpos pins s σ H Q I q=>h pos pins s σ H Q I (w σ H Q q)
def PT.weak{X:Cx}{e:Expr}{t t':TT}(h:PT X e t)(w:∀σ H Q,t' σ H Q->t σ H Q):PT X e t':=λpins s σ H Q I q=>h pins s σ H Q I (w σ H Q q)
def z7n(i:Nat):WE:=λρ S Q _=>match lk ρ i with
 |some u=>Q u S
 |none=>False
def wC(u:U):WE:=λ_ S Q _=>Q u S
def zds:WA:=λ_ S Q _=>Q [] S
def z2W(t:WE)(ts:WA):WA:=λρ S Q E=>t ρ S (λu S1=>ts ρ S1 (λus S2=>Q (u::us) S2) E) E
section
variable{xa:Nat->Addr}{X:Cx}{xk:St->XK}
def z01(i:Nat){x:Str}{pos:Pos}(hN:X.N[i]?=some x:=by rfl)(hv:Vis X.env.scope x:=by first|exact Or.inl rfl|exact Or.inr (Or.inl rfl)|exact Or.inr (Or.inr rfl))(hd:(x==("__debug__":Str))=false:=by decide)(hcd:(x==("__classdict__":Str))=false:=by decide):SE xa X xk (.Name x pos) (z7n i):=PE.weak (z4q hN hv hd hcd) λσ H Q' ⟨hd,ρ,S,Q,E,e,r,h,c⟩=>by
 unfold z7n at h;split at h
 .rename_i u hu;obtain⟨v,h1,h2⟩:=e.2 i u hu;exact⟨v,h1,c.ok u S v H (.refl H) r h2 h⟩
 .exact h.elim
def ziK{u:U}{v:V}{σ:St}{H:Hp}{Q':VK}(h:Lt xa xk Ur (wC u) σ H Q')(r:Ur H u v):Q' v H:=by obtain⟨hd,ρ,S,Q,E,e,rp,h,c⟩:=h;exact c.ok u S v H (.refl H) rp r h
def z06{i j pos}:SE xa X xk (.Constant (.int i) j pos) (wC (.int i)):=PE.weak zdQ λσ H Q h=>ziK h (by simp only[Ur])
def zhf{i j pos}:SE xa X xk (.Constant (.bool i) j pos) (wC (.bl i)):=PE.weak zjA λσ H Q h=>ziK h (by simp only[Ur])
def z4m{j pos}:SE xa X xk (.Constant .none j pos) (wC .non):=PE.weak zh6 λσ H Q h=>ziK h (by simp only[Ur])
def z0e{x j pos}:SE xa X xk (.Constant (.str x) j pos) (wC (.str x)):=PE.weak zi0 λσ H Q h=>ziK h (by simp only[Ur])
def z02:SA xa X xk [] zds:=PA.weak z2z λσ H Q' ⟨hd,ρ,S,Q,E,e,r,h,c⟩=>c.ok [] S [] H (.refl H) r .nil h
def z00{e:Expr}{es:List Expr}{t:WE}{ts:WA}(h:SE xa X xk e t)(hs:SA xa X xk es ts)(hst:starEach (e::es) X.env=(false,eval e X.env)::starEach es X.env:=by rfl):SA xa X xk (e::es) (z2W t ts) :=
 PA.weak (z1a h hs hst) λσ H Q' h=>Lt.bind (f:=λu ρ S1 Q E=>ts ρ S1 (λus S2=>Q (u::us) S2) E) h λhd ρ S Q E u v H1 e1 r1 u1 q1 c1 =>
  ⟨hd,ρ,S,_,E,e1,r1,q1,λus S2 vs H2 k2 r2 u2 q2=>c1.ok _ S2 _ H2 k2 r2 (.cons (u1.mono k2) u2) q2,c1.ex⟩
abbrev WF:=U->U->Sto->Kq U->Prop
def w2(f:WF)(ta tb:WE):WE:=λρ S Q E=>ta ρ S (λx S1=>tb ρ S1 (λy S2=>f x y S2 Q) E) E
def rW(f:WF):R2:=λv1 v2 H Q'=>∃hd x y S Q,Rep hd S H/\Ur H x v1/\Ur H y v2/\Co hd Ur H Q Q'/\f x y S Q
def lt2{f:WF}{ta tb:WE}{σ:St}{H:Hp}{Q':VK}(h:Lt xa xk Ur (w2 f ta tb) σ H Q'):tOp (rW f) (Lt xa xk Ur ta) (Lt xa xk Ur tb) σ H Q' :=
 Lt.bind (f:=λx ρ S1 Q E=>tb ρ S1 (λy S2=>f x y S2 Q) E) h λhd ρ S Q E x v1 H1 e1 r1 u1 q1 c1=>⟨hd,ρ,S,_,E,e1,r1,q1,λy S2 v2 H2 k2 r2 u2 q2=>⟨hd,x,y,S2,Q,r2,u1.mono k2,u2,c1.ok.mono k2,q2⟩,c1.ex⟩
def z0j{op:Operator}{f:WF}{a b:Expr}{ta tb:WE}{pos:Pos}(ho:OpR X (binaryOp op) (rW f))(ha:SE xa X xk a ta)(hb:SE xa X xk b tb):SE xa X xk (.BinOp a op b pos) (w2 f ta tb) :=
 PE.weak (zjN ho ha hb) λσ H Q h=>lt2 h
end
open PySem L2 PySem.SeqAt
variable[WW]
mutual
def Hu(h:Heap):U->Value->Prop
 |.non,v=>v=.none
 |.bl b,v=>v=.bool b
 |.int i,v=>∃t,v=.int i t
 |.str x,v=>∃t,v=.str x t
 |.tup us,v=>∃(a:Addr)(its:Array Value),v=.ref a/\h.IsTuple a its/\HuL h us its.toList
 |.ref _,_=>False
def HuL(h:Heap):List U->List Value->Prop
 |[],vs=>vs=[]
 |u::us,vs=>∃v r,vs=v::r/\Hu h u v/\HuL h us r
end
mutual
def fl:U->Bool
 |.ref _=>false
 |.tup us=>flL us
 |_=>true
def flL:List U->Bool
 |[]=>true
 |u::us=>fl u&&flL us
end
mutual
def eqU:U->U->Bool
 |.non,.non=>true
 |.bl a,.bl b=>a==b
 |.int i,.int j=>i==j
 |.str x,.str y=>x==y
 |.tup a,.tup b=>eqL a b
 |.ref a,.ref b=>a==b
 |_,_=>false
def eqL:List U->List U->Bool
 |[],[]=>true
 |u::us,w::ws=>eqU u w&&eqL us ws
 |_,_=>false
end
mutual
def okU:U->U->Bool
 |.bl _,.int _=>false
 |.int _,.bl _=>false
 |.tup a,.tup b=>okL a b
 |_,_=>true
def okL:List U->List U->Bool
 |u::us,w::ws=>okU u w&&okL us ws
 |_,_=>true
end
section
variable{P:Program}{w:World}{H:Hp}{h:Heap}
mutual
theorem Ur.hu(ok:HOk P w H h):∀{u:U}{v:V}{x:Value},fl u=true->Ur H u v->z0y v x->Hu h u x
 |.non,_,_,_,q,r|.bl _,_,_,_,q,r|.int _,_,_,_,q,r|.str _,_,_,_,q,r=>by
  simp only[Ur]at q;subst q;simp only[Hu];exact r
 |.tup us,_,_,k,q,r=>by
  simp only[Ur]at q;simp only[fl]at k;obtain⟨a,vs,rfl,e,q⟩:=q;cases r;obtain⟨_,its,n,rv,h1⟩:=ok a _ e;simp only[Hu];exact⟨a,its.toArray,rfl,⟨_,h1,rfl,n,rfl⟩,UrL.hu ok k q rv⟩
 |.ref _,_,_,k,_,_=>by simp[fl]at k
theorem UrL.hu(ok:HOk P w H h):∀{us:List U}{vs:List V}{xs:List Value},flL us=true->UrL H us vs->z0B vs xs->HuL h us xs
 |[],_,_,_,q,r=>by
  simp only[UrL]at q;subst q;cases r;simp only[HuL]
 |u::us,_,_,k,q,r=>by
  simp only[UrL]at q;simp only[flL,y0b]at k;obtain⟨v,z,rfl,q1,q2⟩:=q;cases r with
  |cons r1 r2 =>
   simp only[HuL];exact⟨_,_,rfl,Ur.hu ok k.1 q1 r1,UrL.hu ok k.2 q2 r2⟩
end
end
mutual
theorem z4f:∀{u w:U},eqU u w=true->u=w
 |.non,w,h=>by cases w<;>simp[eqU]at h⊢
 |.bl _,w,h|.int _,w,h|.str _,w,h|.ref _,w,h=>by cases w<;>simp[eqU]at h⊢;exact h
 |.tup us,w,h=>by cases w<;>simp only[eqU,y0L]at h;rw[zdV h]
theorem zdV:∀{us ws:List U},eqL us ws=true->us=ws
 |[],[],_=>rfl
 |[],_::_,h=>by simp[eqL]at h
 |_::_,[],h=>by simp[eqL]at h
 |u::us,w::ws,h=>by simp only[eqL,y0b]at h;rw[z4f h.1,zdV h.2]
end
mutual
theorem Hu.eq{h:Heap}:∀{u w:U}{x:Value},Hu h u x->Hu h w x->eqU u w=true
 |.non,w,_,p,q=>by simp only[Hu]at p;subst p;cases w<;>simp[Hu]at q;rfl
 |.bl _,w,_,p,q=>by simp only[Hu]at p;subst p;cases w<;>simp[Hu]at q;subst q;simp[eqU]
 |.int _,w,_,p,q|.str _,w,_,p,q=>by simp only[Hu]at p;obtain⟨t,rfl⟩:=p;cases w<;>simp[Hu]at q;subst q;simp[eqU]
 |.tup us,w,_,p,q=>by
  simp only[Hu]at p;obtain⟨a,its,rfl,ta,hi⟩:=p;cases w<;>simp only[Hu,reduceCtorEq,false_and,exists_const]at q;obtain⟨b,itt,e,tb,hi'⟩:=q;cases e;obtain⟨o1,e1,_,n1,d1⟩:=ta;obtain⟨o2,e2,_,n2,d2⟩:=tb;rw[e1]at e2;cases e2;rw[d1]at d2;injection d2 with d2;subst d2;simp only[eqU];exact HuL.eq hi hi'
 |.ref _,_,_,p,_=>by simp only[Hu]at p
theorem HuL.eq{h:Heap}:∀{us ws:List U}{xs:List Value},HuL h us xs->HuL h ws xs->eqL us ws=true
 |[],[],_,_,_=>by simp only[eqL]
 |[],_::_,_,p,q=>by simp only[HuL]at p q;subst p;obtain⟨_,_,e,_⟩:=q;cases e
 |_::_,[],_,p,q=>by simp only[HuL]at p q;subst q;obtain⟨_,_,e,_⟩:=p;cases e
 |u::us,w::ws,_,p,q=>by simp only[HuL]at p q;obtain⟨v,r,rfl,p1,p2⟩:=p;obtain⟨v',r',e,q1,q2⟩:=q;cases e;simp only[eqL,Hu.eq p1 q1,HuL.eq p2 q2,Bool.and_self]
end
theorem z4J{A:Around}{s:Shared}{n:Nat}(one:∀{u w:U}{x y:Value},dep u<=n->Hu s.heap u x->Hu s.heap w y->okU u w=true->EqAt A s x y (eqU u w)) :
  ∀{us ws:List U}{xs ys:List Value},z6y us<=n->HuL s.heap us xs->HuL s.heap ws ys->okL us ws=true ->
  ∃e:Nat->Bool,(∀j (h1:j<xs.length) (h2:j<ys.length),EqAt A s xs[j] ys[j] (e j))/\((List.range (min xs.length ys.length)).all e&&xs.length==ys.length)=eqL us ws
 |[],ws,xs,ys,_,h1,h2,_=>by
  simp only[HuL]at h1;subst h1;refine⟨λ_=>true,λj z=>absurd z (by simp),?_⟩;cases ws with
  |nil=>simp only[HuL]at h2;subst h2;simp[eqL]
  |cons w ws=>simp only[HuL]at h2;obtain⟨v,r,rfl,_⟩:=h2;simp[eqL]
 |u::us,[],xs,ys,_,h1,h2,_=>by
  simp only[HuL]at h1 h2;obtain⟨v,r,rfl,_⟩:=h1;subst h2;exact⟨λ_=>true,λj _ z=>absurd z (by simp),by simp[eqL]⟩
 |u::us,w::ws,xs,ys,hd,h1,h2,ok=>by
  simp only[HuL]at h1 h2;simp only[z6y]at hd;simp only[okL,y0b]at ok;obtain⟨v,r,rfl,a1,a2⟩:=h1;obtain⟨v',r',rfl,b1,b2⟩:=h2;obtain⟨e,g1,g2⟩:=z4J one (by lia) a2 b2 ok.2;refine⟨λj=>match j with|0=>eqU u w|j+1=>e j,λj z1 z2=>?_,?_⟩
  .cases j with
   |zero=>exact one (by lia) a1 b1 ok.1
   |succ j=>exact g1 j (by simpa using z1) (by simpa using z2)
  .simp only[eqL];rw[<-g2];have e1:min (v::r).length (v'::r').length=min r.length r'.length+1:=by simp only[y0c];lia
   rw[e1,List.range_succ_eq_map,List.all_cons,List.all_map,Bool.and_assoc];have e4:((v::r).length==(v'::r').length)=(r.length==r'.length):=by simp
   rw[e4];rfl
def zeF{s:Shared}:∀(n:Nat)(A:Around){u w:U}{x y:Value},dep u<=n->A.units+n<cLine->Hu s.heap u x->Hu s.heap w y->okU u w=true -> EqAt A s x y (eqU u w)/\RcAt A s x y (eqU u w)/\RcNeAt A s x y (!eqU u w):=by
 intro n;induction n with
 |zero =>
  intro A u w x y hd hu hx hy o;cases u<;>simp only[Hu]at hx<;>simp only[dep,Nat.le_zero,Nat.add_eq_zero_iff,Nat.one_ne_zero,and_false]at hd<;>cases w<;>simp only[okU,y0L]at o<;>simp only[Hu]at hy<;>simp only[eqU]
  .subst hx hy;exact⟨EqAt.same _,RcAt.none_none,RcNeAt.none_none⟩
  .subst hx hy;exact⟨EqAt.none_bool _,RcAt.none_bool _,RcNeAt.none_bool _⟩
  .subst hx;obtain⟨t,rfl⟩:=hy;exact⟨EqAt.none_int _ _,RcAt.none_int _ _,RcNeAt.none_int _ _⟩
  .subst hx;obtain⟨t,rfl⟩:=hy;exact⟨EqAt.none_str _ _,RcAt.none_str _ _,RcNeAt.none_str _ _⟩
  .subst hx;obtain⟨a,its,rfl,t,_⟩:=hy;exact⟨EqAt.none_tuple t (by lia),RcAt.none_tuple t (by lia),RcNeAt.none_tuple t (by lia)⟩
  .subst hx hy;exact⟨EqAt.bool_none _,RcAt.bool_none _,RcNeAt.bool_none _⟩
  .subst hx hy;exact⟨EqAt.bool_bool _ _,RcAt.bool_bool _ _,RcNeAt.bool_bool _ _⟩
  .subst hx;obtain⟨t,rfl⟩:=hy;exact⟨EqAt.bool_str _ _ _,RcAt.bool_str _ _ _,RcNeAt.bool_str _ _ _⟩
  .subst hx;obtain⟨a,its,rfl,t,_⟩:=hy;exact⟨EqAt.bool_tuple _ t (by lia),RcAt.bool_tuple _ t (by lia),RcNeAt.bool_tuple _ t (by lia)⟩
  .obtain⟨t,rfl⟩:=hx;subst hy;exact⟨EqAt.int_none _ _,RcAt.int_none _ _,RcNeAt.int_none _ _⟩
  .obtain⟨t,rfl⟩:=hx;obtain⟨t',rfl⟩:=hy;exact⟨EqAt.int_int _ _ _ _,RcAt.int_int _ _ _ _,RcNeAt.int_int _ _ _ _⟩
  .obtain⟨t,rfl⟩:=hx;obtain⟨t',rfl⟩:=hy;exact⟨EqAt.int_str _ _ _ _,RcAt.int_str _ _ _ _,RcNeAt.int_str _ _ _ _⟩
  .obtain⟨t,rfl⟩:=hx;obtain⟨a,its,rfl,t',_⟩:=hy;exact⟨EqAt.int_tuple _ _ t' (by lia),RcAt.int_tuple _ _ t' (by lia),RcNeAt.int_tuple _ _ t' (by lia)⟩
  .obtain⟨t,rfl⟩:=hx;subst hy;exact⟨EqAt.str_none _ _,RcAt.str_none _ _,RcNeAt.str_none _ _⟩
  .obtain⟨t,rfl⟩:=hx;subst hy;exact⟨EqAt.str_bool _ _ _,RcAt.str_bool _ _ _,RcNeAt.str_bool _ _ _⟩
  .obtain⟨t,rfl⟩:=hx;obtain⟨t',rfl⟩:=hy;exact⟨EqAt.str_int _ _ _ _,RcAt.str_int _ _ _ _,RcNeAt.str_int _ _ _ _⟩
  .obtain⟨t,rfl⟩:=hx;obtain⟨t',rfl⟩:=hy;exact⟨EqAt.str_str _ _ _ _,RcAt.str_str _ _ _ _,RcNeAt.str_str _ _ _ _⟩
  .obtain⟨t,rfl⟩:=hx;obtain⟨a,its,rfl,t',_⟩:=hy;exact⟨EqAt.str_tuple _ _ t' (by lia),RcAt.str_tuple _ _ t' (by lia),RcNeAt.str_tuple _ _ t' (by lia)⟩
 |succ n ih =>
  intro A u w x y hd hu hx hy o;by_cases hz:dep u=0
  .exact ih A (by lia) (by lia) hx hy o
  .cases u<;>simp only[dep,ne_eq,not_true_eq_false]at hz;rename_i us;simp only[Hu]at hx;obtain⟨a,its,rfl,ta,hi⟩:=hx;cases w<;>simp only[okU,y0L]at o<;>simp only[Hu]at hy<;>simp only[eqU]
   .subst hy;exact⟨EqAt.tuple_none ta (by lia),RcAt.tuple_none ta (by lia),RcNeAt.tuple_none ta (by lia)⟩
   .subst hy;exact⟨EqAt.tuple_bool _ ta (by lia),RcAt.tuple_bool _ ta (by lia),RcNeAt.tuple_bool _ ta (by lia)⟩
   .obtain⟨t,rfl⟩:=hy;exact⟨EqAt.tuple_int _ _ ta (by lia),RcAt.tuple_int _ _ ta (by lia),RcNeAt.tuple_int _ _ ta (by lia)⟩
   .obtain⟨t,rfl⟩:=hy;exact⟨EqAt.tuple_str _ _ ta (by lia),RcAt.tuple_str _ _ ta (by lia),RcNeAt.tuple_str _ _ ta (by lia)⟩
   .obtain⟨b,itt,rfl,tb,hi'⟩:=hy;rename_i ws;simp only[dep]at hd;have hin:A.in1.units+n<cLine:=by show A.units+1+n<cLine;lia
    obtain⟨e,g1,g2⟩:=z4J (A:=A.in1) (n:=n) (λh1 h2 h3 h4=>(ih A.in1 h1 hin h2 h3 h4).1) (by lia) hi hi' o;have R:=RcAt.tuples (A:=A) (e:=e) ta tb (by lia) λj h1 h2=>g1 j h1 h2;have N:=RcNeAt.tuples (A:=A) (e:=e) ta tb (by lia) λj h1 h2=>g1 j h1 h2;simp only[y18]at g2;rw[g2]at R N;refine⟨?_,R,N⟩;by_cases z:a=b
    .subst z;have q:=Hu.eq (h:=s.heap) (u:=.tup us) (w:=.tup ws) (x:=.ref a) (by simp only[Hu];exact⟨a,its,rfl,ta,hi⟩) (by simp only[Hu];exact⟨a,itt,rfl,tb,hi'⟩);simp only[eqU]at q;rw[q];exact EqAt.same _
    .exact EqAt.of_refs z R
open PySem L2 PySem.SeqAt
variable[WW]
def Kp.same{H H':Hp}(s:Same H H'):Kp H H':=⟨λa _ e=>s a _ e,λa _ _ e=>s a _ e⟩
theorem Rep.same{hd:Hd}{S:Sto}{H H':Hp}(r:Rep hd S H)(s:Same H H'):Rep hd S H':=⟨λa o e=>by obtain⟨x,q⟩:=(r.1 a o e).some;exact(r.1 a o e).mono (.same s) (by rw[s a x q,q]),λp hp=>⟨(r.2.1 p hp).1,s _ _ (r.2.1 p hp).2.1,(r.2.1 p hp).2.2⟩,(L2.Same.l s).tabs r.2.2⟩
def nw(o:Ob)(S:Sto)(Q:Kq U):Prop:=∀p,S p=none->Q (.ref p) (up S p o)
section
variable{hd:Hd}{H H':Hp}{Q:Kq U}{Q':VK}{S:Sto}
def Co.put(c:Co hd Ur H Q Q')(r:Rep hd S H){u:U}{v:V}(k:Ur H u v)(q:Q u S):Q' v H:=c u S v H (.refl H) r k q
def Co.tupS(c:Co hd Ur H Q Q')(r:Rep hd S H){us:List U}{vs:List V}{p:Addr}(u:UrL H us vs)(q:Q (.tup us) S)(s:Same H H')(e:H' p=some (.tup vs)):Q' (.ref p) H' :=
 c _ S _ H' (.same s) (r.same s) (by simp only[Ur];exact⟨p,vs,rfl,e,u.mono (.same s)⟩) q
theorem Co.tup(c:Co hd Ur H Q Q')(r:Rep hd S H){us:List U}{vs:List V}{p:Addr}(u:UrL H us vs)(q:Q (.tup us) S)(hp:H p=none):Q' (.ref p) (upd H p (.tup vs)) :=
 c.tupS r u q (Gu.same_up (Same.refl H) hp) z0a
theorem Co.lst(c:Co hd Ur H Q Q')(r:Rep hd S H){us:List U}{vs:List V}{p:Addr}(u:UrL H us vs)(q:nw (.lst us) S Q)(hp:H p=none):Q' (.ref p) (upd H p (.lst vs)) :=
 c _ _ _ _ (.new hp) (r.up (o:=.lst us) (.new hp) (.inl hp) ⟨vs,z0a,u.mono (.new hp)⟩) (by simp only[Ur]) (q p (r.none hp))
end
def zju:WF
 |.int i,.int j,S,Q=>Q (.int (i+j)) S
 |.str x,.str y,S,Q=>x.length+y.length<=sizeLine/\Q (.str (x++y)) S
 |.tup a,.tup b,S,Q=>a.length+b.length<=sizeLine/\Q (.tup (a++b)) S
 |.ref a,.ref b,S,Q=>∃us ws,S a=some (.lst us)/\S b=some (.lst ws)/\us.length+ws.length<=sizeLine/\nw (.lst (us++ws)) S Q
 |_,_,_,_=>False
def zlg:WF
 |.int i,.int j,S,Q=>Q (.int (i-j)) S
 |_,_,_,_=>False
def rep{α:Type}(k:Int)(us:List α):List α:=(List.replicate k.toNat us).flatten
def zkK:WF
 |.int i,.int j,S,Q=>zj4 i j/\Q (.int (i*j)) S
 |.tup us,.int k,S,Q=>-1000<=k/\k<=1000000/\us.length*k.toNat<=sizeLine/\Q (.tup (rep k us)) S
 |_,_,_,_=>False
def zkV:WF
 |.int i,.int j,S,Q=>0<j/\Q (.int (i%j)) S
 |_,_,_,_=>False
def zl7:WF
 |.int i,.int j,S,Q=>zkW i j/\Q (.int (i/j)) S
 |_,_,_,_=>False
def zkL(p:Int->Int->Bool):WF
 |.int i,.int j,S,Q=>Q (.bl (p i j)) S
 |_,_,_,_=>False
def isL(S:Sto)(a:Addr)(us:List U):Prop:=S a=some (.lst us)\/S a=some (.scr us)
def fEq(n:Bool):WF
 |.ref a,.ref b,S,Q=>∃us ws,isL S a us/\isL S b ws/\(flL us&&flL ws&&okL us ws&&decide (z6y us<=40))=true/\Q (.bl (n != eqL us ws)) S
 |x,y,S,Q=>(fl x&&fl y&&okU x y&&decide (dep x<=40))=true/\Q (.bl (n != eqU x y)) S
def isN:U->Bool
 |.non=>true
 |_=>false
def fIs(n:Bool):WF
 |x,.non,S,Q=>Q (.bl (n != isN x)) S
 |_,_,_,_=>False
theorem za4{H:Hp}{us:List U}{vs:List V}(h:UrL H us vs):∀(n:Nat),UrL H (List.replicate n us).flatten (List.replicate n vs).flatten
 |0=>.nil
 |n+1=>by rw[y0Z,y0Z,y1i,y1i];exact h.app (za4 h n)
def urI{H:Hp}{i:Int}{v:V}(h:Ur H (.int i) v):v=.int i:=by simpa only[Ur]using h
def urB{H:Hp}{i:Bool}{v:V}(h:Ur H (.bl i) v):v=.bl i:=by simpa only[Ur]using h
def urS{H:Hp}{i:Str}{v:V}(h:Ur H (.str i) v):v=.str i:=by simpa only[Ur]using h
def urR{H:Hp}{i:Addr}{v:V}(h:Ur H (.ref i) v):v=.ref i:=by simpa only[Ur]using h
def urT{H:Hp}{us:List U}{v:V}(h:Ur H (.tup us) v):∃a vs,v=.ref a/\H a=some (.tup vs)/\UrL H us vs:=by simpa only[Ur]using h
def uI{H:Hp}{i:Int}:Ur H (.int i) (.int i):=by simp only[Ur]
def uB{H:Hp}{i:Bool}:Ur H (.bl i) (.bl i):=by simp only[Ur]
def uS{H:Hp}{i:Str}:Ur H (.str i) (.str i):=by simp only[Ur]
theorem isL.of{hd:Hd}{S:Sto}{H:Hp}{K:yyF}{a:Addr}{us:List U}(h:isL S a us)(r:Rep hd S H):∃vs,SqL K H a vs/\UrL H us vs:=by
 rcases h with h|h
 .obtain⟨vs,e,u⟩:=r.1 a _ h;exact⟨vs,.of e,u⟩
 .obtain⟨o,vs,e,u⟩:=r.1 a _ h;exact⟨vs,.inl (.inr ⟨o,e⟩),u⟩
section
variable{X:Cx}
def z12:OpR X (binaryOp .Add) (rW zju):=by
 rintro pins s σ H v1 v2 x1 x2 Q' I r1 r2 ⟨hd,x,y,S,Q,r,u1,u2,c,h⟩;cases x<;>cases y<;>simp only[zju]at h
 .obtain rfl:=urI u1;obtain rfl:=urI u2;exact zgO pins s σ H _ _ _ _ _ I r1 r2 ⟨_,_,rfl,rfl,c.put r uI h⟩
 .obtain rfl:=urS u1;obtain rfl:=urS u2;exact z8F pins s σ H _ _ _ _ _ I r1 r2 ⟨_,_,rfl,rfl,h.1,c.put r uS h.2⟩
 .obtain⟨a,vs,rfl,e1,l1⟩:=urT u1;obtain⟨b,ws,rfl,e2,l2⟩:=urT u2;exact zfH pins s σ H _ _ _ _ _ I r1 r2 ⟨a,b,vs,ws,rfl,rfl,e1,e2,by rw[<-l1.len,<-l2.len];exact h.1,λp H' sm e=>c.tupS r (l1.app l2) h.2 sm e⟩
 .obtain rfl:=urR u1;obtain rfl:=urR u2;obtain⟨us,ws,h1,h2,hl,q⟩:=h;obtain⟨vs,e1,l1⟩:=r.1 _ _ h1;obtain⟨vs',e2,l2⟩:=r.1 _ _ h2;exact zhA pins s σ H _ _ _ _ _ I r1 r2 ⟨_,_,vs,vs',rfl,rfl,e1,e2,by rw[<-l1.len,<-l2.len];exact hl,λp hp=>c.lst r (l1.app l2) q hp⟩
def zh2{op:Operator}{f:WF}{C:Int->Int->Prop}{g:Int->Int->Int}(o:OpR X (binaryOp op) (rI C λi j=>.int (g i j)))(hf:∀x y S Q,f x y S Q->∃i j,x=.int i/\y=.int j/\C i j/\Q (.int (g i j)) S):OpR X (binaryOp op) (rW f):=by rintro pins s σ H v1 v2 x1 x2 Q' I r1 r2 ⟨hd,x,y,S,Q,r,u1,u2,c,h⟩;obtain⟨i,j,rfl,rfl,hc,q⟩:=hf x y S Q h;obtain rfl:=urI u1;obtain rfl:=urI u2;exact o pins s σ H _ _ _ _ _ I r1 r2 ⟨i,j,rfl,rfl,hc,c.put r uI q⟩
def zd3:OpR X (binaryOp .Sub) (rW zlg):=by rintro pins s σ H v1 v2 x1 x2 Q' I r1 r2 ⟨hd,x,y,S,Q,r,u1,u2,c,h⟩;cases x<;>cases y<;>simp only[zlg]at h;obtain rfl:=urI u1;obtain rfl:=urI u2;exact zhw pins s σ H _ _ _ _ _ I r1 r2 ⟨_,_,rfl,rfl,c.put r uI h⟩
def z3P:OpR X (binaryOp .Mod) (rW zkV):=zh2 zi6 λx y S Q h=>by cases x<;>cases y<;>simp only[zkV]at h;exact⟨_,_,rfl,rfl,h⟩
def zk9:OpR X (binaryOp .FloorDiv) (rW zl7):=zh2 zeB λx y S Q h=>by cases x<;>cases y<;>simp only[zl7]at h;exact⟨_,_,rfl,rfl,h⟩
def z7j:OpR X (binaryOp .Mult) (rW zkK):=by
 rintro pins s σ H v1 v2 x1 x2 Q' I r1 r2 ⟨hd,x,y,S,Q,r,u1,u2,c,h⟩;cases x<;>cases y<;>simp only[zkK]at h
 .obtain rfl:=urI u1;obtain rfl:=urI u2;exact zh0 pins s σ H _ _ _ _ _ I r1 r2 ⟨_,_,rfl,rfl,h.1,c.put r uI h.2⟩
 .obtain⟨a,vs,rfl,e1,l1⟩:=urT u1;obtain rfl:=urI u2;exact zcQ pins s σ H _ _ _ _ _ I r1 r2 ⟨a,_,vs,rfl,rfl,e1,h.1,h.2.1,by rw[<-l1.len];exact h.2.2.1,λp H' sm e=>c.tupS r (za4 l1 _) h.2.2.2 sm e⟩
def z1g{op:CmpOp}{p:Int->Int->Bool}(o:OpR X (compareOp op) (rI0 λi j=>.bl (p i j))):OpR X (compareOp op) (rW (zkL p)):=by rintro pins s σ H v1 v2 x1 x2 Q' I r1 r2 ⟨hd,x,y,S,Q,r,u1,u2,c,h⟩;cases x<;>cases y<;>simp only[zkL]at h;obtain rfl:=urI u1;obtain rfl:=urI u2;exact o pins s σ H _ _ _ _ _ I r1 r2 ⟨_,_,rfl,rfl,c.put r uB h⟩
def zgL{us:List U}(h:z6y us<=40)(hu:X.A.units+64<cLine):X.A.in1.units+40<cLine:=by show X.A.units+1+40<cLine;lia
def z88{a b:Addr}{us ws:List U}{pins:yyP}{σ:St}{H:Hp}{s:Shared}{hd:Hd}{S:Sto}(hu:X.A.units+64<cLine)(I:Inv X pins σ H s)(r:Rep hd S H)(h1:isL S a us)(h2:isL S b ws)(h3:flL us=true)(h4:flL ws=true)(h5:okL us ws=true)(h6:z6y us<=40) : RcAt X.A s (.ref a) (.ref b) (eqL us ws)/\RcNeAt X.A s (.ref a) (.ref b) (!eqL us ws):=by
 obtain⟨vs,e1,l1⟩:=h1.of (K:=X.K) r;obtain⟨vs',e2,l2⟩:=h2.of (K:=X.K) r;obtain⟨its,rv,pl,_⟩:=I.list e1;obtain⟨itt,rv',pl',_⟩:=I.list e2;obtain⟨e,g1,g2⟩:=z4J (A:=X.A.in1) (n:=40) (λq1 q2 q3 q4=>(zeF 40 X.A.in1 q1 (zgL h6 hu) q2 q3 q4).1) h6 (UrL.hu I.hok h3 l1 rv) (UrL.hu I.hok h4 l2 rv') h5;by_cases hl:its.length=itt.length
 .have R:=RcAt.lists (A:=X.A) (e:=e) pl.isList pl'.isList (by simpa using hl) (by lia) λj h1 h2=>by simpa using g1 j (by simpa using h1) (by simpa using h2)
  have N:=RcNeAt.lists (A:=X.A) (e:=e) pl.isList pl'.isList (by simpa using hl) (by lia) λj h1 h2=>by simpa using g1 j (by simpa using h1) (by simpa using h2)
  have z:(List.range its.toArray.size).all e=eqL us ws:=by
   rw[<-g2];have:min its.length itt.length=its.length:=by lia
   rw[this];simp[hl]
  rw[z]at R N;exact⟨R,N⟩
 .have z:eqL us ws=false:=by
   rw[<-g2];have:(its.length==itt.length)=false:=by simpa using hl
   rw[this,Bool.and_false]
  rw[z];exact⟨RcAt.lists_lengths (A:=X.A) pl.isList pl'.isList (by simpa using hl) (by lia),RcNeAt.lists_lengths (A:=X.A) pl.isList pl'.isList (by simpa using hl) (by lia)⟩
def z1w(hu:X.A.units+64<cLine):OpR X (compareOp .Eq) (rW (fEq false))/\OpR X (compareOp .NotEq) (rW (fEq true)):=by
 have data:∀{pins:yyP}{s:Shared}{σ:St}{H:Hp}{x y:U}{v1 v2:V}{x1 x2:Value},Inv X pins σ H s->z0y v1 x1->z0y v2 x2->Ur H x v1->Ur H y v2->(fl x&&fl y&&okU x y&&decide (dep x<=40))=true->RcAt X.A s x1 x2 (eqU x y)/\RcNeAt X.A s x1 x2 (!eqU x y):=by intro pins s σ H x y v1 v2 x1 x2 I r1 r2 u1 u2 h;simp only[y0b,y1A]at h;obtain⟨⟨⟨h1,h2⟩,h3⟩,h4⟩:=h;exact(zeF 40 X.A h4 (by lia) (Ur.hu I.hok h1 u1 r1) (Ur.hu I.hok h2 u2 r2) h3).2
 constructor
 .rintro pins s σ H v1 v2 x1 x2 Q' I r1 r2 ⟨hd,x,y,S,Q,r,u1,u2,c,h⟩;unfold fEq at h;split at h
  .obtain⟨us,ws,h1,h2,h3,q⟩:=h;simp only[y0b,y1A]at h3;obtain rfl:=urR u1;obtain rfl:=urR u2;cases r1;cases r2;exact(z88 hu I r h1 h2 h3.1.1.1 h3.1.1.2 h3.1.2 h3.2).1 _ _ _ _ ⟨.bl _,H,I,rfl,c.put r uB (by simpa using q)⟩
  .exact(data I r1 r2 u1 u2 h.1).1 _ _ _ _ ⟨.bl _,H,I,rfl,c.put r uB (by simpa using h.2)⟩
 .rintro pins s σ H v1 v2 x1 x2 Q' I r1 r2 ⟨hd,x,y,S,Q,r,u1,u2,c,h⟩;unfold fEq at h;split at h
  .obtain⟨us,ws,h1,h2,h3,q⟩:=h;simp only[y0b,y1A]at h3;obtain rfl:=urR u1;obtain rfl:=urR u2;cases r1;cases r2;exact(z88 hu I r h1 h2 h3.1.1.1 h3.1.1.2 h3.1.2 h3.2).2 _ _ _ _ ⟨.bl _,H,I,rfl,c.put r uB (by simpa using q)⟩
  .exact(data I r1 r2 u1 u2 h.1).2 _ _ _ _ ⟨.bl _,H,I,rfl,c.put r uB (by simpa using h.2)⟩
def zhj{H:Hp}{u:U}{v:V}(h:Ur H u v):decide (v=.non)=isN u:=by
 cases u<;>simp only[Ur]at h
 .subst h;rfl
 .subst h;rfl
 .subst h;rfl
 .subst h;rfl
 .obtain⟨a,vs,rfl,_⟩:=h;rfl
 .subst h;rfl
def zjD:OpR X (compareOp .Is) (rW (fIs false)):=by rintro pins s σ H v1 v2 x1 x2 Q' I r1 r2 ⟨hd,x,y,S,Q,r,u1,u2,c,h⟩;cases y<;>simp only[fIs]at h;simp only[Ur]at u2;subst u2;exact zgF pins s σ H _ _ _ _ _ I r1 r2 ⟨rfl,c.put r uB (by rw[zhj u1];simpa using h)⟩
end
open PySem L2 PySem.SeqAt
variable[WW]
def opt{α:Type}(o:Option α)(k:α->Prop):Prop:=match o with
 |some u=>k u
 |none=>False
def opt.of{α:Type}{o:Option α}{u:α}{k:α->Prop}(h:o=some u)(q:k u):opt o k:=by subst h;exact q
def opt.ex{α:Type}{o:Option α}{k:α->Prop}(h:opt o k):∃u,o=some u/\k u:=by
 cases o with
 |none=>exact h.elim
 |some u=>exact⟨u,rfl,h⟩
def z0Z{b:Bool}{A B:Prop}(h1:b=true->A)(h2:b=false->B):cond b A B:=by cases b;exact h2 rfl;exact h1 rfl
abbrev Rb:Hp->Bool->Bool->Prop:=λ_ a b=>a=b
def tru(u:U)(S:Sto)(k:Bool->Prop):Prop:=match u with
 |.non=>k false
 |.bl b=>k b
 |.int i=>k (i != 0)
 |.str x=>x.length<=sizeLine/\k ((x.length:Int) != 0)
 |.tup us=>k (!us.isEmpty)
 |.ref a=>∃us,isL S a us/\k (!us.isEmpty)
def zfE(t:WE):WT:=λρ S Q E=>t ρ S (λu S1=>tru u S1 λb=>Q b S1) E
def zkQ(a b:WT):WT:=λρ S Q E=>a ρ S (λc S1=>cond c (b ρ S1 Q E) (Q false S1)) E
def wOr(a b:WT):WT:=λρ S Q E=>a ρ S (λc S1=>cond c (Q true S1) (b ρ S1 Q E)) E
def zly(a:WT):WT:=λρ S Q E=>a ρ S (λc S1=>Q (!c) S1) E
def isB(u:U)(k:Bool->Prop):Prop:=match u with
 |.bl b=>k b
 |_=>False
def zjH(a b:WE):WE:=λρ S Q E=>a ρ S (λx S1=>isB x λc=>cond c (b ρ S1 Q E) (Q (.bl false) S1)) E
def zjn(a:WE):WE:=λρ S Q E=>a ρ S (λx S1=>isB x λc=>Q (.bl (!c)) S1) E
def wIf(c:WT)(a b:WE):WE:=λρ S Q E=>c ρ S (λk S1=>cond k (a ρ S1 Q E) (b ρ S1 Q E)) E
def zaW(f g:WF)(ta tb tc:WE):WE:=λρ S Q E=>ta ρ S (λx S1=>tb ρ S1 (λy S2=>f x y S2 (λz S3=>isB z λk=>cond k (tc ρ S3 (λw S4=>g y w S4 Q) E) (Q (.bl false) S3))) E) E
def isB.ex{u:U}{k:Bool->Prop}(h:isB u k):∃b,u=.bl b/\k b:=by cases u<;>simp only[isB]at h;exact⟨_,rfl,h⟩
def z9Z{H:Hp}{us:List U}{vs:List V}(h:UrL H us vs):(!us.isEmpty)=!vs.isEmpty:=by have:=h.len;cases us<;>cases vs<;>simp at this⊢
section
variable{xa:Nat->Addr}{X:Cx}{xk:St->XK}{a b c:Expr}{ta tb tc:WE}{pos:Pos}
def z2O{op:CmpOp}{f:WF}(ho:OpR X (compareOp op) (rW f))(ha:SE xa X xk a ta)(hb:SE xa X xk b tb)(hm:behindInMarks op b=false:=by first|exact zdI _|rfl):SE xa X xk (.Compare a [op] [b] pos) (w2 f ta tb) :=
 PE.weak (zfg ho ha hb hm) λσ H Q h=>lt2 h
def zeW{t:WE}{tt:WT}{σ:St}{H:Hp}{Q':Bool->Hp->Prop}(h:Lt xa xk Rb (zfE t) σ H Q'){T:VK}(hT:∀v H1 k,zjs X.K v H1 k->Q' k H1->T v H1):Lt xa xk Ur t σ H T:=by
 refine Lt.bind (f:=λu ρ S1 Q E=>tru u S1 λb=>Q b S1) h λhd ρ S Q E u v H1 e1 r1 u1 q1 c1=>?_;cases u<;>simp only[tru]at q1
 .simp only[Ur]at u1;subst u1;exact hT _ _ _ rfl (c1.ok _ S _ H1 (.refl _) r1 rfl q1)
 .obtain rfl:=urB u1;exact hT _ _ _ rfl (c1.ok _ S _ H1 (.refl _) r1 rfl q1)
 .obtain rfl:=urI u1;exact hT _ _ _ rfl (c1.ok _ S _ H1 (.refl _) r1 rfl q1)
 .obtain rfl:=urS u1;exact hT _ _ _ ⟨q1.1,rfl⟩ (c1.ok _ S _ H1 (.refl _) r1 rfl q1.2)
 .obtain⟨p,vs,rfl,e,l⟩:=urT u1;exact hT _ _ _ (.inr (.inl ⟨vs,.of e,z9Z l⟩)) (c1.ok _ S _ H1 (.refl _) r1 rfl q1)
 .obtain rfl:=urR u1;obtain⟨us,hl,q⟩:=q1;obtain⟨vs,e,l⟩:=hl.of (K:=X.K) r1;exact hT _ _ _ (.inl ⟨vs,e,z9Z l⟩) (c1.ok _ S _ H1 (.refl _) r1 rfl q)
def z1K(ha:SE xa X xk a ta)(he:∀whole,isTrue a X.env whole=(do let v <-whole;standAt a.pos;holding [v] (truthy v)):=by intro _;rfl):ST xa X xk a (zfE ta) :=
 PT.weak (zcL ha he) λσ H Q h=>zeW (X:=X) (tt:=zfE ta) h λv H1 k t q=>⟨k,t,q⟩
def zhc{t:WE}{σ:St}{H:Hp}{Q':Bool->Hp->Prop}(h:Lt xa xk Rb (λρ S Q E=>t ρ S (λu S1=>isB u λk=>Q k S1) E) σ H Q'):Lt xa xk Ur t σ H λx H'=>∃k,x=.bl k/\Q' k H' :=
 Lt.bind (f:=λu ρ S1 Q E=>isB u λk=>Q k S1) h λhd ρ S Q E u v H1 e1 r1 u1 q1 c1=>by obtain⟨k,rfl,q⟩:=q1.ex;exact⟨k,urB u1,c1.ok _ S _ H1 (.refl _) r1 rfl q⟩
def wTB(t:WE):WT:=λρ S Q E=>t ρ S (λu S1=>isB u λk=>Q k S1) E
def z0i{op:CmpOp}{f:WF}(ho:OpR X (compareOp op) (rW f))(ha:SE xa X xk a ta)(hb:SE xa X xk b tb)(hm:behindInMarks op b=false:=by first|exact zdI _|rfl):ST xa X xk (.Compare a [op] [b] pos) (wTB (w2 f ta tb)) :=
 PT.weak (zfy ho ha hb hm) λσ H Q h=>lt2 (zhc h)
def z7U{f g:WF}{σ:St}{H:Hp}{Q':VK}(h:Lt xa xk Ur (zaW f g ta tb tc) σ H Q'):z9l (rW f) (rW g) (Lt xa xk Ur ta) (Lt xa xk Ur tb) (Lt xa xk Ur tc) σ H Q':=by
 refine Lt.bind (f:=λx ρ S1 Q E=>tb ρ S1 (λy S2=>f x y S2 (λz S3=>isB z λk=>cond k (tc ρ S3 (λw S4=>g y w S4 Q) E) (Q (.bl false) S3))) E) h λhd ρ S Q E x v1 H1 e1 r1 u1 q1 c1=>?_;refine⟨hd,ρ,S,_,E,e1,r1,q1,λy S2 v2 H2 k2 r2 u2 q2=>?_,c1.ex⟩;refine⟨hd,x,y,S2,_,r2,u1.mono k2,u2,λz S3 v3 H3 k3 r3 u3 q3=>?_,q2⟩;obtain⟨k,rfl,q⟩:=q3.ex;refine⟨k,urB u3,?_⟩;have c3:=(c1.mono k2).mono k3;cases k with
 |false=>rw[if_neg y0s];exact c3.ok _ S3 _ H3 (.refl _) r3 uB q
 |true =>
  rw[if_pos rfl];exact⟨hd,ρ,S3,_,E,(e1.mono k2).mono k3,r3,q,λw S4 v4 H4 k4 r4 u4 q4=>⟨hd,y,w,S4,Q,r4,(u2.mono k3).mono k4,u4,c3.ok.mono k4,q4⟩,c3.ex⟩
def z4R{op op':CmpOp}{f g:WF}(ho:OpR X (compareOp op) (rW f))(ho':OpR X (compareOp op') (rW g))(ha:SE xa X xk a ta)(hb:SE xa X xk b tb)(hc:SE xa X xk c tc)(hm:lastMarks [op,op'] [b,c]=false:=by with_unfolding_all rfl):SE xa X xk (.Compare a [op,op'] [b,c] pos) (zaW f g ta tb tc):=PE.weak (zdm ho ho' ha hb hc hm) λσ H Q h=>z7U h
def z4K{op op':CmpOp}{f g:WF}(ho:OpR X (compareOp op) (rW f))(ho':OpR X (compareOp op') (rW g))(ha:SE xa X xk a ta)(hb:SE xa X xk b tb)(hc:SE xa X xk c tc)(hm:lastMarks [op,op'] [b,c]=false:=by with_unfolding_all rfl):ST xa X xk (.Compare a [op,op'] [b,c] pos) (wTB (zaW f g ta tb tc)):=PT.weak (zcE ho ho' ha hb hc hm) λσ H Q h=>z7U (zhc h)
def z3i{ta:WT}(ha:ST xa X xk a ta):ST xa X xk (.UnaryOp .Not a pos) (zly ta):=PT.weak (zio ha) λσ H Q' h=>Lt.bind (f:=λc ρ S1 Q E=>Q (!c) S1) h λhd ρ S Q E u v H1 e1 r1 u1 q1 c1=>by subst u1;exact c1.ok _ S _ H1 (.refl _) r1 rfl q1
def SW(xa:Nat->Addr)(X:Cx)(xk:St->XK)(e:Expr)(t:WT):Prop:=PW X e (Lt xa xk Rb t)
def PW.weak{X:Cx}{e:Expr}{t t':TT}(h:PW X e t)(w:∀σ H Q,t' σ H Q->t σ H Q):PW X e t':=λwh pins s σ H Q I q=>h wh pins s σ H Q I (w σ H Q q)
def SW.st{e:Expr}{t:WT}(h:SW xa X xk e t):ST xa X xk e t:=PW.pt h
def zep{ta:WT}(ha:ST xa X xk a ta):SW xa X xk (.BoolOp .And [a] pos) ta:=zeQ ha
def zh4{ta:WT}(ha:ST xa X xk a ta):SW xa X xk (.BoolOp .Or [a] pos) ta:=zh7 ha
def zi1{ta tb:WT}{σ:St}{H:Hp}{Q':Bool->Hp->Prop}(h:Lt xa xk Rb (zkQ ta tb) σ H Q'):zl0 (Lt xa xk Rb ta) (Lt xa xk Rb tb) σ H Q' :=
 Lt.bind (f:=λc ρ S1 Q E=>cond c (tb ρ S1 Q E) (Q false S1)) h λhd ρ S Q E u v H1 e1 r1 u1 q1 c1=>by
  subst u1;cases u with
  |true=>rw[if_pos rfl];exact⟨hd,ρ,S,Q,E,e1,r1,q1,c1⟩
  |false=>rw[if_neg y0s];exact c1.ok _ S _ H1 (.refl _) r1 rfl q1
def zjq{ta tb:WT}{σ:St}{H:Hp}{Q':Bool->Hp->Prop}(h:Lt xa xk Rb (wOr ta tb) σ H Q'):tOr (Lt xa xk Rb ta) (Lt xa xk Rb tb) σ H Q' :=
 Lt.bind (f:=λc ρ S1 Q E=>cond c (Q true S1) (tb ρ S1 Q E)) h λhd ρ S Q E u v H1 e1 r1 u1 q1 c1=>by
  subst u1;cases u with
  |false=>rw[if_neg y0s];exact⟨hd,ρ,S,Q,E,e1,r1,q1,c1⟩
  |true=>rw[if_pos rfl];exact c1.ok _ S _ H1 (.refl _) r1 rfl q1
def zgA{rest:List Expr}{ta tb:WT}(ha:ST xa X xk a ta)(hb:SW xa X xk (.BoolOp .And (b::rest) pos) tb):SW xa X xk (.BoolOp .And (a::b::rest) pos) (zkQ ta tb):=PW.weak (zgI ha hb) λσ H Q h=>zi1 h
def zk8{rest:List Expr}{ta tb:WT}(ha:ST xa X xk a ta)(hb:SW xa X xk (.BoolOp .Or (b::rest) pos) tb):SW xa X xk (.BoolOp .Or (a::b::rest) pos) (wOr ta tb):=PW.weak (zkA ha hb) λσ H Q h=>zjq h
def z5U{op}(ha:SE xa X xk a ta):SE xa X xk (.BoolOp op [a] pos) ta:=zgw ha
def z6p{rest:List Expr}(ha:SE xa X xk a ta)(hb:SE xa X xk (.BoolOp .And (b::rest) pos) tb):SE xa X xk (.BoolOp .And (a::b::rest) pos) (zjH ta tb) :=
 PE.weak (zgH ha hb) λσ H Q' h=>Lt.bind (f:=λx ρ S1 Q E=>isB x λc=>cond c (tb ρ S1 Q E) (Q (.bl false) S1)) h λhd ρ S Q E u v H1 e1 r1 u1 q1 c1=>by
  obtain⟨k,rfl,q⟩:=q1.ex;refine⟨k,urB u1,?_⟩;cases k with
  |true=>rw[if_pos rfl];exact⟨hd,ρ,S,Q,E,e1,r1,q,c1⟩
  |false=>rw[if_neg y0s];exact c1.ok.put r1 uB q
def zbk(ha:SE xa X xk a ta):SE xa X xk (.UnaryOp .Not a pos) (zjn ta):=PE.weak (ziL ha) λσ H Q' h=>Lt.bind (f:=λx ρ S1 Q E=>isB x λc=>Q (U.bl (!c)) S1) h λhd ρ S Q E u v H1 e1 r1 u1 q1 c1=>by obtain⟨k,rfl,q⟩:=q1.ex;exact⟨k,urB u1,c1.ok.put r1 uB q⟩
def zkw(x:U)(S:Sto)(Q:Kq U):Prop:=match x with
 |.int i=>Q (.int (-i)) S
 |_=>False
def z5v(ha:SE xa X xk a ta):SE xa X xk (.UnaryOp .USub a pos) (λρ S Q E=>ta ρ S (λx S1=>zkw x S1 Q) E):=PE.weak (zk4 zho ha) λσ H Q' h=>Lt.bind (f:=λx ρ S1 Q E=>zkw x S1 Q) h λhd ρ S Q E u v H1 e1 r1 u1 q1 c1=>by cases u<;>simp only[zkw]at q1;exact⟨_,urI u1,c1.ok.put r1 uI q1⟩
def za8{tt:WT}(hc:ST xa X xk c tt)(ha:SE xa X xk a ta)(hb:SE xa X xk b tb):SE xa X xk (.IfExp c a b pos) (wIf tt ta tb) :=
 PE.weak (zdx hc ha hb) λσ H Q' h=>Lt.bind (f:=λk ρ S1 Q E=>cond k (ta ρ S1 Q E) (tb ρ S1 Q E)) h λhd ρ S Q E u v H1 e1 r1 u1 q1 c1=>by
  subst u1;cases u with
  |true=>rw[if_pos rfl];exact⟨hd,ρ,S,Q,E,e1,r1,q1,c1⟩
  |false=>rw[if_neg y0s];exact⟨hd,ρ,S,Q,E,e1,r1,q1,c1⟩
def zm3(t:WA):WE:=λρ S Q E=>t ρ S (λus S1=>us.length<=sizeLine/\Q (.tup us) S1) E
def zmh(t:WA):WE:=λρ S Q E=>t ρ S (λus S1=>us.length<=sizeLine/\nw (.lst us) S1 Q) E
def z0f{es:List Expr}{t:WA}{x1}(h:SA xa X xk es t):SE xa X xk (.Tuple es x1 pos) (zm3 t):=PE.weak (zgY h) λσ H Q' h=>Lt.bind (f:=λus ρ S1 Q E=>us.length<=sizeLine/\Q (.tup us) S1) h λhd ρ S Q E u v H1 e1 r1 u1 q1 c1 =>
 ⟨by rw[<-u1.len];exact q1.1,λp hp=>c1.ok.tup r1 u1 q1.2 hp⟩
def z0Y{es:List Expr}{t:WA}(h:SA xa X xk es t):SE xa X xk (.List es pos) (zmh t):=PE.weak (zgE h) λσ H Q' h=>Lt.bind (f:=λus ρ S1 Q E=>us.length<=sizeLine/\nw (.lst us) S1 Q) h λhd ρ S Q E u v H1 e1 r1 u1 q1 c1 =>
 ⟨by rw[<-u1.len];exact q1.1,λp hp=>c1.ok.lst r1 u1 q1.2 hp⟩
def fIx:WF
 |.tup us,.int i,S,Q=>opt (atI us i) λu=>Q u S
 |.ref a,.int i,S,Q=>∃us,isL S a us/\opt (atI us i) λu=>Q u S
 |_,_,_,_=>False
def ze6{H:Hp}{us:List U}{vs:List V}{i:Int}{u:U}(h:UrL H us vs)(e:atI us i=some u):∃v,atI vs i=some v/\Ur H u v:=by
 unfold atI at e⊢;rw[h.len]at e;cases q:ixN vs.length i with
 |none=>rw[q]at e;cases e
 |some j =>
  rw[q]at e;exact h.get e
def z2T:IxR X (rW fIx):=by
 rintro value slice pins s σ H v1 v2 x1 x2 Q' I r1 r2 ⟨hd,x,y,S,Q,r,u1,u2,c,h⟩ hs;cases x<;>cases y<;>simp only[fIx]at h
 .obtain⟨p,vs,rfl,e1,l1⟩:=urT u1;obtain rfl:=urI u2;obtain⟨u,e,q⟩:=h.ex;obtain⟨v,e',k⟩:=ze6 l1 e;exact zhH value slice pins s σ H _ _ _ _ _ I r1 r2 ⟨p,vs,_,v,rfl,rfl,.of e1,e',c.put r k q⟩ hs
 .obtain rfl:=urR u1;obtain rfl:=urI u2;obtain⟨us,hl,h⟩:=h;obtain⟨vs,e1,l1⟩:=hl.of (K:=X.K) r;obtain⟨u,e,q⟩:=h.ex;obtain⟨v,e',k⟩:=ze6 l1 e;exact zem value slice pins s σ H _ _ _ _ _ I r1 r2 ⟨_,vs,_,v,rfl,rfl,e1,e',c.put r k q⟩ hs
def z0L{f:WF}(hr:IxR X (rW f))(ha:SE xa X xk a ta)(hb:SE xa X xk b tb)(hs:z9N b:=by exact λ_ _=>rfl):SE xa X xk (.Subscript a b pos) (w2 f ta tb):=PE.weak (zkc hr ha hb hs) λσ H Q h=>lt2 h
abbrev WO:=WG (Option Int)
abbrev Ro:Hp->Option Int->Option Int->Prop:=λ_ a b=>a=b
def wNo:WO:=λ_ S Q _=>Q none S
def isI(u:U)(k:Int->Prop):Prop:=match u with
 |.int i=>k i
 |_=>False
def isI.ex{u:U}{k:Int->Prop}(h:isI u k):∃b,u=.int b/\k b:=by cases u<;>simp only[isI]at h;exact⟨_,rfl,h⟩
def wPt(t:WE):WO:=λρ S Q E=>t ρ S (λu S1=>isI u λi=>Q (some i) S1) E
def SO(xa:Nat->Addr)(X:Cx)(xk:St->XK)(e:Option Expr)(t:WO):Prop:=PO X e (Lt xa xk Ro t)
def z48:SO xa X xk none wNo:=λpins s σ H Q' I ⟨hd,ρ,S,Q,E,e,r,h,c⟩=>zfm pins s σ H Q' I (c.ok none S none H (.refl _) r rfl h)
def z45(h:SE xa X xk a ta):SO xa X xk (some a) (wPt ta):=λpins s σ H Q' I q=>zey h pins s σ H Q' I (Lt.bind (f:=λu ρ S1 Q E=>isI u λi=>Q (some i) S1) q λhd ρ S Q E u v H1 e1 r1 u1 q1 c1=>by obtain⟨i,rfl,q⟩:=q1.ex;exact⟨i,urI u1,c1.ok _ S _ H1 (.refl _) r1 rfl q⟩)
def cut{α:Type}(xs:List α)(lo hi:Option Int):List α:=(xs.drop (HT.sIx xs.length 0 lo)).take (HT.sIx xs.length xs.length hi-HT.sIx xs.length 0 lo)
def fSl(x:U)(lo hi:Option Int)(S:Sto)(Q:Kq U):Prop:=match x with
 |.tup us=>Q (.tup (cut us lo hi)) S
 |.ref a=>∃us,isL S a us/\nw (.lst (cut us lo hi)) S Q
 |_=>False
def wSl(t:WE)(tl th:WO):WE:=λρ S Q E=>t ρ S (λx S1=>tl ρ S1 (λlo S2=>th ρ S2 (λhi S3=>fSl x lo hi S3 Q) E) E) E
def zdC{H:Hp}{us:List U}{vs:List V}(h:UrL H us vs)(lo hi:Option Int):UrL H (cut us lo hi) (za5 vs lo hi):=by unfold cut za5;rw[h.len];exact(h.drop _).take _
def z14{lo hi:Option Expr}{tl th:WO}{p2:Pos}(ha:SE xa X xk a ta)(hl:SO xa X xk lo tl)(hh:SO xa X xk hi th):SE xa X xk (.Subscript a (.Slice lo hi none p2) pos) (wSl ta tl th):=by
 have o:SlR X (λv l u H Q'=>∃hd x S Q,Rep hd S H/\Ur H x v/\Co hd Ur H Q Q'/\fSl x l u S Q):=by
  rintro pins s σ H v x1 vl vu lo hi sl Q' I r1 g1 g2 g3 ⟨hd,x,S,Q,r,u1,c,h⟩;cases x<;>simp only[fSl]at h
  .obtain⟨p,vs,rfl,e1,l1⟩:=urT u1;exact zef pins s σ H _ _ vl vu lo hi sl _ I r1 g1 g2 g3 ⟨p,vs,rfl,e1,λq H' sm e=>c.tupS r (zdC l1 _ _) h sm e⟩
  .obtain rfl:=urR u1;obtain⟨us,hl,h⟩:=h;obtain⟨vs,e1,l1⟩:=hl.of (K:=X.K) r;exact zfc pins s σ H _ _ vl vu lo hi sl _ I r1 g1 g2 g3 ⟨_,vs,rfl,e1,λq hq=>c.lst r (zdC l1 _ _) h hq⟩
 refine PE.weak (zbP o ha hl hh) λσ H Q' h=>Lt.bind (f:=λx ρ S1 Q E=>tl ρ S1 (λlo S2=>th ρ S2 (λhi S3=>fSl x lo hi S3 Q) E) E) h λhd ρ S Q E x v1 H1 e1 r1 u1 q1 c1=>?_;refine⟨hd,ρ,S,_,E,e1,r1,q1,λl S2 l' H2 k2 r2 u2 q2=>?_,c1.ex⟩;subst u2;refine⟨hd,ρ,S2,_,E,e1.mono k2,r2,q2,λu S3 u' H3 k3 r3 u3 q3=>?_,(c1.mono k2).ex⟩;subst u3;exact⟨hd,x,S3,Q,r3,(u1.mono k2).mono k3,(c1.ok.mono k2).mono k3,q3⟩
end
open PySem L2 PySem.SeqAt
variable[WW]
structure Wd where
 nx:En->Sto->Prop
 rt:U->Sto->Prop
 bk:En->Sto->Prop:=λ_ _=>False
 ct:En->Sto->Prop:=λ_ _=>False
abbrev Xs:=En->Xq
abbrev WS:=En->Sto->Wd->Xs->Prop
section
variable(xa:Nat->Addr)(xk:St->XK)
def Ce(hd:Hd)(H:Hp)(Q:En->Sto->Prop)(Q':St->Hp->Prop):Prop:=∀ρ S σ H',Kp H H'->EnR H' ρ σ->Rep hd S H'->Q ρ S->Q' σ H'
structure Cs(xa:Nat->Addr)(xk:St->XK)(hd:Hd)(H:Hp)(W:Wd)(E:Xs)(D:z9k):Prop where
 nx:Ce hd H W.nx D.nx
 bk:Ce hd H W.bk D.bk
 ct:Ce hd H W.ct D.ct
 rt:∀u S v H',Kp H H'->Rep hd S H'->Ur H' u v->W.rt u S->D.rt v H'
 ex:∀ea c ρ σ S H',Kp H H'->EnR H' ρ σ->Rep hd S H'->E ρ c S->xk σ (.ref ea) (some c) H'
def LtS(t:WS):TS:=λD σ H=>∃hd ρ S W E,EnR H ρ σ/\Rep hd S H/\t ρ S W E/\Cs xa xk hd H W E D
def SS(X:Cx)(s:Stmt)(t:WS):Prop:=PS X s (LtS xa xk t)
def SSs(X:Cx)(s:List Stmt)(t:WS):Prop:=PSs X s (LtS xa xk t)
end
abbrev WX(α:Type):=α->En->Sto->(En->Sto->Prop)->Prop
def LtG{α β:Type}(R:Hp->α->β->Prop)(g:WX α):β->St->Hp->(St->Hp->Prop)->Prop:=λv σ H Q'=>∃hd u ρ S Q,EnR H ρ σ/\Rep hd S H/\R H u v/\g u ρ S Q/\Ce hd H Q Q'
def SG(X:Cx)(e:Expr)(g:WX U):Prop:=PG X e (LtG Ur g)
def SGs(X:Cx)(e:List Expr)(g:WX (List U)):Prop:=PGs X e (LtG UrL g)
def Ce.mono{hd:Hd}{H H1:Hp}{Q:En->Sto->Prop}{Q':St->Hp->Prop}(c:Ce hd H Q Q')(k:Kp H H1):Ce hd H1 Q Q':=λρ S σ H' k'=>c ρ S σ H' (k.trans k')
theorem Cs.mono{xa:Nat->Addr}{xk:St->XK}{hd:Hd}{H H1:Hp}{W:Wd}{E:Xs}{D:z9k}(c:Cs xa xk hd H W E D)(k:Kp H H1):Cs xa xk hd H1 W E D :=
 ⟨c.nx.mono k,c.bk.mono k,c.ct.mono k,λu S v H' k'=>c.rt u S v H' (k.trans k'),λea x ρ σ S H' k'=>c.ex ea x ρ σ S H' (k.trans k')⟩
def Cs.at{xa:Nat->Addr}{xk:St->XK}{hd:Hd}{H:Hp}{W:Wd}{E:Xs}{D:z9k}{ρ:En}{σ:St}(c:Cs xa xk hd H W E D)(e:EnR H ρ σ):Cx' xa (xk σ) hd H (E ρ):=λea x S H' k r h=>c.ex ea x ρ σ S H' k (e.mono k) r h
def PS.weak{X:Cx}{e:Stmt}{t t':TS}(h:PS X e t)(w:∀D σ H,t' D σ H->t D σ H):PS X e t':=λpins s σ H D I q=>h pins s σ H D I (w D σ H q)
def PSs.weak{X:Cx}{e:List Stmt}{t t':TS}(h:PSs X e t)(w:∀D σ H,t' D σ H->t D σ H):PSs X e t':=λpins s σ H D I q=>h pins s σ H D I (w D σ H q)
def PG.weak{X:Cx}{e:Expr}{t t':TG}(h:PG X e t)(w:∀v σ H Q,t' v σ H Q->t v σ H Q):PG X e t':=λpins s σ H v u Q I r q=>h pins s σ H v u Q I r (w v σ H Q q)
def PGs.weak{X:Cx}{e:List Expr}{t t':TGs}(h:PGs X e t)(w:∀v σ H Q,t' v σ H Q->t v σ H Q):PGs X e t':=λpins s σ H v u Q I r q=>h pins s σ H v u Q I r (w v σ H Q q)
def zjZ:WS:=λρ S W _=>W.nx ρ S
def zlI(t u:WS):WS:=λρ S W E=>t ρ S { W with nx:=λρ' S'=>u ρ' S' W E } E
def zjz(t:WE):WS:=λρ S W E=>t ρ S (λ_ S1=>W.nx ρ S1) (E ρ)
def zlx(t:WE):WS:=λρ S W E=>t ρ S W.rt (E ρ)
def zlj(c:WT)(t u:WS):WS:=λρ S W E=>c ρ S (λk S1=>cond k (t ρ S1 W E) (u ρ S1 W E)) (E ρ)
def zjJ(t:WE)(g:WX U):WS:=λρ S W E=>t ρ S (λu S1=>g u ρ S1 W.nx) (E ρ)
def gN(i:Nat):WX U:=λu ρ S Q=>Q (st ρ i u) S
def zj1:WX (List U):=λus ρ S Q=>match us with
 |[]=>Q ρ S
 |_=>False
def z6O(g:WX U)(gs:WX (List U)):WX (List U):=λus ρ S Q=>match us with
 |u::r=>g u ρ S λρ' S'=>gs r ρ' S' Q
 |[]=>False
def zj7(n:Nat)(gs:WX (List U)):WX U:=λu ρ S Q=>match u with
 |.tup us=>us.length=n/\gs us ρ S Q
 |.ref a=>∃us,isL S a us/\us.length=n/\gs us ρ S Q
 |_=>False
def zlr(i:Nat)(f:WF)(t:WE):WS:=λρ S W E=>opt (lk ρ i) λx=>t ρ S (λy S1=>f x y S1 λz S2=>W.nx (st ρ i z) S2) (E ρ)
section
variable{xa:Nat->Addr}{X:Cx}{xk:St->XK}{a b e:Expr}{t:WE}{pos:Pos}{s:Stmt}{ss:List Stmt}{ts us:WS}
def z0m:SSs xa xk X [] zjZ:=PSs.weak zeX λD σ H ⟨hd,ρ,S,W,E,e,r,h,c⟩=>c.nx ρ S σ H (.refl _) e r h
def z04(h1:SS xa xk X s ts)(h2:SSs xa xk X ss us):SSs xa xk X (s::ss) (zlI ts us):=PSs.weak (zbK h1 h2) λD σ H ⟨hd,ρ,S,W,E,e,r,h,c⟩ =>
 ⟨hd,ρ,S,_,E,e,r,h,λρ1 S1 σ1 H1 k1 e1 r1 q1=>⟨hd,ρ1,S1,W,E,e1,r1,q1,c.mono k1⟩,c.bk,c.ct,c.rt,c.ex⟩
def z03(h1:SS xa xk X s ts):SSs xa xk X [s] ts:=zb6 h1
def LtS.of{α β:Type}{R:Hp->α->β->Prop}{t:WG α}{f:α->WS}{D:z9k}{σ:St}{H:Hp}{T:β->Hp->Prop}(h:LtS xa xk (λρ S W E=>t ρ S (λu S1=>f u ρ S1 W E) (E ρ)) D σ H)(hT:∀hd ρ S W E u v H1,EnR H1 ρ σ->Rep hd S H1->R H1 u v->f u ρ S W E->Cs xa xk hd H1 W E D->T v H1):Lt xa xk R t σ H T:=by obtain⟨hd,ρ,S,W,E,e,r,h,c⟩:=h;exact⟨hd,ρ,S,_,E ρ,e,r,h,λu S1 v H1 k1 r1 u1 q1=>hT hd ρ S1 W E u v H1 (e.mono k1) r1 u1 q1 (c.mono k1),c.at e⟩
def z0d(h:SE xa X xk e t)(hs:swapsWith e none pos.line X.env=pure false:=by rfl):SS xa xk X (.Expr e pos) (zjz t):=PS.weak (zgb h hs) λD σ H q =>
 LtS.of (f:=λ_ ρ S1 W E=>W.nx ρ S1) q λhd ρ S W E u v H1 e1 r1 u1 q1 c1=>c1.nx ρ S σ H1 (.refl _) e1 r1 q1
def z0l(h:SE xa X xk e t):SS xa xk X (.Return (some e) pos) (zlx t):=PS.weak (zhP h) λD σ H q =>
 LtS.of (f:=λu ρ S1 W E=>W.rt u S1) q λhd ρ S W E u v H1 e1 r1 u1 q1 c1=>c1.rt u S v H1 (.refl _) r1 u1 q1
def z0q{tc:WT}{bs:List Stmt}(hc:ST xa X xk e tc)(h1:SSs xa xk X ss ts)(h2:SSs xa xk X bs us):SS xa xk X (.If e ss bs pos) (zlj tc ts us):=PS.weak (zjW hc h1 h2) λD σ H q =>
 LtS.of (R:=Rb) (f:=λk ρ S1 W E=>cond k (ts ρ S1 W E) (us ρ S1 W E)) q λhd ρ S W E u v H1 e1 r1 u1 q1 c1=>by
  subst u1;cases u with
  |true=>rw[if_pos rfl];exact⟨hd,ρ,S,W,E,e1,r1,q1,c1⟩
  |false=>rw[if_neg y0s];exact⟨hd,ρ,S,W,E,e1,r1,q1,c1⟩
def z08(i:Nat){x:Str}(hN:X.N.Nodup)(hi:X.N[i]?=some x:=by rfl)(hx:Loc X.env.scope x:=by first|exact Or.inl rfl|exact Or.inr rfl)(hf:X.fn x=true\/X.env.scope.names.lookup x=some .local:=by first|exact .inl rfl|exact .inr rfl|assumption):SG X (.Name x pos) (gN i) :=
 PG.weak (zeK hN hi hx hf) λv σ H Q' ⟨hd,u,ρ,S,Q,e,r,k,h,c⟩=>c _ S _ H (.refl _) (e.set i k) r h
def z0u:SGs X [] zj1:=PGs.weak zen λv σ H Q' ⟨hd,u,ρ,S,Q,e,r,k,h,c⟩=>by
 unfold zj1 at h;split at h
 .simp only[UrL]at k;exact⟨k,c _ S _ H (.refl _) e r h⟩
 .exact h.elim
def z0b{es:List Expr}{g:WX U}{gs:WX (List U)}(h1:SG X e g)(h2:SGs X es gs)(hs:(assignEach (e::es) X.env).map (·.2)=assign e X.env::(assignEach es X.env).map (·.2):=by rfl):SGs X (e::es) (z6O g gs) :=
 PGs.weak (zc6 h1 h2 hs) λv σ H Q' ⟨hd,u,ρ,S,Q,e,r,k,h,c⟩=>by
  unfold z6O at h;split at h
  .rename_i u ur;simp only[UrL]at k;obtain⟨v,vr,rfl,k1,k2⟩:=k;exact⟨v,vr,rfl,hd,u,ρ,S,_,e,r,k1,h,λρ1 S1 σ1 H1 kp e1 r1 q1=>⟨hd,ur,ρ1,S1,Q,e1,r1,k2.mono kp,q1,c.mono kp⟩⟩
  .exact h.elim
def z0F{es:List Expr}{k:Nat}{gs:WX (List U)}(hc:X.calm=true)(h:SGs X es gs)(hn:(assignEach es X.env).length=es.length:=by rfl)(hst:(assignEach es X.env).findIdx? (·.1)=none:=by rfl):SG X (.Tuple es k pos) (zj7 es.length gs):=by
 rintro pins s σ H v y Q' I r1 ⟨hd,u,ρ,S,Q,e,r,k,q,c⟩;cases u<;>simp only[zj7]at q
 .obtain⟨a,vs,rfl,e1,l1⟩:=urT k;exact zhE hc h hn hst pins s σ H _ _ _ I r1 ⟨a,vs,rfl,.of e1,by rw[<-l1.len];exact q.1,hd,_,ρ,S,Q,e,r,l1,q.2,c⟩
 .obtain rfl:=urR k;obtain⟨us,hl,q1,q2⟩:=q;obtain⟨vs,e1,l1⟩:=hl.of (K:=X.K) r;exact ziE hc h hn hst pins s σ H _ _ _ I r1 ⟨_,vs,rfl,e1,by rw[<-l1.len];exact q1,hd,_,ρ,S,Q,e,r,l1,q2,c⟩
def z1k{tg:Expr}{g:WX U}(he:SE xa X xk e t)(hg:SG X tg g)(hs:swapsWithSole [tg] e pos.line X.env=pure false:=by rfl)(hw:swappedStores [tg] e X.env=pure none:=by rfl)(h1:(assignEach [tg] X.env).map (·.2)=[assign tg X.env]:=by rfl):SS xa xk X (.Assign [tg] e pos) (zjJ t g):=PS.weak (zhx he hg hs hw h1) λD σ H q =>
 LtS.of (f:=λu ρ S1 W E=>g u ρ S1 W.nx) q λhd ρ S W E u v H1 e1 r1 u1 q1 c1=>⟨hd,u,ρ,S,_,e1,r1,u1,q1,c1.nx⟩
def z0n(i:Nat){x:Str}{pos':Pos}(hN:X.N.Nodup)(he:SE xa X xk e t)(hi:X.N[i]?=some x:=by rfl)(hx:Loc X.env.scope x:=by first|exact Or.inl rfl|exact Or.inr rfl)(hs:swapsWith e (some (.Name x pos')) pos.line X.env=pure false:=by rfl)(hf:X.fn x=true\/X.env.scope.names.lookup x=some .local:=by first|exact .inl rfl|exact .inr rfl|assumption) : SS xa xk X (.Assign [.Name x pos'] e pos) (zjJ t (gN i)):=PS.weak (zht hN hi hx he hs hf) λD σ H q =>
 LtS.of (f:=λu ρ S1 W E=>gN i u ρ S1 W.nx) q λhd ρ S W E u v H1 e1 r1 u1 q1 c1=>c1.nx _ S _ H1 (.refl _) (e1.set i u1) r1 q1
def whN(c:WT)(b:WS):Nat->WS
 |0=>λ_ _ _ _=>False
 |n+1=>λρ S W E=>c ρ S (λk S1=>cond k (b ρ S1 { nx:=λρ' S'=>whN c b n ρ' S' W E,rt:=W.rt,bk:=W.nx,ct:=λρ' S'=>whN c b n ρ' S' W E } E) (W.nx ρ S1)) (E ρ)
def wWh(c:WT)(b:WS):WS:=λρ S W E=>∃n,whN c b n ρ S W E
def z2B{tc:WT}(hp:PassesOwn (model X.prog X.w) X.A X.env X.xe)(hc:ST xa X xk e tc)(hb:SSs xa xk X ss ts):SS xa xk X (.While e ss [] pos) (wWh tc ts):=PS.weak (zcT hp hc hb) λD σ H ⟨hd,ρ,S,W,E,e,r,⟨n,h⟩,c⟩=>by
 refine⟨λm σ H=>∃ρ S,EnR H ρ σ/\Rep hd S H/\whN tc ts m ρ S W E/\Cs xa xk hd H W E D,⟨n,ρ,S,e,r,h,c⟩,?_⟩;rintro m σ1 H1 ⟨ρ1,S1,e1,r1,h1,c1⟩;cases m with
 |zero=>exact h1.elim
 |succ m =>
  refine⟨hd,ρ1,S1,_,E ρ1,e1,r1,h1,λk S2 k' H2 kp r2 u2 q2=>?_,c1.at e1⟩;subst u2;have c2:=c1.mono kp;cases k with
  |false=>rw[if_neg y0s];exact c2.nx ρ1 S2 σ1 H2 (.refl _) (e1.mono kp) r2 q2
  |true =>
   rw[if_pos rfl];exact⟨_,λσ' H' h=>⟨m,y1I _,h⟩,hd,ρ1,S2,_,E,e1.mono kp,r2,q2,λρ3 S3 σ3 H3 k3 e3 r3 q3=>⟨ρ3,S3,e3,r3,q3,c2.mono k3⟩,c2.nx,λρ3 S3 σ3 H3 k3 e3 r3 q3=>⟨ρ3,S3,e3,r3,q3,c2.mono k3⟩,c2.rt,c2.ex⟩
abbrev WI:=En->Sto->(List U->(Sto->Prop)->Sto->Prop)->Xq->Prop
structure ItR(H0:Hp)(J:It)(L:List U)(ck:Sto->Prop):Prop where
 go:∀{hd:Hd} i H S x,Kp H0 H->Rep hd S H->ck S->L[i]?=some x->J.go i H/\∀v H',J.yld i H v H'->Kp H H'/\Rep hd S H'/\Ur H' x v
 stop:∀{hd:Hd} i H S,Kp H0 H->Rep hd S H->ck S->L.length=i->J.stop i H
def LtI(xa:Nat->Addr)(xk:St->XK)(t:WI):TI:=λσ H R'=>∃hd ρ S R E,EnR H ρ σ/\Rep hd S H/\t ρ S R E/\(∀L ck S' J H',Kp H H'->Rep hd S' H'->ItR H' J L ck->R L ck S'->R' J H')/\Cx' xa (xk σ) hd H E
def SI(xa:Nat->Addr)(xk:St->XK)(X:Cx)(tg e:Expr)(t:WI):Prop:=PI X tg e (LtI xa xk t)
def frL(ck:Sto->Prop)(g:WX U)(b:WS):List U->WS
 |[]=>λρ S W _=>ck S/\W.nx ρ S
 |x::L=>λρ S W E=>ck S/\g x ρ S λρ' S'=>b ρ' S' { nx:=λρ2 S2=>frL ck g b L ρ2 S2 W E,rt:=W.rt,bk:=W.nx,ct:=λρ2 S2=>frL ck g b L ρ2 S2 W E } E
def zma(ti:WI)(g:WX U)(b:WS):WS:=λρ S W E=>ti ρ S (λL ck S1=>frL ck g b L ρ S1 W E) (E ρ)
def z1U{tg:Expr}{ti:WI}{g:WX U}(hp:PassesOwn (model X.prog X.w) X.A X.env X.xe)(hc:X.calm=true)(hi:SI xa xk X tg e ti)(hg:SG X tg g)(hb:SSs xa xk X ss ts)(hs:∀x,foldedSetIterable e X.env x=pure x:=by intro _;rfl) : SS xa xk X (.For tg e ss [] pos) (zma ti g ts):=PS.weak (ziB hp hc hi hg hb hs) λD σ H ⟨hd,ρ,S,W,E,e,r,h,c⟩=>by
 refine⟨hd,ρ,S,_,E ρ,e,r,h,λL ck S1 J H1 k1 r1 it q1=>?_,c.at e⟩;have c1:=c.mono k1;refine⟨λi m σ H=>i+m=L.length/\Kp H1 H/\∃ρ S,EnR H ρ σ/\Rep hd S H/\frL ck g ts (L.drop i) ρ S W E/\Cs xa xk hd H W E D,⟨L.length,by simp,.refl _,ρ,S1,e.mono k1,r1,q1,c1⟩,?_⟩;rintro i m σ2 H2 ⟨hm,kk,ρ2,S2,e2,r2,q2,c2⟩;by_cases hi:i<L.length
 .rw[y17 hi]at q2;obtain⟨ck2,q2⟩:=q2;obtain⟨g1,g2⟩:=it.go i H2 S2 L[i] kk r2 ck2 (by simp[hi]);refine .inr ⟨g1,λσ' H'=>Kp H1 H'/\∃ρ S,EnR H' ρ σ'/\Rep hd S H'/\frL ck g ts (L.drop (i+1)) ρ S W E/\Cs xa xk hd H' W E D,λσ' H' q=>⟨m-1,by lia,by lia,q⟩,λx H3 y3=>?_⟩;obtain⟨k3,r3,u3⟩:=g2 x H3 y3;have c3:=c2.mono k3;refine⟨hd,L[i],ρ2,S2,_,e2.mono k3,r3,u3,q2,λρ4 S4 σ4 H4 k4 e4 r4 q4=>?_⟩;have c4:=c3.mono k4;exact⟨hd,ρ4,S4,_,E,e4,r4,q4,λρ5 S5 σ5 H5 k5 e5 r5 q5=>⟨kk.trans (k3.trans (k4.trans k5)),ρ5,S5,e5,r5,q5,c4.mono k5⟩,c4.nx,λρ5 S5 σ5 H5 k5 e5 r5 q5=>⟨kk.trans (k3.trans (k4.trans k5)),ρ5,S5,e5,r5,q5,c4.mono k5⟩,c4.rt,c4.ex⟩
 .have ei:L.length=i:=by lia
  rw[y26 (by lia)]at q2;exact .inl ⟨it.stop i H2 S2 kk r2 q2.1 ei,c2.nx _ _ _ _ (.refl _) e2 r2 q2.2⟩
end
def IV(X:Cx)(tg:Expr)(r:V->Hp->(It->Hp->Prop)->Prop):Prop:=∀(pins:yyP)(s:Shared)(σ:St)(H:Hp)(x:V)(v:Value)(R:It->Hp->Prop),Inv X pins σ H s->z0y x v->r x H R->wpAny (model X.prog X.w) X.A (pyIter v) (PIE X pins σ tg R) X.xe s
section
variable{xa:Nat->Addr}{X:Cx}{xk:St->XK}{tg e:Expr}{t:WE}
def zgp:IV X tg λx H R=>∃a,x=.ref a/\(∃xs,SqL X.K H a xs)/\R (Itl X.K a) H:=by
 rintro pins s1 σ H1 x v R I1 r1 ⟨a,rfl,⟨xs,hq⟩,q⟩;cases r1;obtain⟨its,rv,p,hz⟩:=I1.list hq;refine y0X p.isList ?_;refine⟨s1.heap.objs.size,[s1.heap.objs.size],_,_,H1,rfl,I1.kept (t':=s1.toks) λb o e=>y02 _ e,zai a _,⟨_,y04 _ rfl,rfl,rfl⟩,λb hb=>?_,q⟩;have e:b=s1.heap.objs.size:=by simpa using hb
 subst e;exact I1.fpOk (y09 _) (I1.hok.fresh (y09 _))
def zit:IV X tg λx H R=>∃a,x=.ref a/\(∃xs,SqT X.K H a xs)/\R (Itt X.K a) H:=by
 rintro pins s1 σ H1 x v R I1 r1 ⟨a,rfl,⟨xs,hq⟩,q⟩;cases r1;obtain⟨its,rv,p,hz⟩:=I1.tuple hq;refine y2c (show s1.heap.IsTuple a its.toArray from p) ?_;refine⟨s1.heap.objs.size,[s1.heap.objs.size],_,_,H1,rfl,I1.kept (t':=s1.toks) λb o e=>y02 _ e,z8S a _,⟨_,y04 _ rfl,rfl,rfl⟩,λb hb=>?_,q⟩;have e:b=s1.heap.objs.size:=by simpa using hb
 subst e;exact I1.fpOk (y09 _) (I1.hok.fresh (y09 _))
def zcn{a:Addr}{us:List U}{H0:Hp}:ItR H0 (Itl X.K a) us (λS=>isL S a us):=by
 constructor
 .intro hd i H S x _ r ck hx;obtain⟨vs,e,l⟩:=ck.of (K:=X.K) r;obtain⟨v,h1,h2⟩:=l.get hx;refine⟨⟨vs,v,e,h1⟩,λv' H' y=>?_⟩;obtain⟨rfl,y⟩:=y;have:=y vs e;rw[h1]at this;cases this;exact⟨.refl _,r,h2⟩
 .intro hd i H S _ r ck hl;obtain⟨vs,e,l⟩:=ck.of (K:=X.K) r;exact⟨vs,e,by rw[<-l.len,hl];exact y09 _⟩
def zec{a:Addr}{us:List U}{vs:List V}{H0:Hp}(e:H0 a=some (.tup vs))(l:UrL H0 us vs):ItR H0 (Itt X.K a) us (λ_=>True):=by
 constructor
 .intro hd i H S x k r _ hx;obtain⟨v,h1,h2⟩:=l.get hx;refine⟨⟨vs,v,.of (k.tup _ _ e),h1⟩,λv' H' y=>?_⟩;obtain⟨rfl,y⟩:=y;have:=y vs (.of (k.tup _ _ e));rw[h1]at this;cases this;exact⟨.refl _,r,h2.mono k⟩
 .intro hd i H S k r _ hl;exact⟨vs,.of (k.tup _ _ e),by rw[<-l.len,hl];exact y09 _⟩
def rg(lo:Int)(n:Nat):List U:=(List.range n).map λ(i:Nat)=>U.int (lo+i)
def z9O{lo:Int}{n:Nat}{H0:Hp}:ItR H0 (Itr lo n) (rg lo n) (λ_=>True):=by
 unfold rg;constructor
 .intro hd i H S x k r _ hx;rw[y0l]at hx;by_cases hi:i<n
  .rw[List.getElem?_range hi]at hx;cases hx;exact⟨hi,λv H' ⟨e1,e2⟩=>by subst e1 e2;exact⟨.refl _,r,uI⟩⟩
  .rw[y1m (by simpa using hi)]at hx;cases hx
 .intro hd i H S k r _ hl;simp at hl;exact y30 hl
def itS(u:U)(S:Sto)(R:List U->(Sto->Prop)->Sto->Prop):Prop:=match u with
 |.tup us=>R us (λ_=>True) S
 |.ref a=>∃us,isL S a us/\R us (λS=>isL S a us) S
 |.str x=>R (x.cps.toList.map λc=>U.str ⟨#[c]⟩) (λ_=>True) S
 |_=>False
def wIt(t:WE):WI:=λρ S R E=>t ρ S (λu S1=>itS u S1 R) E
def z0E(h:SE xa X xk e t)(hv:IV X tg (λv H R'=>∃hd x S R,Rep hd S H/\Ur H x v/\itS x S R/\∀L ck S' J H',Kp H H'->Rep hd S' H'->ItR H' J L ck->R L ck S'->R' J H')):SI xa xk X tg e (wIt t):=by intro pins s σ H R' I ⟨hd,ρ,S,R,E,e,r,h',c,x⟩;refine thn (h pins s σ H _ I ⟨hd,ρ,S,λu S1=>itS u S1 R,E,e,r,h',λu S1 v H1 k1 r1 u1 q1=>?_,x⟩) λv s1 ⟨y,H1,I1,r1,q1⟩=>hv pins s1 σ H1 y v R' I1 r1 q1;exact⟨hd,u,S1,R,r1,u1,q1,λL ck S' J H' k=>c L ck S' J H' (k1.trans k)⟩
def z0D:IV X tg (λv H R'=>∃hd x S R,Rep hd S H/\Ur H x v/\itS x S R/\∀L ck S' J H',Kp H H'->Rep hd S' H'->ItR H' J L ck->R L ck S'->R' J H'):=by
 rintro pins s σ H v y R' I r1 ⟨hd,x,S,R,r,u,h,c⟩;cases x<;>simp only[itS]at h
 .obtain rfl:=urS u;rename_i z;obtain⟨t,rfl⟩:=r1;have q:R' (Its z) H:=c _ _ S _ H (.refl _) r ⟨λ{hd} i H1 S1 x k1 r1 _ hx=>by
   rw[y0l]at hx;obtain⟨ch,e1,rfl⟩:=y1G.mp hx;refine⟨by show i<z.cps.size;simpa using(y0z.mp e1).1,λv H' ⟨e2,ch',e3,e4⟩=>?_⟩;subst e2 e4;have e3:z.cps.toList[i]?=some ch':=e3;rw[e1]at e3;cases e3;exact⟨.refl _,r1,uS⟩,λ{hd} i H1 S1 k1 r1 _ hl=>by
    have hl:z.length=i:=by simpa[Str.length]using hl
    exact y30 hl⟩ h
  have fp:∀b∈[s.heap.objs.size],z52 X pins H b:=λb hb=>by
   have e:b=s.heap.objs.size:=by simpa using hb
   subst e;exact I.fpOk (y09 _) (I.hok.fresh (y09 _))
  cases ha:z.cps.all (· < 128)with
  |true=>exact wpAny_pyIter_ascii ha ⟨s.heap.objs.size,[s.heap.objs.size],_,_,H,rfl,I.kept (t':=s.toks) λb o e=>y02 _ e,z8H _ z t,⟨_,y04 _ rfl,rfl,rfl⟩,fp,q⟩
  |false=>exact wpAny_pyIter_wide ha ⟨s.heap.objs.size,[s.heap.objs.size],_,_,H,rfl,I.kept (t':=s.toks) λb o e=>y02 _ e,zat _ z t,⟨_,y04 _ rfl,rfl,rfl⟩,fp,q⟩
 .obtain⟨a,vs,rfl,e,l⟩:=urT u;exact zit pins s σ H _ _ _ I r1 ⟨a,rfl,⟨vs,.of e⟩,c _ _ S _ H (.refl _) r (zec e l) h⟩
 .obtain rfl:=urR u;obtain⟨us,hl,h⟩:=h;obtain⟨vs,e,l⟩:=hl.of (K:=X.K) r;exact zgp pins s σ H _ _ _ I r1 ⟨_,rfl,⟨vs,e⟩,c _ _ S _ H (.refl _) r zcn h⟩
def rg1(us:List U)(S:Sto)(R:List U->(Sto->Prop)->Sto->Prop):Prop:=match us with
 |[.int j]=>-(2^62)<=j/\j<2^62/\R (rg 0 j.toNat) (λ_=>True) S
 |_=>False
def rg2(us:List U)(S:Sto)(R:List U->(Sto->Prop)->Sto->Prop):Prop:=match us with
 |[.int i,.int j]=>(-(2^62)<=i/\i<2^62/\-(2^62)<=j/\j<2^62)/\R (rg i (j-i).toNat) (λ_=>True) S
 |_=>False
def wRg(f:List U->Sto->(List U->(Sto->Prop)->Sto->Prop)->Prop)(t:WA):WI:=λρ S R E=>t ρ S (λus S1=>f us S1 R) E
def z4p{H:Hp}{x:U}{vs:List V}(h:UrL H [x] vs):∃v,vs=[v]/\Ur H x v:=by simp only[UrL]at h;obtain⟨v,r,rfl,a,rfl⟩:=h;exact⟨v,rfl,a⟩
def ziU{H:Hp}{x y:U}{vs:List V}(h:UrL H [x,y] vs):∃v w,vs=[v,w]/\Ur H x v/\Ur H y w:=by simp only[UrL]at h;obtain⟨v,r,rfl,a,w,r',rfl,b,rfl⟩:=h;exact⟨v,w,rfl,a,b⟩
def LtI.of{t:WA}{f:List U->Sto->(List U->(Sto->Prop)->Sto->Prop)->Prop}{σ:St}{H:Hp}{R':It->Hp->Prop}{T:List V->Hp->Prop}(h:LtI xa xk (λρ S R E=>t ρ S (λu S1=>f u S1 R) E) σ H R')(hT:∀hd S R u v H1,Rep hd S H1->UrL H1 u v->f u S R->(∀L ck S' J H',Kp H1 H'->Rep hd S' H'->ItR H' J L ck->R L ck S'->R' J H')->T v H1):Lt xa xk UrL t σ H T:=by obtain⟨hd,ρ,S,R,E,e,r,h,c,x⟩:=h;exact⟨hd,ρ,S,_,E,e,r,h,λu S1 v H1 k1 r1 u1 q1=>hT hd S1 R u v H1 r1 u1 q1 λL ck S' J H' k=>c L ck S' J H' (k1.trans k),x⟩
def zbj{a:Expr}{ta:WA}{p pos:Pos}(hg:Gl X "range")(hm:X.mg "range"=none)(ha:SA xa X xk [a] ta)(hs:starEach [a] X.env=[(false,eval a X.env)]:=by rfl):SI xa xk X tg (.Call (.Name "range" p) [a] [] pos) (wRg rg1 ta) :=
 λpins s σ H R' I q=>zaI hg hm ha hs pins s σ H R' I (LtI.of (f:=rg1) q λhd S R u v H1 r1 u1 q1 c1=>by
  unfold rg1 at q1;split at q1
  .obtain⟨v,rfl,g1⟩:=z4p u1;exact⟨_,by rw[urI g1],q1.1,q1.2.1,c1 _ _ S _ H1 (.refl _) r1 z9O q1.2.2⟩
  .exact q1.elim)
def zhy{a b:Expr}{ta:WA}{p pos:Pos}(hg:Gl X "range")(hm:X.mg "range"=none)(ha:SA xa X xk [a,b] ta)(hs:starEach [a,b] X.env=[(false,eval a X.env),(false,eval b X.env)]:=by rfl)(hs2:starEach [b] X.env=[(false,eval b X.env)]:=by rfl):SI xa xk X tg (.Call (.Name "range" p) [a,b] [] pos) (wRg rg2 ta) :=
 λpins s σ H R' I q=>zaf hg hm ha hs hs2 pins s σ H R' I (LtI.of (f:=rg2) q λhd S R u v H1 r1 u1 q1 c1=>by
  unfold rg2 at q1;split at q1
  .obtain⟨v,w,rfl,g1,g2⟩:=ziU u1;exact⟨_,_,by rw[urI g1,urI g2],q1.1,c1 _ _ S _ H1 (.refl _) r1 z9O q1.2⟩
  .exact q1.elim)
end
open PySem L2 PySem.SeqAt
open PyProof.Rows (envOfC)
variable[WW]
abbrev Wsp:=List U->Sto->Kq U->Xq->Prop
def lsp(xa:Nat->Addr)(sp:Wsp):Sp:=λvs H Q' xk=>∃hd us S Q E,Rep hd S H/\UrL H us vs/\sp us S Q E/\Ct xa xk hd Ur H Q E Q'
def stt(n:Nat)(us:List U):En:=us.map some++List.replicate (n-us.length) none
theorem z9G:∀(n i:Nat),lk (List.replicate n none) i=none
 |0,_=>rfl
 |_+1,0=>rfl
 |n+1,i+1=>z9G n i
def zcj{H:Hp}(m:Nat):EnR H (List.replicate m none) (List.replicate m none):=⟨by simp,λi u e=>by rw[z9G]at e;cases e⟩
def zd8{H:Hp}{u:U}{v:V}{ρ:En}{σ:St}(a:Ur H u v)(h:EnR H ρ σ):EnR H (some u::ρ) (some v::σ):=⟨by rw[y0c,y0c,h.1],λi x e=>by
 cases i with
 |zero=>cases e;exact⟨v,rfl,a⟩
 |succ i=>obtain⟨y,h1,h2⟩:=h.2 i x e;exact⟨y,by simpa using h1,h2⟩⟩
theorem zb9{H:Hp}{m:Nat}:∀{us:List U}{vs:List V},UrL H us vs->EnR H (us.map some++List.replicate m none) (vs.map some++List.replicate m none)
 |[],_,h=>by simp only[UrL]at h;subst h;exact zcj m
 |u::us,_,h=>by simp only[UrL]at h;obtain⟨v,r,rfl,a,b⟩:=h;exact zd8 a (zb9 b)
def z63{H:Hp}{N:List Str}{us:List U}{vs:List V}(h:UrL H us vs):EnR H (stt N.length us) (L2.start N vs):=by unfold stt L2.start;rw[h.len];exact zb9 h
section
variable{P:Program}{w:World}{K:yyF}{mg:yyS}{base:Heap}{xa:Nat->Addr}
def wfn{x qual:Str}{st:Stmt}{f:Addr}{fd:FuncData}{N ps:List Str}{k:Nat}{sp:Wsp}(F:Fun K x qual st f fd)(Sc:z1d N ps (z07 st))(len:∀us S Q E,sp us S Q E->us.length=ps.length)(ht:∃t,(∀(cdv:Value)(A:Around)(outer:List Env)(s:Shared)(H:Hp)(E:XK),z1o k (A.deeper (envOfC qual (z07 st) s.heap.objs.size f cdv))->SSs xa (λ_=>E) (z2a (CXw xa P w) P w K mg base N qual (z07 st) f cdv A outer s H E) (z0v st) t) /\ ∀us S Q E,sp us S Q E->t (stt N.length us) S { nx:=λ_ S'=>Q .non S',rt:=Q } λ_=>E):z2d P w K mg base (CXw xa P w) (k+1) f fd ps (lsp xa sp):=by obtain⟨t,ht,hp⟩:=ht;refine F.okx Sc (λvs H Q' xk ⟨hd,us,S,Q,E,r,u,h,c⟩=>by rw[<-u.len];exact len us S Q E h) λcdv A outer s H vs Q' xk hr ⟨hd,us,S,Q,E,r,u,h,c⟩=>⟨_,ht cdv A outer s H xk hr,?_⟩;exact⟨hd,_,S,_,_,z63 u,r,hp us S Q E h,λρ S1 σ H1 k1 e1 r1 q1=>c.ok _ S1 _ H1 k1 r1 (by simp only[Ur]) q1,λ_ _ _ _ _ _ _ q=>q.elim,λ_ _ _ _ _ _ _ q=>q.elim,λu S1 v H1 k1 r1 u1 q1=>c.ok u S1 v H1 k1 r1 u1 q1,λea c1 ρ σ S1 H1 k1 e1 r1 q1=>c.ex ea c1 S1 H1 k1 r1 q1⟩
structure Fc(P:Program)(w:World)(K:yyF)(mg:yyS)(base:Heap)(xa:Nat->Addr)(x:Str)(k:Nat)(sp:Wsp):Prop where
 ok:∃f fd ps,z2d P w K mg base (CXw xa P w) k f fd ps (lsp xa sp)/\z19 K fd ps []/\PySem.W.keepIn K (.ref f)=true/\mg x=some (.ref f)
structure Fm(P:Program)(w:World)(K:yyF)(mg:yyS)(base:Heap)(xa:Nat->Addr)(C:Addr)(m:Str)(k:Nat)(sp:Wsp):Prop where
 ok:∃f fd ps,z2d P w K mg base (CXw xa P w) k f fd ps (lsp xa sp)/\z19 K fd ps []/\ziX K C m f/\Cls K C
end
def z8x(sp:Wsp)(t:WA):WE:=λρ S Q E=>t ρ S (λus S1=>sp us S1 Q E) E
def z4d(S:Sto)(u:U)(C:Addr)(k:List (Str × U)->Prop):Prop:=match u with
 |.ref a=>∃fs,S a=some (.ins C fs)/\k fs
 |_=>False
def zgM(C:Addr)(m:Str)(sp:Wsp)(t:WE)(ts:WA):WE:=λρ S Q E=>t ρ S (λx S1=>z4d S1 x C λfs=>fs.lookup m=none/\ts ρ S1 (λus S2=>sp (x::us) S2 Q E) E) E
def z4d.ex{S:Sto}{u:U}{C:Addr}{k:List (Str × U)->Prop}(h:z4d S u C k):∃a fs,u=.ref a/\S a=some (.ins C fs)/\k fs:=by cases u<;>simp only[z4d]at h;obtain⟨fs,h1,h2⟩:=h;exact⟨_,fs,rfl,h1,h2⟩
theorem FsR.lookup{H:Hp}{fs:List (Str × U)}{vs:List (Str × V)}(h:FsR H fs vs)(f:Str):(fs.lookup f=none->vs.lookup f=none)/\∀u,fs.lookup f=some u->∃v,vs.lookup f=some v/\Ur H u v:=by
 induction h with
 |nil=>exact⟨λ_=>rfl,λu e=>by cases e⟩
 |@cons p q ps qs h t ih =>
  obtain⟨n,u⟩:=p;obtain⟨n',v⟩:=q;obtain⟨rfl,h2⟩:=h;simp only[y0K];cases f==n with
  |true=>exact⟨(by intro e;cases e),(by intro u e;cases e;exact⟨v,rfl,h2⟩)⟩
  |false=>exact ih
section
variable{xa:Nat->Addr}{X:Cx}{xk:St->XK}{a e o:Expr}{es:List Expr}{t:WE}{ts:WA}{pos p apos:Pos}{k j:Nat}{sp:Wsp}{x m:Str}{C:Addr}
def z6g(xa:Nat->Addr)(X:Cx)(xk:St->XK):Prop:=∀σ,zac (CXw xa X.prog X.w) X σ (xk σ)
def zfL{pins:yyP}{σ:St}{H:Hp}{s:Shared}{Q':VK}{ys:List Value}{vs:List V}{f:Addr}{fd:FuncData}{ps:List Str}{us:List U}{hd:Hd}{S:Sto}{Q:Kq U}{E:Xq}(F:z2d X.prog X.w X.K X.mg X.base (CXw xa X.prog X.w) j f fd ps (lsp xa sp))(hr:z1o j X.A)(hb:z19 X.K fd ps [])(hx:z6g xa X xk)(I:Inv X pins σ H s)(r:z0B vs ys)(rp:Rep hd S H)(u:UrL H us vs)(h:sp us S Q E)(c:Ct xa (xk σ) hd Ur H Q E Q'):wpAny (model X.prog X.w) X.A (call (.ref f) ys) (EP X pins σ Q') X.xe s :=
 zfA (dvs:=[]) F hr hb .nil (hx σ) I r ⟨hd,us,S,Q,E,rp,by rw[y0n];exact u,h,c⟩
def z09(F:Fc X.prog X.w X.K X.mg X.base xa x j sp)(hr:z1o j X.A)(hx:z6g xa X xk)(ha:SA xa X xk (e::es) ts)(hg:Gl X x:=by rfl)(hdb:(x==("__debug__":Str))=false:=by decide)(he:starEach (e::es) X.env=(false,eval e X.env)::starEach es X.env:=by rfl)(hpl:(backTo pos (starEach es X.env)).any (·.1)=false:=by rfl):SE xa X xk (.Call (.Name x p) (e::es) [] pos) (z8x sp ts):=by obtain⟨f,fd,ps,F,hb,hk,hm⟩:=F.ok;intro pins s σ H Q' I h;refine y15 (z23 I hg hm ?_ hdb);refine y1O (h₀:=X.base) I.ok.mod.kin hk (thn (ha pos pins s σ H _ I (Lt.bind (T:=λvs H1=>∃hd us S Q E,Rep hd S H1/\UrL H1 us vs/\sp us S Q E/\Ct xa (xk σ) hd Ur H1 Q E Q') (f:=λus ρ S1 Q E=>sp us S1 Q E) h λhd ρ S Q E us vs H1 e1 r1 u1 q1 c1=>⟨hd,us,S,Q,E,r1,u1,q1,c1⟩)) λys s1 ⟨vs,H1,I1,r,hd,us,S,Q,E,rp,u1,q,c⟩=>⟨I1.kIn,?_⟩) he hpl;exact zfL F hr hb hx I1 r rp u1 q c
def z0p{pl:Sem Bool}(F:Fm X.prog X.w X.K X.mg X.base xa C m j sp)(hr:z1o j X.A)(hx:z6g xa X xk)(ho:SE xa X xk o t)(ha:SA xa X xk (e::es) ts)
  (hst:starEach (e::es) X.env=(false,eval e X.env)::starEach es X.env:=by rfl) (hpl:(backTo pos (starEach es X.env)).any (·.1)=false:=by rfl)
  (ht:eval (.Call (.Attribute o m apos) (e::es) [] pos) X.env=(do
   let ov <-eval o X.env
   standAt apos.atName
   let(f,first) <-holding [ov] (getMethod ov m pl)
   callWith pos f first (backTo pos (starEach (e::es) X.env)) (backToKw pos (keywordEach [] X.env))):=by rfl):SE xa X xk (.Call (.Attribute o m apos) (e::es) [] pos) (zgM C m sp t ts):=by
 obtain⟨f,fd,ps,F,hb,hm,hc⟩:=F.ok;intro pins s σ H Q' I h;refine PySem.W.methodCall_KW (pl:=pl) (thn (ho pins s σ H _ I (Lt.bind (T:=λv H1=>∃hd ρ S Q E x,EnR H1 ρ σ/\Rep hd S H1/\Ur H1 x v/\(z4d S x C λfs=>fs.lookup m=none/\ts ρ S (λus S2=>sp (x::us) S2 Q E) E)/\Ct xa (xk σ) hd Ur H1 Q E Q')
  (f:=λx ρ S1 Q E=>z4d S1 x C λfs=>fs.lookup m=none/\ts ρ S1 (λus S2=>sp (x::us) S2 Q E) E) h λhd ρ S Q E x v H1 e1 r1 u1 q1 c1=>⟨hd,ρ,S,Q,E,x,e1,r1,u1,q1,c1⟩)) λu s1 ⟨y,H1,I1,rx,hd,ρ,S,Q,E,x,e1,r1,u1,q1,c1⟩=>?_) ht
 obtain⟨a,fs,rfl,hS,hf,q⟩:=q1.ex;obtain rfl:=urR u1;obtain⟨dx,vs,eH,l⟩:=r1.1 a _ hS;obtain rfl:u=Value.ref a:=rx;refine z4r I1 eH hc hm ((l.lookup m).1 hf) ?_;refine y1O (first:=[.ref a]) (h₀:=X.base) I.ok.mod.kin hm.kp (thn (ha pos pins s1 σ H1 (λvs H2=>∃us S,Rep hd S H2/\UrL H2 us vs/\sp (.ref a::us) S Q E/\Ct xa (xk σ) hd Ur H2 Q E Q') I1 ⟨hd,ρ,S,_,E,e1,r1,q,λus S2 vs H2 k2 r2 u2 q2=>⟨us,S2,r2,u2,q2,c1.mono k2⟩,c1.ex⟩)
  λys s2 ⟨vs2,H2,I2,r,us,S2,r2,u2,q2,c2⟩=>⟨I2.kIn,?_⟩) hst hpl
 exact zfL (vs:=.ref a::vs2) F hr hb hx I2 (.cons rfl r) r2 (.cons (u:=.ref a) (v:=.ref a) (by simp only[Ur]) u2) q2 c2
def zce{pl:Sem Bool}(F:Fm X.prog X.w X.K X.mg X.base xa C m j sp)(hr:z1o j X.A)(hx:z6g xa X xk)(ho:SE xa X xk o t)
  (ht:eval (.Call (.Attribute o m apos) [] [] pos) X.env=(do
   let ov <-eval o X.env
   standAt apos.atName
   let(f,first) <-holding [ov] (getMethod ov m pl)
   callWith pos f first (backTo pos (starEach [] X.env)) (backToKw pos (keywordEach [] X.env))):=by rfl):SE xa X xk (.Call (.Attribute o m apos) [] [] pos) (zgM C m sp t zds):=by
 obtain⟨f,fd,ps,F,hb,hm,hc⟩:=F.ok;intro pins s σ H Q' I h;refine PySem.W.methodCall_KW (pl:=pl) (thn (ho pins s σ H _ I (Lt.bind (T:=λv H1=>∃hd S Q E x,Rep hd S H1/\Ur H1 x v/\(z4d S x C λfs=>fs.lookup m=none/\sp [x] S Q E)/\Ct xa (xk σ) hd Ur H1 Q E Q')
  (f:=λx ρ S1 Q E=>z4d S1 x C λfs=>fs.lookup m=none/\sp [x] S1 Q E) h λhd ρ S Q E x v H1 e1 r1 u1 q1 c1=>⟨hd,S,Q,E,x,r1,u1,q1,c1⟩)) λu s1 ⟨y,H1,I1,rx,hd,S,Q,E,x,r1,u1,q1,c1⟩=>?_) ht
 obtain⟨a,fs,rfl,hS,hf,q⟩:=q1.ex;obtain rfl:=urR u1;obtain⟨dx,vs,eH,l⟩:=r1.1 a _ hS;obtain rfl:u=Value.ref a:=rx;refine z4r I1 eH hc hm ((l.lookup m).1 hf) ?_;exact PySem.W.callWith_K0 (first:=[.ref a]) I1.kIn hm.kp (zfL (vs:=[.ref a]) F hr hb hx I1 (.cons rfl .nil) r1 (.cons (u:=.ref a) (v:=.ref a) (by simp only[Ur]) .nil) q c1)
def zl1(f:Str)(C:Addr)(t:WE):WE:=λρ S Q E=>t ρ S (λx S1=>z4d S1 x C λfs=>opt (fs.lookup f) λu=>Q u S1) E
def zgJ{f:Str}(hc:Cls X.K C)(hn:z2p X.K C f)(ho:SE xa X xk o t)(hb:attributeBase o f X.env (eval o X.env)=eval o X.env:=by rfl):SE xa X xk (.Attribute o f pos) (zl1 f C t):=PE.weak (zhm ho hb) λσ H Q' h=>by refine Lt.bind (f:=λx ρ S1 Q E=>z4d S1 x C λfs=>opt (fs.lookup f) λu=>Q u S1) h λhd ρ S Q E x v H1 e1 r1 u1 q1 c1=>?_;obtain⟨a,fs,rfl,hS,q⟩:=q1.ex;obtain⟨u,hu,q⟩:=q.ex;obtain rfl:=urR u1;obtain⟨dx,vs,eH,l⟩:=r1.1 a _ hS;obtain⟨v,hv,r⟩:=(l.lookup f).2 u hu;exact⟨a,C,dx,vs,v,rfl,eH,hc,hn,hv,c1.ok.put r1 r q⟩
def rC(f:List U->Sto->Kq U->Prop):List V->Hp->VK->Prop:=λvs H Q'=>∃hd us S Q,Rep hd S H/\UrL H us vs/\Co hd Ur H Q Q'/\f us S Q
def wB(f:List U->Sto->Kq U->Prop)(t:WA):WE:=λρ S Q E=>t ρ S (λus S1=>f us S1 Q) E
def zle{f:List U->Sto->Kq U->Prop}{σ:St}{H:Hp}{Q':VK}(h:Lt xa xk Ur (wB f ts) σ H Q'):tCB (rC f) (Lt xa xk UrL ts) σ H Q' :=
 Lt.bind (f:=λus ρ S1 Q E=>f us S1 Q) h λhd ρ S Q E us vs H1 e1 r1 u1 q1 c1=>⟨hd,us,S,Q,r1,u1,c1.ok,q1⟩
def zkU{id:String}{f:List U->Sto->Kq U->Prop}(hc:z0G X (.builtin id) (rC f))(hm:X.mg x=none)(hv:bootBuiltins x=some (.builtin id))(ha:SA xa X xk (e::es) ts)(hg:Gl X x:=by rfl)(hn:x≠"__name__":=by decide)(hdb:(x==("__debug__":Str))=false:=by decide)(he:starEach (e::es) X.env=(false,eval e X.env)::starEach es X.env:=by rfl)(hpl:(backTo pos (starEach es X.env)).any (·.1)=false:=by rfl):SE xa X xk (.Call (.Name x p) (e::es) [] pos) (wB f ts):=PE.weak (z5h hc hg hm hv ha hn hdb he hpl) λσ H Q h=>zle h
def zjp{id:String}{f:List U->Sto->Kq U->Prop}(hc:z0G X (.type id) (rC f))(hm:X.mg x=none)(hv:bootBuiltins x=some (.type id))(ha:SA xa X xk (e::es) ts)(hg:Gl X x:=by rfl)(hn:x≠"__name__":=by decide)(hdb:(x==("__debug__":Str))=false:=by decide)(he:starEach (e::es) X.env=(false,eval e X.env)::starEach es X.env:=by rfl)(hpl:(backTo pos (starEach es X.env)).any (·.1)=false:=by rfl):SE xa X xk (.Call (.Name x p) (e::es) [] pos) (wB f ts):=PE.weak (z1Q hc hg hm hv ha hn hdb he hpl) λσ H Q h=>zle h
def zl8(us:List U)(S:Sto)(Q:Kq U):Prop:=match us with
 |[.tup us]=>Q (.int us.length) S
 |[.str z]=>z.length<=sizeLine/\Q (.int z.length) S
 |[.ref a]=>∃us,isL S a us/\Q (.int us.length) S
 |_=>False
def z0V:z0G X (.builtin "len") (rC zl8):=by
 rintro pins s σ H vs xs Q' I r1 ⟨hd,us,S,Q,r,u,c,h⟩;unfold zl8 at h;split at h
 .obtain⟨v,rfl,g⟩:=z4p u;obtain⟨a,ws,rfl,e,l⟩:=urT g;exact z1X pins s σ H _ _ _ I r1 ⟨a,ws,rfl,.inr (.of e),by rw[<-l.len];exact c.put r uI h⟩
 .obtain⟨v,rfl,g⟩:=z4p u;obtain rfl:=urS g;exact z6f pins s σ H _ _ _ I r1 ⟨_,rfl,h.1,c.put r uI h.2⟩
 .obtain⟨v,rfl,g⟩:=z4p u;obtain rfl:=urR g;obtain⟨us,hl,q⟩:=h;obtain⟨ws,e,l⟩:=hl.of (K:=X.K) r;exact z1X pins s σ H _ _ _ I r1 ⟨_,ws,rfl,.inl e,by rw[<-l.len];exact c.put r uI q⟩
 .exact h.elim
def zdH(us:List U)(S:Sto)(Q:Kq U):Prop:=match us with
 |[.tup us]=>Q (.tup us) S
 |[.ref a]=>∃us,isL S a us/\Q (.tup us) S
 |_=>False
def z1F:z0G X (.type "tuple") (rC zdH):=by
 rintro pins s σ H vs xs Q' I r1 ⟨hd,us,S,Q,r,u,c,h⟩;unfold zdH at h;split at h
 .obtain⟨v,rfl,g⟩:=z4p u;obtain⟨a,ws,rfl,e,l⟩:=urT g;exact z2q pins s σ H _ _ _ I r1 ⟨a,ws,rfl,.inr ⟨.of e,c.put r (by simp only[Ur];exact⟨a,ws,rfl,e,l⟩) h⟩⟩
 .obtain⟨v,rfl,g⟩:=z4p u;obtain rfl:=urR g;obtain⟨us,hl,q⟩:=h;obtain⟨ws,e,l⟩:=hl.of (K:=X.K) r;exact z2q pins s σ H _ _ _ I r1 ⟨_,ws,rfl,.inl ⟨e,λp hp=>c.tup r l q hp⟩⟩
 .exact h.elim
def tyL(u:U)(S:Sto):Prop:=match u with
 |.ref a=>∃us,isL S a us
 |_=>False
def wBM(ty:U->Sto->Prop)(f:U->List U->Sto->Kq U->Prop)(t:WE)(ts:WA):WE:=λρ S Q E=>t ρ S (λx S1=>ty x S1/\ts ρ S1 (λus S2=>f x us S2 Q) E) E
def rM(f:U->List U->Sto->Kq U->Prop):V->List V->Hp->VK->Prop:=λv vs H Q'=>∃hd x us S Q,Rep hd S H/\Ur H x v/\UrL H us vs/\Co hd Ur H Q Q'/\f x us S Q
def z8M{hd:Hd}{u:U}{S:Sto}{H:Hp}{v:V}(h:tyL u S)(r:Rep hd S H)(k:Ur H u v):tyV X.K "list" v H:=by cases u<;>simp only[tyL]at h;obtain rfl:=urR k;obtain⟨us,hl⟩:=h;obtain⟨vs,e,_⟩:=hl.of (K:=X.K) r;exact .inl ⟨rfl,vs,e⟩
def z6t{T id:String}{ty:U->Sto->Prop}{f:U->List U->Sto->Kq U->Prop}{name:Str}{cpos:Pos}(pa:PlainAttrs T)(slot:Slot T name id)(hty:typeOf (.builtin id)=pure (.type "method_descriptor"))(hm:MtR X id (rM f))(tv:∀hd u S H v,ty u S->Rep hd S H->Ur H u v->tyV X.K T v H)(ho:SE xa X xk o t)(ha:SA xa X xk (e::es) ts)(hbase:attributeBase o name X.env (eval o X.env)=eval o X.env:=by rfl)(hfew:((backTo cpos (starEach (e::es) X.env)).all (λx=>!x.1)&&(backToKw cpos (keywordEach [] X.env)).all (λx=>x.1.isSome)&&decide ((e::es).length+([]:List Keyword).length+(if([]:List Keyword).isEmpty then 0 else 1)<30))=true:=by rfl)(hline:(apos.endLine==cpos.line)=true:=by rfl)(hs:starEach (e::es) X.env=(false,eval e X.env)::starEach es X.env:=by rfl)(hplain:(backTo cpos (starEach es X.env)).any (·.1)=false:=by rfl):SE xa X xk (.Call (.Attribute o name apos) (e::es) [] cpos) (wBM ty f t ts) :=
 PE.weak (zjh pa slot hty hm ho ha hbase hfew hline hs hplain) λσ H Q' h=>Lt.bind (f:=λx ρ S1 Q E=>ty x S1/\ts ρ S1 (λus S2=>f x us S2 Q) E) h λhd ρ S Q E x v H1 e1 r1 u1 q1 c1 =>
  ⟨tv hd x S H1 v q1.1 r1 u1,hd,ρ,S,_,E,e1,r1,q1.2,λus S2 vs H2 k2 r2 u2 q2=>⟨hd,x,us,S2,Q,r2,u1.mono k2,u2,c1.ok.mono k2,q2⟩,c1.ex⟩
def zgU{T id:String}{ty:U->Sto->Prop}{f:U->List U->Sto->Kq U->Prop}{name:Str}{cpos:Pos}(pa:PlainAttrs T)(slot:Slot T name id)(hty:typeOf (.builtin id)=pure (.type "method_descriptor"))(hm:MtR X id (rM f))(tv:∀hd u S H v,ty u S->Rep hd S H->Ur H u v->tyV X.K T v H)(ho:SE xa X xk o t)(hbase:attributeBase o name X.env (eval o X.env)=eval o X.env:=by rfl)(hline:(apos.endLine==cpos.line)=true:=by rfl):SE xa X xk (.Call (.Attribute o name apos) [] [] cpos) (wBM ty f t zds) :=
 PE.weak (zh1 pa slot hty hm ho hbase hline) λσ H Q' h=>Lt.bind (f:=λx ρ S1 Q E=>ty x S1/\f x [] S1 Q) h λhd ρ S Q E x v H1 e1 r1 u1 q1 c1=>⟨tv hd x S H1 v q1.1 r1 u1,hd,x,[],S,Q,r1,u1,.nil,c1.ok,q1.2⟩
def Co.wr{hd:Hd}{H:Hp}{Q:Kq U}{Q':VK}{S:Sto}{a:Addr}{us:List U}{vs vs':List V}{u:U}{v:V}(c:Co hd Ur H Q Q')(r:Rep hd S H)(n:S a≠none)(h:H a=some (.lst vs))(l:UrL H us vs')(k:Ur H u v)(q:Q u (up S a (.lst us))):Q' v (upd H a (.lst vs')):=by have kp:Kp H (upd H a (.lst vs')):=.put h (λ_ z=>nomatch z) (λ_ _ z=>nomatch z);exact c _ _ _ _ kp (r.up (o:=.lst us) kp (.inr n) ⟨vs',z0a,l.mono kp⟩) (k.mono kp) q
def z7h(x:U)(us:List U)(S:Sto)(Q:Kq U):Prop:=match x,us with
 |.ref a,[y]=>∃us,S a=some (.lst us)/\us.length<sizeLine/\Q .non (up S a (.lst (us++[y])))
 |_,_=>False
def z2r:MtR X "list.append" (rM z7h):=by
 rintro pins s σ H v vs x xs Q' I r1 r2 ⟨hd,y,us,S,Q,r,u1,u2,c,h⟩;unfold z7h at h;split at h
 .obtain rfl:=urR u1;obtain⟨z,rfl,g⟩:=z4p u2;obtain⟨us,hS,hl,q⟩:=h;obtain⟨ws,e,l⟩:=r.1 _ _ hS;exact z5C pins s σ H _ _ _ _ _ I r1 r2 ⟨_,ws,z,rfl,rfl,e,by rw[<-l.len];exact hl,c.wr r (by rw[hS];exact λz=>nomatch z) e (l.app (.cons g .nil)) (by simp only[Ur]) q⟩
 .exact h.elim
end
open PySem L2 PySem.SeqAt
open PyProof.Rows (envOfC)
variable[WW]
def z6A(c h:Nat):Bool:=xn c==h||h==0
def xi(xa:Nat->Addr)(c:Nat):Option Value:=cond (c==7) (some (.ref (xa 15))) none
structure Xt(K:yyF)(mg:yyS)(xa:Nat->Addr)(L:List (Str × Nat)):Prop where
 mgx:∀x c,L.lookup x=some c->mg x=some (.ref (xa c))
 exc:∀x c,L.lookup x=some c->∃bmB B newId initId,zf5 K (xa c) bmB newId (xi xa c)=true/\ExcBaseFacts B newId initId bmB
 sub:∀x c y d,L.lookup x=some c->L.lookup y=some d->subIn K (xa c) (xa d)=z6A c d
 low:∀x c,L.lookup x=some c->Nat.blt c 16=true
def zhu(c:Nat):xn (xn c)=xn c:=by
 unfold xn;cases h:Nat.blt c 16 with
 |true=>show cond (Nat.blt c 16) c 7=c;rw[h];rfl
 |false=>rfl
section
variable{M:Model}{A:Around}{E:yyE}
variable{nm q:Str}{C N:Addr}{bs bm:List Value}{hdct:Bool}{sn:List Str}{sub:List Value}{ab:Bool}{col:Option Bool}{dd:Option Addr}{k0 k1 k2 k3 k5:Option Value}{newId:String}
variable{nm' q':Str}{C' N':Addr}{bs' bm':List Value}{hdct':Bool}{sn':List Str}{sub':List Value}{ab':Bool}{col':Option Bool}{dd':Option Addr}{k0' k1' k2' k3' k5':Option Value}{newId':String}
def ziI{h:Heap}{g:Array GenState}{d:Drawn}{t:Nat}{os:OsState}{e:Addr}{oe:Obj}{Q:Bool->Shared->Prop}{b:Bool}(hC:h.get? C=some (excClassObj nm q C N bs bm hdct sn sub ab col dd k0 k1 k2 k3 k5 newId))(hC':h.get? C'=some (excClassObj nm' q' C' N' bs' bm' hdct' sn' sub' ab' col' dd' k0' k1' k2' k3' k5' newId'))(he:h.get? e=some oe)(hcls:oe.cls=.ref C)(hbase:bm'.contains (.type "BaseException")=true)(hno:(Value.ref C::bm).contains (.ref C')=b)(hq:Q b ⟨h,g,d,t,os⟩):wpAny M A (excMatches (.ref e) (.ref C')) Q E ⟨h,g,d,t,os⟩:=by
 have hcB:(Value.ref C'::bm').contains (.type "BaseException")=true:=by rw[y2K,hbase,Bool.or_true]
 have f:=tc_notTuple;unfold excMatches;repeat (first|(with_reducible refine y1j he ?_;rw[hcls])|with_reducible refine y1j hC' ?_|(with_reducible refine y2w hC' ?_;rw[hcB])|(with_reducible refine y2w hC ?_;rw[hno])|wp_step)
 cases b
 .repeat wp_step
  exact hq
 .repeat wp_step
  exact hq
end
def ziy(c:Nat)(t:WE):WS:=λρ S _ E=>t ρ S (λ_ S1=>E ρ c S1) (E ρ)
section
variable{P:Program}{w:World}{K:yyF}{mg:yyS}{base:Heap}{N:List Str}{qual:Str}{scope:Scope}{f:Addr}{cd:Value}{A:Around}{outer:List Env}{s0:Shared}{H0:Hp}{E0:XK}{xa:Nat->Addr}{L:List (Str × Nat)}
def z0s{x:Str}{c:Nat}{arg:Expr}{t:WE}{np cpos pos:Pos}(T:Xt K mg xa L)(hc:L.lookup x=some c)(ha:SE xa (z2a (CXw xa P w) P w K mg base N qual scope f cd A outer s0 H0 E0) (λ_=>E0) arg t)(hg:Gl (z2a (CXw xa P w) P w K mg base N qual scope f cd A outer s0 H0 E0) x:=by rfl)(htr:backTo cpos (starEach [arg] (z2a (CXw xa P w) P w K mg base N qual scope f cd A outer s0 H0 E0).env)=[(false,eval arg (z2a (CXw xa P w) P w K mg base N qual scope f cd A outer s0 H0 E0).env)]:=by rfl)(hdb:(x==("__debug__":Str))=false:=by decide)(h7:(c==7)=false:=by rfl) : SS xa (λ_=>E0) (z2a (CXw xa P w) P w K mg base N qual scope f cd A outer s0 H0 E0) (.Raise (some (.Call (.Name x np) [arg] [] cpos)) none pos) (ziy c t):=by obtain⟨bmB,B,newId,initId,he,hB⟩:=T.exc x c hc;rw[show xi xa c=none by unfold xi;rw[h7];rfl]at he;exact PS.weak (z9W (T.low x c hc) (T.mgx x c hc) hg he hB ha htr hdb) λD σ H q=>LtS.of (R:=Ur) (f:=λ_ ρ S1 W E=>E ρ c S1) q λhd ρ S W E u v H1 e1 r1 u1 q1 c1 ea=>c1.ex ea c ρ σ S H1 (.refl _) e1 r1 q1
end
def noX:St->XK:=λ_ _ _ _=>False
def Fre(X:Cx)(pins:yyP)(p:Addr):Prop:=X.s₀.heap.get? p=none/\p≠X.env.locals/\(∀x c,X.env.cells.lookup x=some c->c≠p)/\∀q∈X.pn++pins,q.1≠p
def z7x{X:Cx}{pins:yyP}{σ:St}{H:Hp}{s:Shared}{p:Addr}(I:Inv X pins σ H s)(hx:X.ex=[])(nw:s.heap.get? p=none):Fre X pins p:=by
 refine⟨?_,λz=>?_,λx c e z=>?_,λq hq z=>?_⟩
 .cases q:X.s₀.heap.get? p with
  |none=>rfl
  |some o =>
   obtain⟨o',e⟩:=I.base.there p o q (by rw[hx];exact y2s);rw[nw]at e;cases e
 .obtain⟨_,⟨o,_,_,ho,_⟩,_⟩:=I.loc;rw[<-z,nw]at ho;cases ho
 .obtain⟨v,o,ho,_⟩:=I.cell x c e;rw[z,nw]at ho;cases ho
 .have:=(I.pin q hq).1;rw[z,nw]at this;cases this
def zdZ{X:Cx}{pins:yyP}{σ:St}{H H':Hp}{s:Shared}{p:Addr}{h':Heap}{t':Nat}(I:Inv X pins σ H s)(f:Fre X pins p)(hm:H p=none\/∃φ,H p=some (.ext φ))(hH:∀b,b≠p->H' b=H b)(k:∀b u,b≠p->s.heap.get? b=some u->h'.get? b=some u)(new:∀o,H' p=some o->z0K X.prog X.w H' h' p o):Inv X pins σ H' { s with heap:=h',toks:=t' }:=by
 obtain⟨f0,f1,f2,f3⟩:=f;have ne:∀{b u},(∀φ,u≠HO.ext φ)->H b=some u->b≠p/\H' b=some u:=λ{b u} n e=>by
  have z:b≠p:=λz=>by
   rw[z]at e;rcases hm with q|⟨φ,q⟩
   .rw[q]at e;cases e
   .rw[q]at e;exact n φ (y06 e).symm
  exact⟨z,(hH b z).trans e⟩
 have old:∀{b o},X.s₀.heap.get? b=some o->b≠p:=λe z=>by rw[z,f0]at e;cases e
 have cl:∀{c v},c≠p->s.heap.IsCell c v->h'.IsCell c v:=λz ⟨o,ho,hd⟩=>⟨o,k _ _ z ho,hd⟩;refine⟨I.ok,I.os,I.bare,⟨λb o e n hb hx=>k b o (old e) (I.base.keep b o e n hb hx),λb o e n hb hx=>?_,λb u e n hx=>(hH b (old e)).trans (I.base.free b u e n hx),λb o e hx=>?_,λb xs e=>(ne (λ_ z=>by cases z) (I.base.tups b xs e)).2,λb u x e=>(ne (λ_ z=>by cases z) (I.base.frzs b u x e)).2,λb ps e=>?_⟩,?_,λx c e=>?_,(hH _ (y0N f1)).trans I.free,λx c e=>(hH c (f2 x c e)).trans (I.freeC x c e),λq hq=>?_,λb u e=>?_,I.len⟩
 .obtain⟨sl,z⟩:=I.base.slot b o e n hb hx;exact⟨sl,k _ _ (old e) z⟩
 .obtain⟨o',z⟩:=I.base.there b o e hx;exact⟨o',k _ _ (old e) z⟩
 .obtain⟨more,e⟩:=I.base.tbls b ps e;exact⟨more,(ne (λ_ z=>by cases z) e).2⟩
 .obtain⟨m,⟨o,es,ep,ho,r⟩,hl⟩:=I.loc;refine⟨m,⟨o,es,ep,k _ _ (y0N f1) ho,r⟩,λi x v e1 e2 e3=>?_⟩;obtain⟨u,r,q⟩:=hl i x v e1 e2 e3;refine⟨u,r,?_⟩;rcases q with q|⟨kk,c,e,z⟩
  .exact .inl q
  .exact .inr ⟨kk,c,e,cl (f2 x c e) z⟩
 .obtain⟨v,z⟩:=I.cell x c e;exact⟨v,cl (f2 x c e) z⟩
 .obtain⟨a,b,c⟩:=I.pin q hq;exact⟨k _ _ (f3 q hq) a,(hH _ (f3 q hq)).trans b,c⟩
 .by_cases hb:b=p
  .subst hb;exact new u e
  .have e':H b=some u:=(hH b hb).symm.trans e;refine(I.hok b u e').stay (λc v hc q=>k c v ?_ q) (λc q=>(ne (λ_ z=>by cases z) q).2) λc xs q=>(ne (λ_ z=>by cases z) q).2;rcases hc with z|z
   .rw[z];exact hb
   .exact(ne (λ_ z=>by cases z) z).1
def z35{X:Cx}{pins:yyP}{σ:St}{H:Hp}{s:Shared}{p:Addr}{o:HO}(I:Inv X pins σ H s)(f:Fre X pins p)(hn:H p=none)(new:z0K X.prog X.w (upd H p o) s.heap p o):Inv X pins σ (upd H p o) s :=
 zdZ (t':=s.toks) I f (.inl hn) (λb hb=>z0c hb) (λ_ _ _ e=>e) λo' e=>by rw[z0a]at e;cases e;exact new
def zkz(X:Cx)(pins:yyP)(D:z9k)(nm:Option Str)(hpos:Pos):Result->Shared->Prop:=λr s₂=>match r with
 |.ok f=>(match nm with
  |none=>SP X pins D f s₂
  |some n=>wpAny (model X.prog X.w) X.A (do bindName X.env n .none;unbindBehindTheSuite X.env n hpos) (λ_ s₃=>SP X pins D f s₃) X.xe s₂)
 |.error x=>cameBackBy (model X.prog X.w) X.A X.env X.xe x s₂
def z6Q(xa:Nat->Addr)(xk:St->XK)(X:Cx)(nm:Option Str)(suite:List Stmt)(hpos:Pos)(t:Nat->WS):Prop :=
 X.Ok->∀(pins:yyP)(σ:St)(H1 H:Hp)(h1:Heap)(s:Shared)(D:z9k)(ea c:Nat)(hd:Hd)(ρ:En)(S:Sto)(W:Wd)(E:Xs),Inv (X.sup ea) pins σ H s->(∀h3,Un (frs (X.env::X.outer)) [] H1 H h1 h3->HOk X.prog X.w H h3->Inv (X.sup ea) pins σ H { s with heap:=h3 })->Un (frs (X.env::X.outer)) [] H1 H h1 s.heap->Fl xa h1 H s.heap ea c->Fre X pins ea ->
 EnR H ρ σ->Rep hd S H->t c ρ S W E->Cs xa xk hd H W E D->codeAny (model X.prog X.w) (X.A.mark (some (.ref ea))) (.handlers (.ref ea) [.ExceptHandler none nm suite hpos] X.env) (zkz X pins D nm hpos) s
def zlz(L:List (Str × Nat))(d:Nat)(tb:WS)(t:Nat->WS):WS:=λρ S W E=>tb ρ S W λρ' c S'=>(∃y,L.lookup y=some (xn c))/\z6A c d=true/\t c ρ' S' W E
def zfK{X:Cx}{pins:yyP}{σ:St}{H:Hp}{s:Shared}{ea:Addr}(ok:X.Ok)(K4:Inv (X.sup ea) pins σ H s):Inv X pins σ H s:=⟨ok,K4.os,K4.bare,K4.base,K4.loc,K4.cell,K4.free,K4.freeC,K4.pin,K4.hok,K4.len⟩
def za7{X:Cx}{xa:Nat->Addr}{L:List (Str × Nat)}{xk:St->XK}{body suite:List Stmt}{nm:Option Str}{x:Str}{d:Nat}{np hpos pos:Pos}{tb:WS}{t:Nat->WS}(T:Xt X.K X.mg xa L)(hfr:X.env.frame=some X.env.locals)(hstk:X.stack=X.env::X.outer)(hex:X.ex=[])(hld:L.lookup x=some d)(hg:Gl X x)(hb:∀pn E1 xk',z6g xa (X.tried pn E1) xk'->SSs xa xk' (X.tried pn E1) body tb)(hh:z6Q xa xk X nm suite hpos t)(hdb:(x==("__debug__":Str))=false:=by decide):SS xa xk X (.Try body [.ExceptHandler (some (.Name x np)) nm suite hpos] [] [] pos) (zlz L d tb t):=by
 intro pins s σ H D I ⟨hd,ρ0,S0,W,E0,en0,r0,h0,cs0⟩;refine wpAny_Try_except ?_;have pass:z6g xa (X.tried (X.pn++pins) λe s₁=>wpAny (model X.prog X.w) X.A (noteFrame e X.env) (λ_ s₂=>wpAny (model X.prog X.w) X.A (setFlight e none) (λ_ s₃=>wpAny (model X.prog X.w) X.A (handleBy e X.env [.ExceptHandler (some (.Name x np)) nm suite hpos]) (SP X pins D) X.xe s₃) X.xe s₂) X.xe s₁)
   (λσ' _ C' H'=>∃c y ρ S,C'=some c/\L.lookup y=some (xn c)/\EnR H' ρ σ'/\Rep hd S H'/\(z6A c d=true/\t c ρ S W E0)/\Cs xa xk hd H' W E0 D):=by
  intro σ' pins' H1 s1 e s' I1 hx';obtain⟨ea,Ce,H',rfl,os,bare,un,hok,fly,c,y,ρ,S,hC,hy,en,rp,⟨hs,hw⟩,cs⟩:=hx';cases hC;have J:=I1.call' (ch:=[]) os un hok bare (λb z=>absurd z (by simp));have FF:s'.heap.FunFrames X.base (X.env::X.outer):=by have:=J.stack;rw[show(X.tried (X.pn++pins) _).stack=X.stack from rfl,hstk]at this;exact this
  have un':Un (frs (X.env::X.outer)) [] H1 H' s1.heap s'.heap:=by rw[<-hstk];exact un
  have hfree:∀b∈frs (X.env::X.outer),H' b=none/\(b∈frs (X.env::X.outer)\/s1.heap.get? b=none):=λb hb=>⟨J.stkFree b (by show b∈frs X.stack;rw[hstk];exact hb),.inl hb⟩;refine zi5 (P:=X.prog) (w:=X.w) (fr:=frs (X.env::X.outer)) (H1:=H1) (H':=H') (h1:=s1.heap) (base:=X.base) (outer:=X.outer) (L:=X.env.locals) (by rw[I.ok.frames,hstk]) hfr FF un' hok hfree (λb hb=>hb) fly λh2 u2 k2 f2=>?_;have mk:∀h3,Un (frs (X.env::X.outer)) [] H1 H' s1.heap h3->HOk X.prog X.w H' h3->Inv (X.sup ea) pins σ' H' { s' with heap:=h3 }:=λh3 u3 k3=>by have J3:=I1.call' (s':={ s' with heap:=h3 }) (ch:=[]) os (by show Un (frs X.stack) [] H1 H' s1.heap h3;rw[hstk];exact u3) k3 bare (λb z=>absurd z (by simp));exact⟨I.ok.sup ea,J3.os,J3.bare,J3.base,J3.loc,J3.cell,J3.free,J3.freeC,λp hp=>J3.pin p (y1f _ hp),J3.hok,J3.len⟩
  have J2:=mk h2 u2 k2;obtain⟨bmB,B,newId,initId,he,hB⟩:=T.exc x d hld;obtain⟨bmB',B',newId',initId',he',hB'⟩:=T.exc y _ hy;obtain⟨_,_,_,_,_,_,_,_,_,_,_,_,_,_,_,hC,_,_,ht,_⟩:=z9M J2.kIn he;obtain⟨_,_,_,_,_,_,_,_,_,_,_,_,_,_,_,hC',_,_,ht',hno'⟩:=z9M J2.kIn he';obtain⟨⟨_,_,b0,oe,vs,Tt,oT,ts,g1,⟨g2,_⟩,_⟩,_⟩:=id f2;refine wpAny_handleBy_cons (codeAny_handlers_test (z23 J2 hg (T.mgx x d hld) ?_ hdb)) (by intro z;cases z);refine ziI hC' hC g1 g2 (z5j ht hB.hasBase) (hno' (xa d)) ?_;rw[T.sub y (xn Ce) x d hy hld,show z6A (xn Ce) d=z6A Ce d by unfold z6A;rw[zhu],hs];have fre:=z7x I1 hex f2.1.1;exact hh I.ok pins σ' H1 H' s1.heap { s' with heap:=h2 } D ea Ce hd ρ S W E0 J2 mk u2 f2 ⟨fre.1,fre.2.1,fre.2.2.1,λq hq=>fre.2.2.2 q (y1f _ hq)⟩ en rp hw cs
 have I0:∀E,Inv (X.tried (X.pn++pins) E) [] σ H s:=λE=>⟨I.ok.tried _ _,I.os,I.bare,I.base,I.loc,I.cell,I.free,I.freeC,λp hp=>I.pin p (by rw[y0n]at hp;exact hp),I.hok,I.len⟩;refine y0B (hb (X.pn++pins) _ _ pass [] s σ H D (I0 _) ⟨hd,ρ0,S0,W,_,en0,r0,h0,cs0.nx,cs0.bk,cs0.ct,cs0.rt,λea c ρ σ' S H' k e r ⟨⟨y,hy⟩,hw⟩=>⟨c,y,ρ,S,rfl,hy,e,r,hw,cs0.mono k⟩⟩) (λf s1 sp=>?_) λe s1 z=>z;have back:∀{E σ4 H4 s4},Inv (X.tried (X.pn++pins) E) [] σ4 H4 s4->Inv X pins σ4 H4 s4:=λK4=>⟨I.ok,K4.os,K4.bare,K4.base,K4.loc,K4.cell,K4.free,K4.freeC,λp hp=>K4.pin p (by rw[y0n];exact hp),K4.hok,K4.len⟩;cases f with
 |next=>obtain⟨σ4,H4,K4,q⟩:=sp;exact y2D ⟨σ4,H4,back K4,q⟩
 |brk=>obtain⟨σ4,H4,K4,q⟩:=sp;exact⟨σ4,H4,back K4,q⟩
 |cont=>obtain⟨σ4,H4,K4,q⟩:=sp;exact⟨σ4,H4,back K4,q⟩
 |ret u=>obtain⟨v,σ4,H4,K4,r,q⟩:=sp;exact⟨v,σ4,H4,back K4,r,q⟩
def ust:En->Nat->En
 |[],_=>[]
 |_::r,0=>none::r
 |x::r,n+1=>x::ust r n
theorem zby:∀(ρ:En)(i:Nat),(ust ρ i).length=ρ.length
 |[],_=>rfl
 |_::r,0=>rfl
 |_::r,n+1=>by rw[ust,y0c,y0c,zby r n]
theorem zbe:∀(ρ:En)(i j:Nat)(u:U),lk (ust ρ i) j=some u->j≠i/\lk ρ j=some u
 |[],_,_,_,h=>by cases h
 |_::r,0,0,_,h=>by cases h
 |_::r,0,j+1,_,h=>⟨y37 j,h⟩
 |x::r,n+1,0,_,h=>⟨(y37 n).symm,h⟩
 |x::r,n+1,j+1,u,h=>⟨λz=>(zbe r n j u h).1 (Nat.succ.inj z),(zbe r n j u h).2⟩
def zgZ{H:Hp}{ρ:En}{σ:St}(h:EnR H ρ σ)(i:Nat):EnR H (ust ρ i) (σ.set i none):=by refine⟨by rw[zby,List.length_set];exact h.1,λj u e=>?_⟩;obtain⟨a,b⟩:=zbe ρ i j u e;obtain⟨v,e2,r⟩:=h.2 j u b;exact⟨v,by rw[y1R (y0N a)];exact e2,r⟩
def z7I(xa:Nat->Addr)(c:Nat)(ea:Addr):HO:=.ext λh=>∃oe vs,h.get? ea=some oe/\oe.cls=.ref (xa (xn c))/\oe.data=.fields vs/\oe.dict=xd c
def wAs(xa:Nat->Addr)(i:Nat)(t:WS):Nat->WS:=λc ρ S W _=>∀ea,S ea=none->t (st ρ i (.ref ea)) (up S ea (.thg (z7I xa c ea))) { nx:=λρ' S'=>W.nx (ust ρ' i) S',rt:=λ_ _=>False } λ_ _ _=>False
def zge{X:Cx}{pins:yyP}{σ:St}{H:Hp}{s:Shared}{i:Nat}{x:Str}{v:Option Value}{m:yyS}{h':Heap}{t:Nat}(I:Inv X pins σ H s)(hN:X.N.Nodup)(hi:X.N[i]?=some x)(hk:X.env.scope.names.lookup x=some .local)(hl:∀(j:Nat)(y:Str)(v:V),X.N[j]?=some y->σ[j]?=some (some v)->Vis X.env.scope y->∃u,z0y v u/\zlc X.env s.heap m y u)(hn:h'.Ns X.env.locals (λy=>if y=x then v else m y))(hs:Heap.SameBut X.env.locals s.heap h'):Inv X pins (σ.set i none) H { s with heap:=h',toks:=t }:=by
 have cne:=I.cne;have old:∀{b o},X.s₀.heap.get? b=some o->b≠X.env.locals:=λe=>y0i (y0h (y05 e) I.ok.above);refine⟨I.ok,I.os,I.bare,⟨λb o e n hb hx=>(hs.2 b (old e)).trans (I.base.keep b o e n hb hx),λb o e n hb hx=>?_,I.base.free,λb o e hx=>?_,I.base.tups,I.base.frzs,I.base.tbls⟩,⟨_,hn,λj y v' e1 e2 e3=>?_⟩,λy c e=>?_,I.free,I.freeC,λp hp=>?_,λb ob e=>?_,by rw[List.length_set];exact I.len⟩
 .obtain⟨sl,e1⟩:=I.base.slot b o e n hb hx;exact⟨sl,(hs.2 b (old e)).trans e1⟩
 .obtain⟨o',e1⟩:=I.base.there b o e hx;exact⟨o',(hs.2 b (old e)).trans e1⟩
 .by_cases hj:j=i
  .subst hj;rw[List.getElem?_set]at e2;simp at e2
  .rw[y1R (y0N hj)]at e2;obtain⟨u',r',q⟩:=hl j y v' e1 e2 e3;refine⟨u',r',?_⟩;rcases q with⟨k,e⟩|⟨k,c,e,z⟩
   .by_cases hy:y=x
    .exact absurd (hy▸e1) λz=>hj (z3b hN z hi)
    .exact .inl ⟨k,by simp[hy,e]⟩
   .exact .inr ⟨k,c,e,z.sameBut hs (cne y c e)⟩
 .obtain⟨w',z⟩:=I.cell y c e;exact⟨w',z.sameBut hs (cne y c e)⟩
 .obtain⟨e,n,ne,nf,d⟩:=I.pin p hp;exact⟨(hs.2 p.1 ne).trans e,n,ne,nf,d⟩
 .refine(I.hok b ob e).stay (λc w' hc q=>(hs.2 c ?_).trans q) (λ_ q=>q) λ_ _ q=>q;rintro rfl;rcases hc with rfl|hc
  .rw[I.free]at e;cases e
  .rw[I.free]at hc;cases hc
def z7T{X:Cx}{xa:Nat->Addr}{xk:St->XK}{b₀:Stmt}{suite:List Stmt}{n:Str}{hpos:Pos}{t:WS}(i:Nat)(hstk:X.stack=X.env::X.outer)(hN:X.N.Nodup)(hts:∀ea,SSs xa noX (X.sup ea) (b₀::suite) t)(hi:X.N[i]?=some n:=by rfl)(hl:X.env.scope.names.lookup n=some .local:=by rfl) : z6Q xa xk X (some n) (b₀::suite) hpos (wAs xa i t):=by
 intro ok pins σ H1 H h1 s D ea c hd ρ S W E J mk u f fr en rp hw cs;refine codeAny_handlers_suite_as ?_;have hfree:∀b∈frs (X.env::X.outer),H b=none/\(b∈frs (X.env::X.outer)\/h1.get? b=none):=λb hb=>⟨J.stkFree b (by show b∈frs X.stack;rw[hstk];exact hb),.inl hb⟩;refine zb5 (P:=X.prog) (w:=X.w) (fr:=frs (X.env::X.outer)) (H1:=H1) (H':=H) (h1:=h1) (base:=X.base) (env:=X.env) (outer:=X.outer) (by have:=J.stack;rw[show(X.sup ea).stack=X.stack from rfl,hstk]at this;exact this) u J.hok hfree (λb hb=>hb) f λh3 u3 k3 f3=>?_;obtain⟨⟨_,hn,_,oe,vs,_,_,_,g1,⟨g2,_⟩,g3,_⟩,oe',gx,gd,_⟩:=id f3;rw[g1]at gx;cases gx;have J4:=z35 (mk h3 u3 k3) fr hn (o:=z7I xa c ea) ⟨⟨oe,vs,g1,g2,g3,gd⟩,⟨oe,g1⟩,λa b ⟨oe,vs,z,r⟩ k=>⟨oe,vs,k _ z,r⟩⟩;have kp:Kp H (upd H ea (z7I xa c ea)):=Kp.new hn;have hS:=rp.none hn;refine z39 (X:=X.sup ea) J4 hN hi (.inl hl) (show z0y (.ref ea) (.ref ea)from rfl) (λs5 J5=>?_) (.inr hl);refine y0B (hts ea pins s5 _ _ { nx:=λσ' H'=>D.nx (σ'.set i none) H',rt:=λ_ _=>False } J5 ⟨hd,_,_,_,_,(en.mono kp).set i (by simp only[Ur]),rp.up kp (.inl hn) (o:=.thg (z7I xa c ea)) ⟨z0a,rfl⟩,hw ea hS,λρ' S' σ' H' k e r q=>cs.nx _ _ _ _ (kp.trans k) (zgZ e i) r q,λ_ _ _ _ _ _ _ z=>z.elim,λ_ _ _ _ _ _ _ z=>z.elim,λ_ _ _ _ _ _ _ z=>z.elim,λ_ _ _ _ _ _ _ _ _ z=>z.elim⟩) (λf s6 sp=>?_) λ_ _ z=>False.elim z;cases f with
 |next =>
  obtain⟨σ6,H6,K6,q⟩:=sp;obtain⟨m,hm,hlk⟩:=K6.loc;exact wpAny_nameGoes_keeps hl hm (by rw[J.ok.kind];rfl) λh7 v hn7 hs7=>⟨_,H6,zfK ok (zge K6 hN hi hl hlk hn7 hs7),q⟩
 |brk=>obtain⟨_,_,_,q⟩:=sp;exact q.elim
 |cont=>obtain⟨_,_,_,q⟩:=sp;exact q.elim
 |ret u=>obtain⟨_,_,_,_,_,q⟩:=sp;exact q.elim
open PySem L2 PySem.SeqAt
variable[WW]
def noQ:Xq:=λ_ _=>False
abbrev WR:=En->Sto->List U->(En->List U->Sto->Prop)->Prop
def em(te:WE):WR:=λρ S acc k=>te ρ S (λu S1=>acc.length<sizeLine/\k ρ (acc++[u]) S1) noQ
def wTs:List WT->En->Sto->(Bool->Sto->Prop)->Prop
 |[],_,S,Q=>Q true S
 |t::r,ρ,S,Q=>t ρ S (λb S1=>cond b (wTs r ρ S1 Q) (Q false S1)) noQ
def cmL(ck:Sto->Prop)(g:WX U)(ts:List WT)(rest:WR):List U->WR
 |[]=>λρ S acc k=>ck S/\k ρ acc S
 |x::L=>λρ S acc k=>ck S/\g x ρ S λρ1 S1=>wTs ts ρ1 S1 λb S2=>cond b (rest ρ1 S2 acc λρ2 acc2 S3=>cmL ck g ts rest L ρ2 S3 acc2 k) (cmL ck g ts rest L ρ1 S2 acc k)
def wCl(ti:WI)(g:WX U)(ts:List WT)(rest:WR):WR:=λρ S acc k=>ti ρ S (λL ck S1=>cmL ck g ts rest L ρ S1 acc k) noQ
def cst(ix:List (Option Nat))(ρ:En):En:=ix.map λo=>o.bind (lk ρ)
def zi3(ix:List (Option Nat))(ti:WI)(g:WX U)(ts:List WT)(rest:WR):WE:=λρ S Q E=>ti ρ S (λL ck S1=>cmL ck g ts rest L (cst ix ρ) S1 [] λ_ acc S2=>nw (.lst acc) S2 Q) E
section
variable{prog:Program}{w:World}{A:Around}{R:Result->Shared->Prop}{s:Shared}
def tsC(fs:List Expr)(env:Env):Sem Bool:=forIn fs true λc r=>if r=true then do let ok <-isTrue c env (eval c env);pure (ForInStep.yield ok)else pure (ForInStep.yield r)
def zgq(M:Model)(A:Around)(e elt:Expr)(g:Option Comprehension)(d:Nat)(acc:Value)(env:Env)(Q:Shared->Prop)(s:Shared):Prop:=match g with
 |some g'=>wpAny M A (eval g'.iter env) (λx s5=>wpAny M A (pyIter x) (λit2 s6=>∀R':Result->Shared->Prop,(∀s7,Q s7->R' (.ok .next) s7)->codeAny M A (.compStart e d it2 acc env) R' s6) noE s5) noE s
 |none=>wpAny M A (eval elt env) (λx s5=>wpAny M A (call (.builtin "list.append") [acc,x]) (λ_ s6=>Q s6) noE s5) noE s
def z6Y{elt t i:Expr}{fs:List Expr}{cs:List Comprehension}{scope:Scope}{pos:Pos}{d:Nat}{it acc:Value}{env:Env}(h:cs[d]?=some ⟨t,i,fs,0⟩)(hs:∀g',cs[d+1]?=some g'->g'.is_async=0/\∀x,foldedSetIterable g'.iter env x=pure x)(I:Nat->Shared->Prop)
  (turn:∀n s,I n s->wpAny (model prog w) A (pyNext it) (λr s1=>match r with
   |none=>R (.ok .next) s1
   |some v=>wpAny (model prog w) A (letOwnedTupleGo t it v) (λ_ s2=>wpAny (model prog w) A (assign t env v) (λ_ s3=>wpAny (model prog w) A (tsC fs env) (λok s4 =>
     cond ok (zgq (model prog w) A (.ListComp elt cs scope pos) elt cs[d+1]? (d+1) acc env (λs5=>∃m,m<n/\I m s5) s4) (∃m,m<n/\I m s4)) noE s3) noE s2) noE s1) noE s)
  (n:Nat) (hI:I n s):codeAny (model prog w) A (.compLoop (.ListComp elt cs scope pos) d it acc env) R s:=by
 have no:∀(P:yyE)(a:Value)(b:Shared),noE a b->P a b:=λ_ _ _ z=>False.elim z;refine codeAny_loop rfl I (λn s hI=>?_) n hI;show wpAny _ _ ((compTurn (.ListComp elt cs scope pos) d it acc env).onRaise
  (λx=>do noteFrame x env;theTreesLotGoes x)) _ _ s
 refine wpAny_noted ?_;unfold compTurn;simp only[h];refine y00 (y1d (y00 (y0B (turn n s hI) (λr s1 h1=>?_) (no _))));cases r with
 |none=>exact y03 h1
 |some v =>
  refine y00 (y0B h1 (λ_ s2 h2=>?_) (no _));refine y00 (y0B h2 (λ_ s3 h3=>y00 (y0B h3 (λok s4 h4=>?_) (no _))) (no _));cases ok with
  |false=>exact y03 ⟨rfl,h4⟩
  |true =>
   have h4:zgq (model prog w) A (.ListComp elt cs scope pos) elt cs[d+1]? (d+1) acc env (λs5=>∃m,m<n/\I m s5) s4:=h4;rw[if_pos rfl];cases hn:cs[d+1]? with
   |none =>
    simp only[hn,zgq]at h4⊢;exact y00 (y00 (y0B h4 (λx s5 h5=>y00 (y0B h5 (λ_ s6 h6=>y03 (y03 ⟨rfl,h6⟩)) (no _))) (no _)))
   |some g' =>
    obtain⟨ha,hf⟩:=hs g' hn;simp only[hn,zgq,ha]at h4⊢;refine y00 (y0B h4 (λx s5 h5=>y00 (y1d ?_)) (no _));rw[if_neg (by decide)];simp only[hf];refine y00 (y03 (y00 (y0C (y0B h5 (λit2 s6 h6=>?_) (no _)))));exact y00 (wpAny_runOwn (h6 _ λs7 h7=>y03 ⟨rfl,h7⟩))
def z3d{elt:Expr}{cs:List Comprehension}{c:Comprehension}{scope:Scope}{pos:Pos}{d:Nat}{it acc:Value}{env:Env}(hc:cs[d]?=some c)(ha:c.is_async=0)(h0:codeAny (model prog w) A (.compLoop (.ListComp elt cs scope pos) d it acc env) R s)(h:wpAny (model prog w) A (pyIter it) (λit' s'=>codeAny (model prog w) A (.compLoop (.ListComp elt cs scope pos) d it' acc env) R s') (notedBy (model prog w) A env λx s'=>R (.error x) s') s) : codeAny (model prog w) A (.compStart (.ListComp elt cs scope pos) d it acc env) R s:=by
 refine codeAny_of_tree ?_;show wpAny _ _ ((compStart (.ListComp elt cs scope pos) d it acc env).onRaise (λx=>do noteFrame x env;standAt theWindowsPlace)) _ _ s
 refine wpAny_notedAt ?_;unfold compStart;have e1:(clausesOf (.ListComp elt cs scope pos))[d]?=some c:=hc;simp only[e1,ha,Option.elim];rw[if_neg (by decide)];refine y00 (wpAny_askSetting (wpAny_ite ?_));split
 .first
   |exact y00 (y03 (y03 (y3s rfl h0)))
   |exact y03 (y3s rfl h0)
 .refine y00 (wpAny_rule ?_);refine y00 (y1d (y00 (y0B h (λit' s' h'=>y03 (y3s rfl h')) λ_ _ z=>z)))
end
inductive TsR(xa:Nat->Addr)(Y:Cx):List Expr->List WT->Prop
 |nil:TsR xa Y [] []
 |cons {f:Expr} {fs:List Expr} {t:WT} {ts:List WT}:ST xa Y noX f t->TsR xa Y fs ts->TsR xa Y (f::fs) (t::ts)
def Okl(Y:Cx)(pins:yyP)(l:Addr)(hd:Hd)(k:En->List U->Sto->Prop)(H0:Hp)(s:Shared):Prop:=∃σ H ρ S acc vs,Inv Y pins σ H s/\Kp H0 H/\EnR H ρ σ/\Rep ((l,.lst vs)::hd) S H/\UrL H acc vs/\k ρ acc S
def z67(xa:Nat->Addr)(Y:Cx)(e elt:Expr)(g:Option Comprehension)(d:Nat)(rest:WR):Prop:=∀(pins:yyP)(s:Shared)(σ:St)(H:Hp)(hd:Hd)(ρ:En)(S:Sto)(acc:List U)(vs:List V)(l:Addr)(k:En->List U->Sto->Prop),Inv Y pins σ H s->EnR H ρ σ->Rep ((l,.lst vs)::hd) S H->(∀p∈hd,p.1≠l)->UrL H acc vs->rest ρ S acc k ->
 zgq (model Y.prog Y.w) Y.A e elt g d (.ref l) Y.env (Okl Y pins l hd k H) s
def ziS{xa:Nat->Addr}{σ:St}{hd:Hd}{H:Hp}:Cx' xa (noX σ) hd H noQ:=λ_ _ _ _ _ _ z=>z
def Rep.app{hd:Hd}{l:Addr}{vs vs':List V}{S:Sto}{H:Hp}(r:Rep ((l,.lst vs)::hd) S H)(hn:∀p∈hd,p.1≠l):Kp H (upd H l (.lst vs'))/\Rep ((l,.lst vs')::hd) S (upd H l (.lst vs')):=by
 obtain⟨h1,h2,_⟩:=r.2.1 _ y0p;have k:Kp H (upd H l (.lst vs')):=.put h2 (λ_ z=>by cases z) λ_ _ z=>by cases z
 refine⟨k,λa o e=>(r.1 a o e).mono k (z0c ?_),λp hp=>?_,z1z r.2.2 (λb ps e=>?_) λb oc vs d e=>?_⟩
 .rintro rfl;rw[h1]at e;cases e
 .rcases y0k.mp hp with rfl|hp
  .exact⟨h1,z0a,rfl⟩
  .obtain⟨g1,g2,g3⟩:=r.2.1 p (y0d _ hp);exact⟨g1,by rw[z0c (hn p hp)];exact g2,g3⟩
 .rw[z0c (λz=>by rw[z,h2]at e;cases e)];exact e
 .rw[z0c (λz=>by rw[z,h2]at e;cases e)];exact e
section
variable{xa:Nat->Addr}{Y:Cx}{elt:Expr}{cs:List Comprehension}{scope:Scope}{pos:Pos}{d:Nat}{rest:WR}{ts:List WT}{fs:List Expr}{t i:Expr}{g:WX U}
def zjU(fs:List Expr)(env:Env):forIn (m:=Sem) fs false (λc r=>if r=true then do let ok <-isTrue c env (eval c env);pure (ForInStep.yield ok)else pure (ForInStep.yield r))=pure false:=by
 induction fs with
 |nil=>rfl
 |cons f fs ih=>rw[y1U,if_neg y0s];exact ih
def zks(hx:Y.xe=noE)(h:TsR xa Y fs ts):∀{pins:yyP}{s:Shared}{σ:St}{H:Hp}{hd:Hd}{ρ:En}{S:Sto}{Q:Bool->Sto->Prop},Inv Y pins σ H s->EnR H ρ σ->Rep hd S H->wTs ts ρ S Q -> wpAny (model Y.prog Y.w) Y.A (tsC fs Y.env) (λb s'=>∃H' S',Inv Y pins σ H' s'/\Kp H H'/\Rep hd S' H'/\Q b S') noE s:=by
 induction h with
 |nil=>intro pins s σ H hd ρ S Q I e r q;exact y03 ⟨H,S,I,.refl H,r,q⟩
 |@cons f fs t ts h1 _ ih =>
  intro pins s σ H hd ρ S Q I e r q;unfold tsC;rw[y1U,if_pos rfl];have:=h1 pins s σ H (λb H1=>Kp H H1/\∃S1,Rep hd S1 H1/\cond b (wTs ts ρ S1 Q) (Q false S1)) I ⟨hd,ρ,S,_,noQ,e,r,q,λb S1 b' H1 k1 r1 e1 q1=>by subst e1;exact⟨k1,S1,r1,q1⟩,ziS⟩;rw[hx]at this;refine y00 (y00 (thn this λb s1 ⟨H1,I1,k1,S1,r1,q1⟩=>y03 ?_));cases b with
  |true=>exact thn (ih I1 (e.mono k1) r1 q1) λb s2 ⟨H2,S2,I2,k2,r2,q2⟩=>⟨H2,S2,I2,k1.trans k2,r2,q2⟩
  |false =>
   show wpAny _ _ (forIn fs false _) _ _ _;rw[zjU];exact y03 ⟨H1,S1,I1,k1,r1,q1⟩
def z1x{e:Expr}{te:WE}(hx:Y.xe=noE)(he:SE xa Y noX elt te):z67 xa Y e elt none d (em te):=by intro pins s σ H hd ρ S acc vs l k I en r hn u q;have:=he pins s σ H (λv H1=>Kp H H1/\∃x S1,Rep ((l,.lst vs)::hd) S1 H1/\Ur H1 x v/\acc.length<sizeLine/\k ρ (acc++[x]) S1) I ⟨_,ρ,S,_,noQ,en,r,q,λx S1 v H1 k1 r1 u1 q1=>⟨k1,x,S1,r1,u1,q1⟩,ziS⟩;rw[hx]at this;refine thn this λy s9 hz8=>?_;obtain⟨v,H9,J9,r9,k9,x,S1,rp,u9,hz,q9⟩:=hz8;have hl9:=(rp.2.1 _ y0p).2.1;have hmt:=z5C (X:=Y) _ s9 σ H9 (.ref l) [v] (.ref l) [y] (λz Hz=>z=.non/\Hz=upd H9 l (.lst (vs++[v]))) J9 rfl (.cons r9 .nil) ⟨_,vs,v,rfl,rfl,hl9,by rw[<-u.len];exact hz,rfl,rfl⟩;rw[hx]at hmt;refine thn hmt λ_ s10 hz8=>?_;obtain⟨_,H10,J10,_,_,e10⟩:=hz8;subst e10;obtain⟨k10,r10⟩:=rp.app (vs':=vs++[v]) hn;exact⟨σ,_,ρ,S1,acc++[x],vs++[v],J10,k9.trans k10,(en.mono k9).mono k10,r10,(((u.mono k9).app (.cons u9 .nil))).mono k10,q9⟩
def z9T{pins:yyP}{s:Shared}{σ:St}{H:Hp}{hd:Hd}{ρ:En}{S:Sto}{acc:List U}{vs:List V}{l it:Addr}{fp:List Addr}{tn:Nat->Heap->Prop}{J:It}{L:List U}{ck:Sto->Prop}{k:En->List U->Sto->Prop}{R:Result->Shared->Prop}(hx:Y.xe=noE)(hc:Y.calm=true)(h:cs[d]?=some ⟨t,i,fs,0⟩)(hs:∀g',cs[d+1]?=some g'->g'.is_async=0/\∀x,foldedSetIterable g'.iter Y.env x=pure x)(hg:SG Y t g)(ht:TsR xa Y fs ts)(hr:z67 xa Y (.ListComp elt cs scope pos) elt cs[d+1]? (d+1) rest)(I:Inv Y pins σ H s)(T:z9w Y.prog Y.w Y.K t J fp it tn)(st:tn 0 s.heap)(hf:∀b∈fp,z52 Y pins H b)(en:EnR H ρ σ)(r:Rep ((l,.lst vs)::hd) S H)(hn:∀p∈hd,p.1≠l)(u:UrL H acc vs)(hi:ItR H J L ck)(q:cmL ck g ts rest L ρ S acc k)(hR:∀s',Okl Y pins l hd k H s'->R (.ok .next) s') : codeAny (model Y.prog Y.w) Y.A (.compLoop (.ListComp elt cs scope pos) d (.ref it) (.ref l) Y.env) R s:=by
 have stat:∀{H':Hp},(∀b∈fp,H' b=none)->∀b∈fp,z52 Y pins H' b:=λhn b hb=>⟨hn b hb,(hf b hb).2⟩;refine z6Y h hs (λn s'=>∃j σ' Hc ρ' S' acc' vs',j+n=L.length/\Inv Y pins σ' Hc s'/\tn j s'.heap/\(∀b∈fp,Hc b=none)/\Kp H Hc/\EnR Hc ρ' σ'/\Rep ((l,.lst vs')::hd) S' Hc/\UrL Hc acc' vs'/\cmL ck g ts rest (L.drop j) ρ' S' acc' k) ?_ L.length ⟨0,σ,H,ρ,S,acc,vs,by simp,I,st,λb hb=>(hf b hb).1,.refl H,en,r,u,q⟩;rintro n s5 ⟨j,σ5,Hc,ρ5,S5,acc5,vs5,hm,J5,st5,fr5,k5,en5,r5,u5,q5⟩;by_cases hj:j<L.length
 .rw[y17 hj]at q5;obtain⟨c5,q5⟩:=q5;obtain⟨g1,g2⟩:=hi.go j Hc S5 L[j] k5 r5 c5 (by simp[hj]);refine thn (T.item Y rfl rfl rfl hc j pins s5 σ5 Hc noE J5 (stat fr5) st5 g1) λz s6 hz8=>?_;obtain⟨y,hz,h6⟩:=hz8;subst hz;refine thn h6 λ_ s7 hz8=>?_;obtain⟨x,H7,J7,r7,y7,st7,fr7⟩:=hz8;obtain⟨k7,rp7,u7⟩:=g2 x H7 y7;have J7':=J7.pinned (stat fr7) (T.obj _ _ st7);have hgY:=hg _ s7 σ5 H7 x y (λσ8 H8=>Kp H7 H8/\∃ρ8 S8,EnR H8 ρ8 σ8/\Rep ((l,.lst vs5)::hd) S8 H8/\wTs ts ρ8 S8 λb S2=>cond b (rest ρ8 S2 acc5 λρ2 acc2 S3=>cmL ck g ts rest (L.drop (j+1)) ρ2 S3 acc2 k) (cmL ck g ts rest (L.drop (j+1)) ρ8 S2 acc5 k)) J7' r7 ⟨_,_,ρ5,S5,_,en5.mono k7,rp7,u7,q5,λρ8 S8 σ8 H8 k8 e8 r8 q8=>⟨k8,ρ8,S8,e8,r8,q8⟩⟩;rw[hx]at hgY;refine thn hgY λ_ s8 hz8=>?_;obtain⟨σ8,H8,J8,k8,ρ8,S8,e8,r8,q8⟩:=hz8;refine thn (zks hx ht J8 e8 r8 q8) λb s9 hz8=>?_;obtain⟨H9,S9,J9,k9,r9,q9⟩:=hz8;have K9:=k5.trans (k7.trans (k8.trans k9));have again:∀s':Shared,Okl Y (pins++z5z fp s7.heap) l hd (λρ2 acc2 S3=>cmL ck g ts rest (L.drop (j+1)) ρ2 S3 acc2 k) H9 s'->∃m,m<n/\∃j σ' Hc ρ' S' acc' vs',j+m=L.length/\Inv Y pins σ' Hc s'/\tn j s'.heap/\(∀b∈fp,Hc b=none)/\Kp H Hc/\EnR Hc ρ' σ'/\Rep ((l,.lst vs')::hd) S' Hc/\UrL Hc acc' vs'/\cmL ck g ts rest (L.drop j) ρ' S' acc' k:=by
   rintro s' ⟨σ',H',ρ',S',acc',vs',J',k',e',r',u',q'⟩;refine⟨n-1,by lia,j+1,σ',H',ρ',S',acc',vs',by lia,J'.unpinned,T.keep _ _ _ st7 λb hb o e=>(J'.pin (b,o) (y0O _ (y0O _ (z28 hb e)))).1,λb hb=>?_,K9.trans k',e',r',u',q'⟩;obtain⟨o,e,_⟩:=T.obj _ _ st7 b hb;exact(J'.pin (b,o) (y0O _ (y0O _ (z28 hb e)))).2.1
  have u9:=u5.mono (k7.trans (k8.trans k9));cases b with
  |false=>exact again s9 ⟨σ8,H9,ρ8,S9,acc5,vs5,J9,.refl _,e8.mono k9,r9,u9,q9⟩
  |true =>
   have z:=hr _ s9 σ8 H9 hd ρ8 S9 acc5 vs5 l _ J9 (e8.mono k9) r9 hn u9 q9;show zgq _ _ _ _ _ _ _ _ _ _;revert z;generalize hgg:cs[d+1]?=gg;cases gg with
   |none=>exact λz=>thn z λx s5 z=>thn z λ_ s6 z=>again s6 z
   |some g'=>exact λz=>thn z λx s5 z=>thn z λit2 s6 z R' hR'=>z R' λs7 q7=>hR' s7 (again s7 q7)
 .have ej:L.length=j:=by lia
  rw[y26 (by lia)]at q5;refine thn (T.done Y rfl rfl rfl hc j pins s5 σ5 Hc noE J5 (stat fr5) st5 (hi.stop j Hc S5 k5 r5 q5.1 ej)) λz s6 hz8=>?_;obtain⟨hz,J6⟩:=hz8;subst hz;exact hR s6 ⟨σ5,Hc,ρ5,S5,acc5,vs5,J6,k5,en5,r5,u5,q5.2⟩
def zhR{ti:WI}(hx:Y.xe=noE)(hc:Y.calm=true)(h:cs[d]?=some ⟨t,i,fs,0⟩)(hs:∀g',cs[d+1]?=some g'->g'.is_async=0/\∀x,foldedSetIterable g'.iter Y.env x=pure x)(hi:SI xa noX Y t i ti)(hg:SG Y t g)(ht:TsR xa Y fs ts)(hr:z67 xa Y (.ListComp elt cs scope pos) elt cs[d+1]? (d+1) rest):z67 xa Y (.ListComp elt cs scope pos) elt (some ⟨t,i,fs,0⟩) d (wCl ti g ts rest):=by intro pins s σ H hd ρ S acc vs l k I en r hn u q;have:=hi pins s σ H (λJ H1=>Kp H H1/\∃L ck S1,Rep ((l,.lst vs)::hd) S1 H1/\ItR H1 J L ck/\cmL ck g ts rest L ρ S1 acc k) I ⟨_,ρ,S,_,noQ,en,r,q,λL ck S1 J H1 k1 r1 i1 q1=>⟨k1,L,ck,S1,r1,i1,q1⟩,ziS⟩;rw[hx]at this;refine thn this λx s5 h5=>thn h5 λit2 s6 ⟨it,fp,tn,J,H6,e6,J6,T,st6,f6,k6,L,ck,S6,r6,i6,q6⟩ R' hR'=>?_;subst e6;have loop:=z9T (R:=R') hx hc h hs hg ht hr J6 T st6 f6 (en.mono k6) r6 hn (u.mono k6) i6 q6 λs' ⟨σ',H',ρ',S',acc',vs',J',k',e',r',u',q'⟩=>hR' s' ⟨σ',H',ρ',S',acc',vs',J',k6.trans k',e',r',u',q'⟩;exact z3d h rfl loop (T.self _ 0 _ _ _ st6 loop)
end
open PySem L2 PySem.SeqAt PySem.Spec
variable[WW]
theorem z7N:∀(ρ:En)(i:Nat),lk ρ i=(ρ[i]?).join
 |[],_=>rfl
 |x::_,0=>rfl
 |_::r,n+1=>z7N r n
def zan{H:Hp}{ρ:En}{σ:St}(h:EnR H ρ σ)(ix:List (Option Nat)):EnR H (cst ix ρ) (z1Z ix σ):=by
 unfold cst z1Z;refine⟨by rw[y01,y01],λi u e=>?_⟩;rw[z7N,y0l]at e;rw[y0l];cases z:ix[i]? with
 |none=>rw[z]at e;cases e
 |some o =>
  rw[z]at e;cases o with
  |none=>cases e
  |some j =>
   obtain⟨v,h1,h2⟩:=h.2 j u e;exact⟨v,by show some ((σ[j]?).join)=_;rw[h1];rfl,h2⟩
def zcb{hd:Hd}{l:Addr}{acc:List U}{vs:List V}{S:Sto}{H:Hp}(r:Rep ((l,.lst vs)::hd) S H)(hn:∀p∈hd,p.1≠l)(u:UrL H acc vs):S l=none/\Rep hd (up S l (.lst acc)) H:=by
 obtain⟨h1,h2,_⟩:=r.2.1 _ y0p;refine⟨h1,λa o e=>?_,λp hp=>?_,r.2.2⟩
 .by_cases z:a=l
  .subst z;rw[z05]at e;cases e;exact⟨vs,h2,u⟩
  .rw[z0k z]at e;exact r.1 a o e
 .obtain⟨g1,g2⟩:=r.2.1 p (y0d _ hp);exact⟨by rw[z0k (hn p hp)];exact g1,g2⟩
section
variable{xa:Nat->Addr}{X:Cx}{xk:St->XK}{N:List Str}{ix:List (Option Nat)}{scope:Scope}{elt t i:Expr}{fs:List Expr}{cs:List Comprehension}{pos:Pos}{ti:WI}{g:WX U}{ts:List WT}{rest:WR}{E:yyE}
structure zel(xa:Nat->Addr)(X:Cx)(N:List Str)(ix:List (Option Nat))(scope:Scope)(elt t i:Expr)(fs:List Expr)(cs:List Comprehension)(pos:Pos)(g:WX U)(ts:List WT)(rest:WR):Prop where
 sc:z0N X.N X.env.scope N ix scope
 calm:X.calm=true
 at_:∀cl C ex s H,SG (z2l X N scope cl C ex s H) t g/\TsR xa (z2l X N scope cl C ex s H) fs ts/\z67 xa (z2l X N scope cl C ex s H) (.ListComp elt (⟨t,i,fs,0⟩::cs) scope pos) elt cs[0]? 1 rest
 fold:∀g',cs[0]?=some g'->g'.is_async=0/\∀env x,foldedSetIterable g'.iter env x=pure x
def zas{pins:yyP}{s s3:Shared}{σ:St}{H:Hp}{it:Addr}{fp:List Addr}{tn:Nat->Heap->Prop}{J:It}{o:HO}{ce:Expr}{acc:Value}{R:Addr->Result->Shared->Prop}(B:z0N X.N X.env.scope N ix scope)(T:z9w X.prog X.w X.K t J fp it tn)(st:tn 0 s.heap)(hf:∀b∈fp,z52 X pins H b)(k3:∀b ob,s.heap.get? b=some ob->s3.heap.get? b=some ob)(I3:Inv X pins σ (upd H s.heap.objs.size o) s3)(go:∀s4:Shared,Inv (z2l X N scope (z0w X.env.cells scope.names []) s3.heap.objs.size fp s3 (upd H s.heap.objs.size o)) [] (z1Z ix σ) (upd H s.heap.objs.size o) s4->tn 0 s4.heap->(∀b∈fp,z52 (z2l X N scope (z0w X.env.cells scope.names []) s3.heap.objs.size fp s3 (upd H s.heap.objs.size o)) [] (upd H s.heap.objs.size o) b)->(∀σ6 H6 s6,Inv (z2l X N scope (z0w X.env.cells scope.names []) s3.heap.objs.size fp s3 (upd H s.heap.objs.size o)) [] σ6 H6 s6->Inv X pins σ H6 s6/\z52 X pins H6 s3.heap.objs.size/\∃m,s6.heap.Ns s3.heap.objs.size m) -> codeAny (model X.prog X.w) X.A (.compStart ce 0 (.ref it) acc (compEnvC scope (z0w X.env.cells scope.names []) s3.heap.objs.size X.env)) (R s3.heap.objs.size) s4) : wpAny (model X.prog X.w) X.A (newFunctionEnv scope X.env.globals (z0w X.env.cells scope.names []) [] X.env.qual none .none (some X.env)) (λcenv s4=>codeAny (model X.prog X.w) X.A (.compStart ce 0 (.ref it) acc { cenv with scope:=relabel scope X.env }) (R cenv.locals) s4) E s3:=by
 have st3:tn 0 s3.heap:=T.keep 0 _ _ st λb _ o e=>k3 b o e;have hf3:∀b∈fp,z52 X pins (upd H s.heap.objs.size o) b:=λb hb=>by obtain⟨f0,f⟩:=hf b hb;obtain⟨_,e,_⟩:=T.obj 0 s.heap st b hb;exact⟨by rw[z0c (y0i (y05 e))];exact f0,f⟩
 have hlt3:∀b∈fp,b<s3.heap.objs.size:=λb hb=>by obtain⟨_,e,_⟩:=T.obj 0 s3.heap st3 b hb;exact y05 e
 refine wpAny_newFunctionEnv B.nocell (by intro y hy;simp at hy) (λh1 hn1 hb1=>?_) B.kind;have hk1:∀b o,s3.heap.get? b=some o->h1.get? b=some o:=λb o e =>
  (hb1.2 b (y0i (y05 e))).trans (y02 _ e)
 refine go _ (zcd I3 B rfl hf3 hlt3 hn1 hk1) (T.keep 0 _ _ st3 λb _ o e=>hk1 b o e) (λb hb=>?_) λσ6 H6 s6 J6=>?_
 .obtain⟨f0,f1,f2,_,f4,_⟩:=hf3 b hb;exact⟨f0,y0i (hlt3 b hb),λhb2=>(y0k.mp (I3.stkSub b hb2)).elim f1 f2,.inl hb,λx c e=>f4 x c (z1c I3 B e),λp hp=>absurd (show p∈([]:yyP)from hp) (by simp)⟩
 .obtain⟨m6,hn6,_⟩:=J6.loc;exact⟨I3.call' (ch:=fp) J6.os J6.base J6.hok J6.bare λb hb=>(by obtain⟨_,f1,f2,f3,f4,f5⟩:=hf3 b hb;exact⟨f3,f1,f4,f5⟩),I3.fpOk (y09 _) J6.free,m6,hn6⟩
def z3Z{pins:yyP}{s:Shared}{σ:St}{H:Hp}{hd:Hd}{ρ:En}{S:Sto}{it:Addr}{fp:List Addr}{tn:Nat->Heap->Prop}{J:It}{L:List U}{ck:Sto->Prop}{Q:Kq U}{RR:Value->Addr->Result->Shared->Prop}(B:zel xa X N ix scope elt t i fs cs pos g ts rest)(I:Inv X pins σ H s)(T:z9w X.prog X.w X.K t J fp it tn)(st:tn 0 s.heap)(hf:∀b∈fp,z52 X pins H b)(en:EnR H ρ σ)(r:Rep hd S H)(hi:ItR H J L ck)(q:cmL ck g ts rest L (cst ix ρ) S [] λ_ acc S2=>nw (.lst acc) S2 Q)(hRR:∀l C s' H' S' m,s'.heap.Ns C m->Inv X pins σ H' s'->z52 X pins H' C->Kp H H'->Rep hd S' H'->Q (.ref l) S'->RR (.ref l) C (.ok .next) s') : wpAny (model X.prog X.w) X.A (newList []) (λacc s3=>wpAny (model X.prog X.w) X.A (newFunctionEnv scope X.env.globals (z0w X.env.cells scope.names []) [] X.env.qual none .none (some X.env)) (λcenv s4 => codeAny (model X.prog X.w) X.A (.compStart (.ListComp elt (⟨t,i,fs,0⟩::cs) scope pos) 0 (.ref it) acc { cenv with scope:=relabel scope X.env }) (RR acc cenv.locals) s4) E s3) E s:=by
 have hl0:H s.heap.objs.size=none:=I.fresh;refine y0T ?_;have kp:Kp H (upd H s.heap.objs.size (.lst [])):=.new hl0;have hn:∀p∈hd,p.1≠s.heap.objs.size:=λp hp=>z0h (r.2.1 p hp).2.1 hl0;have r3:Rep ((s.heap.objs.size,.lst [])::hd) S (upd H s.heap.objs.size (.lst [])):=by
  refine⟨λa o e=>(r.1 a o e).mono kp (z0c ?_),λp hp=>?_,z1z r.2.2 (λb ps e=>?_) λb oc vs d e=>?_⟩
  .rintro rfl;rw[r.none hl0]at e;cases e
  .rcases y0k.mp hp with rfl|hp
   .exact⟨r.none hl0,z0a,rfl⟩
   .obtain⟨g1,g2,g3⟩:=r.2.1 p hp;exact⟨g1,by rw[z0c (hn p hp)];exact g2,g3⟩
  .rw[z0c (z0h e hl0)];exact e
  .rw[z0c (z0h e hl0)];exact e
 generalize hs3:({ s with heap:=s.heap.push { cls:=.type "list",dict:=none,data:=.seq ([]:List Value).toArray } }:Shared)=s3;have I3:Inv X pins σ (upd H s.heap.objs.size (.lst [])) s3:=by rw[<-hs3];exact I.lnew (its:=[]) (t':=s.toks) .nil (y1r _)
 refine zas (s:=s) (R:=RR (.ref s.heap.objs.size)) B.sc T st hf (λb o e=>by rw[<-hs3];exact y02 _ e) I3 λs4 J0 st1 fpY back=>?_;obtain⟨hg,ht,hr⟩:=B.at_ (z0w X.env.cells scope.names []) s3.heap.objs.size fp s3 (upd H s.heap.objs.size (.lst []));have hi3:ItR (upd H s.heap.objs.size (.lst [])) J L ck:=⟨λi H' S x k=>hi.go i H' S x (kp.trans k),λi H' S k=>hi.stop i H' S (kp.trans k)⟩;have loop:codeAny (model X.prog X.w) X.A (.compLoop (.ListComp elt (⟨t,i,fs,0⟩::cs) scope pos) 0 (.ref it) (.ref s.heap.objs.size) (compEnvC scope (z0w X.env.cells scope.names []) s3.heap.objs.size X.env)) (RR (.ref s.heap.objs.size) s3.heap.objs.size) s4:=by refine z9T (Y:=z2l X N scope (z0w X.env.cells scope.names []) s3.heap.objs.size fp s3 (upd H s.heap.objs.size (.lst []))) rfl B.calm rfl (λg' e=>⟨(B.fold g' e).1,(B.fold g' e).2 _⟩) hg ht hr J0 T st1 fpY (zan (en.mono kp) ix) r3 hn .nil hi3 q ?_;rintro s6 ⟨σ6,H6,ρ6,S6,acc6,vs6,J6,k6,e6,r6,u6,q6⟩;obtain⟨n6,w6⟩:=zcb r6 hn u6;obtain⟨I6,fC,m6,hn6⟩:=back _ _ _ J6;exact hRR _ _ s6 H6 _ m6 hn6 I6 fC (kp.trans k6) w6 (q6 _ n6)
 exact z3d rfl rfl loop (T.self _ 0 _ _ _ st1 loop)
def z0C(B:zel xa X N ix scope elt t i fs cs pos g ts rest)(hi:SI xa xk X t i ti)(hs:∀x,foldedSetIterable i X.env x=pure x:=by intro _;rfl):SE xa X xk (.ListComp elt (⟨t,i,fs,0⟩::cs) scope pos) (zi3 ix ti g ts rest):=by intro pins s σ H Q' I ⟨hd,ρ,S,Q,E,en,r,h,c⟩;rw[eval_ListComp];refine y2C (use:=none) rfl hs (z15 (z0z I B.sc)) B.sc.kind B.sc.names (thn (hi pins s σ H (λJ H1=>Kp H H1/\∃L ck S1,Rep hd S1 H1/\ItR H1 J L ck/\cmL ck g ts rest L (cst ix ρ) S1 [] λ_ acc S2=>nw (.lst acc) S2 Q) I ⟨hd,ρ,S,_,E,en,r,h,λL ck S1 J H1 k1 r1 i1 q1=>⟨k1,L,ck,S1,r1,i1,q1⟩,c.ex⟩) λv s1 h1=>thn h1 λitv s2 h2=>?_);obtain⟨it,fp,tn,J,H2,e,I2,T,st2,f2,k2,L,ck,S2,r2,i2,q2⟩:=h2;subst e;refine z3Z (RR:=λacc C=>compPost (model X.prog X.w) X.A X.xe none (EP X pins σ Q') acc C) B I2 T st2 f2 (en.mono k2) r2 i2 q2 λl C s' H' S' m hn I' fC k' r' q'=>⟨m,hn,λh' hs'=>?_⟩;obtain⟨c0,c1,_,c3,c4,c5⟩:=fC;exact⟨.ref l,H',I'.turned (t':=s'.toks) (λb o hb e=>(hs'.2 b hb).trans e) c0 c1 c3 c4 c5,rfl,c.ok _ S' _ H' (k2.trans k') r' (by simp only[Ur]) q'⟩
def z8l{pins:yyP}{σ:St}{H':Hp}{s':Shared}{D:z9k}{l C:Addr}{m:yyS}{j:Nat}{x:Str}{pos':Pos}(I':Inv X pins σ H' s')(hn:s'.heap.Ns C m)(fC:z52 X pins H' C)(hN:X.N.Nodup)(hx:X.N[j]?=some x)(hl:X.env.scope.names.lookup x=some .local)(q:D.nx (σ.set j (some (.ref l))) H') : compPost (model X.prog X.w) X.A X.xe (some (assign (.Name x pos') X.env)) (λ_ s'=>SP X pins D .next s') (.ref l) C (.ok .next) s':=by
 obtain⟨c0,c1,c2,c3,c4,c5⟩:=fC;show wpAny _ _ (assign (.Name x pos') X.env (.ref l)) _ _ _;refine wpAny_assign_Name (z6n I' hN hx (.inl hl) (v:=.ref l) rfl (λs'' I'' hz8=>?_) (.inr hl));obtain⟨a,sb,ha⟩:=hz8;have haC:C≠a:=by
  rcases ha with ha|ha
  .rw[ha];exact c1
  .exact λz=>c4 x a ha z.symm
 refine⟨m,hn.sameBut sb haC,λh' hs'=>?_⟩;exact⟨_,H',I''.turned (t':=s''.toks) (λb o hb e=>(hs'.2 b hb).trans e) c0 c1 c3 c4 c5,q⟩
def zfh(j:Nat){x:Str}{spos pos':Pos}(hN:X.N.Nodup)(B:zel xa X N ix scope elt t i fs cs pos g ts rest)(hi:SI xa xk X t i ti)(hx:X.N[j]?=some x:=by rfl)(hl:X.env.scope.names.lookup x=some .local:=by rfl)(hsw:swapsWith (.ListComp elt (⟨t,i,fs,0⟩::cs) scope pos) (some (.Name x pos')) spos.line X.env=pure true:=by rfl)(hs:∀x,foldedSetIterable i X.env x=pure x:=by intro _;rfl):SS xa xk X (.Assign [.Name x pos'] (.ListComp elt (⟨t,i,fs,0⟩::cs) scope pos) spos) (zjJ (zi3 ix ti g ts rest) (gN j)):=by
 intro pins s σ H D I ⟨hd,ρ,S,W,E,en,r,h,c⟩;rw[exec_Assign_Name_used _ _ _ _ hsw];refine y00 (y1d (y00 ?_));show wpAny _ _ (comprehension (.ListComp elt (⟨t,i,fs,0⟩::cs) scope pos) scope X.env _ (newList []) false (eval i X.env) (some (assign (.Name x pos') X.env))>>=λ_=>pure ()) _ _ s;refine y00 (y0B (y2C (use:=some (assign (.Name x pos') X.env)) (Q:=λ_ s'=>SP X pins D .next s') rfl hs (z15 (z0z I B.sc)) B.sc.kind B.sc.names
  (thn (hi pins s σ H (λJ H1=>Kp H H1/\∃L ck S1,Rep hd S1 H1/\ItR H1 J L ck/\cmL ck g ts rest L (cst ix ρ) S1 [] λ_ acc S2=>nw (.lst acc) S2 λu S3=>gN j u ρ S3 W.nx) I ⟨hd,ρ,S,_,E ρ,en,r,h,λL ck S1 J H1 k1 r1 i1 q1=>⟨k1,L,ck,S1,r1,i1,q1⟩,c.at en⟩) λv s1 h1=>thn h1 λitv s2 h2=>?_)) (λ_ s' q=>y03 (y03 q)) λ_ _ e=>e)
 obtain⟨it,fp,tn,J,H2,e,I2,T,st2,f2,k2,L,ck,S2,r2,i2,q2⟩:=h2;subst e;refine z3Z (RR:=λacc C=>compPost (model X.prog X.w) X.A X.xe (some (assign (.Name x pos') X.env)) (λ_ s'=>SP X pins D .next s') acc C) B I2 T st2 f2 (en.mono k2) r2 i2 q2 λl C s' H' S' m hn I' fC k' r' q'=>?_;exact z8l I' hn fC hN hx hl (c.nx _ S' _ H' (k2.trans k') ((en.mono (k2.trans k')).set j (by simp only[Ur])) r' q')
end
def zlo(ti:WI)(j:Nat):WS:=λρ S W E=>ti ρ S (λL ck S1=>L=[]/\∀d,S1 d=none->ck (up S1 d (.dic false []))/\W.nx (st ρ j (.ref d)) (up S1 d (.dic false []))) (E ρ)
section
variable{xa:Nat->Addr}{X:Cx}{xk:St->XK}{ti:WI}{N:List Str}{ix:List (Option Nat)}{scope:Scope}{kx vx tg iter:Expr}{pos:Pos}
def z8y{prog:Program}{w:World}{A:Around}{it:Value}{d:Addr}{env:Env}{R:Result->Shared->Prop}{s:Shared}(h:wpAny (model prog w) A (pyNext it) (λr s1=>r=none/\R (.ok .next) s1) noE s):codeAny (model prog w) A (.compLoop (.DictComp kx vx [⟨tg,iter,[],0⟩] scope pos) 0 it (.ref d) env) R s:=by
 refine codeAny_loop rfl (λ_ s'=>s'=s) (λn s' e=>?_) 0 rfl;subst e;show wpAny _ _ ((compTurn (.DictComp kx vx [⟨tg,iter,[],0⟩] scope pos) 0 it (.ref d) env).onRaise (λx=>do noteFrame x env;theTreesLotGoes x)) _ _ _
 refine wpAny_noted ?_;rw[compTurn_dict];refine y00 (y1d (y00 (y0B h (λr s1 h1=>?_) (λ_ _ z=>False.elim z))));obtain⟨rfl,h1⟩:=h1;exact y03 h1
def z9u(j:Nat){x:Str}{spos pos':Pos}(hN:X.N.Nodup)(hc:X.calm=true)(B:z0N X.N X.env.scope N ix scope)(hi:SI xa xk X tg iter ti)(hx:X.N[j]?=some x:=by rfl)(hl:X.env.scope.names.lookup x=some .local:=by rfl)(hsw:swapsWith (.DictComp kx vx [⟨tg,iter,[],0⟩] scope pos) (some (.Name x pos')) spos.line X.env=pure true:=by rfl)(hs:∀x,foldedSetIterable iter X.env x=pure x:=by intro _;rfl) : SS xa xk X (.Assign [.Name x pos'] (.DictComp kx vx [⟨tg,iter,[],0⟩] scope pos) spos) (zlo ti j):=by
 intro pins s σ H D I ⟨hd,ρ,S,W,E,en,r,h,c⟩;rw[exec_Assign_Name_used _ _ _ _ hsw];refine y00 (y1d (y00 ?_));show wpAny _ _ (comprehension (.DictComp kx vx [⟨tg,iter,[],0⟩] scope pos) scope X.env _ newDict false (eval iter X.env) (some (assign (.Name x pos') X.env))>>=λ_=>pure ()) _ _ s;refine y00 (y0B (y2C (use:=some (assign (.Name x pos') X.env)) (Q:=λ_ s'=>SP X pins D .next s') rfl hs (z15 (z0z I B)) B.kind B.names
  (thn (hi pins s σ H (λJ H1=>Kp H H1/\∃ck S1,Rep hd S1 H1/\ItR H1 J [] ck/\∀d,S1 d=none->ck (up S1 d (.dic false []))/\W.nx (st ρ j (.ref d)) (up S1 d (.dic false []))) I ⟨hd,ρ,S,_,E ρ,en,r,h,λL ck S1 J H1 k1 r1 i1 ⟨hL,q1⟩=>⟨k1,ck,S1,r1,hL▸i1,q1⟩,c.at en⟩) λv s1 h1=>thn h1 λitv s2 h2=>?_)) (λ_ s' q=>y03 (y03 q)) λ_ _ e=>e)
 obtain⟨it,fp,tn,J,H2,e,I2,T,st2,f2,k2,ck,S2,r2,i2,q2⟩:=h2;subst e;have hl0:H2 s2.heap.objs.size=none:=I2.fresh;have kp:Kp H2 (upd H2 s2.heap.objs.size (.dK [])):=.new hl0;have r3:=r2.up (o:=.dic false []) kp (.inl hl0) ⟨[],z0a,.nil⟩;obtain⟨q3,q4⟩:=q2 _ (r2.none hl0);refine y0T ?_;generalize hs3:({ s2 with heap:=s2.heap.push { cls:=.type "dict",data:=.dict #[] } }:Shared)=s3;have I3:Inv X pins σ (upd H2 s2.heap.objs.size (.dK [])) s3:=by rw[<-hs3];exact I2.laid (a:=s2.heap.objs.size) (o:=.dK []) (t':=s2.toks) (λ_ _ q=>y02 _ q) (y09 _) (z5m s2.heap I2.big)
 refine zas (s:=s2) (R:=λC=>compPost (model X.prog X.w) X.A X.xe (some (assign (.Name x pos') X.env)) (λ_ s'=>SP X pins D .next s') (.ref s2.heap.objs.size) C) B T st2 f2 (λb o e=>by rw[<-hs3];exact y02 _ e) I3 λs4 J0 st1 fpY back=>?_;have loop:=z8y (kx:=kx) (vx:=vx) (tg:=tg) (iter:=iter) (scope:=scope) (pos:=pos) (d:=s2.heap.objs.size) (env:=compEnvC scope (z0w X.env.cells scope.names []) s3.heap.objs.size X.env) (thn (T.done (z2l X N scope (z0w X.env.cells scope.names []) s3.heap.objs.size fp s3 (upd H2 s2.heap.objs.size (.dK []))) rfl rfl rfl hc 0 [] s4 _ _ noE J0 fpY st1 (i2.stop 0 _ _ kp r3 q3 rfl)) λr s6 ⟨hr,J6⟩=>by obtain⟨I6,fC,m6,hn6⟩:=back _ _ _ J6;exact y3s hr (z8l (pos':=pos') I6 hn6 fC hN hx hl (c.nx _ _ _ _ (k2.trans kp) ((en.mono (k2.trans kp)).set j (show Ur _ (.ref s2.heap.objs.size) (.ref s2.heap.objs.size)by simp only[Ur])) r3 q4)))
 exact codeAny_compStart_dict loop (T.self _ 0 _ _ _ st1 loop)
end
open PySem L2 PySem.SeqAt PySem.Spec
variable[WW]
mutual
theorem z0P:∀u:U,eqU u u=true
 |.non=>by simp only[eqU]
 |.bl _|.int _|.str _|.ref _=>by simp only[eqU,beq_self_eq_true]
 |.tup us=>by simp only[eqU];exact z5e us
theorem z5e:∀us:List U,eqL us us=true
 |[]=>by simp only[eqL]
 |u::us=>by simp only[eqL,z0P u,z5e us,Bool.and_self]
end
instance:DecidableEq U:=λa b=>if h:eqU a b=true then isTrue (z4f h)else isFalse λe=>h (by rw[e];exact z0P b)
def zez(a b:U):decide (a=b)=eqU a b:=by
 by_cases h:eqU a b=true
 .rw[y1x (z4f h),h]
 .rw[y0v (λe=>h (by rw[e];exact z0P b)),Bool.eq_false_iff.mpr h]
mutual
def drw:U->Nat
 |.tup us=>z99 us+1
 |_=>1
def z99:List U->Nat
 |[]=>0
 |u::us=>drw u+z99 us
end
theorem zam:∀a b:List U,uhL (a++b)=uhL a++uhL b
 |[],b=>by simp only[List.nil_append,uhL]
 |d::a,b=>by simp only[y2t,uhL,zam a b]
theorem z81:∀a b:List U,z99 (a++b)=z99 a+z99 b
 |[],b=>by simp only[List.nil_append,z99,y2A]
 |d::a,b=>by simp only[y2t,z99,z81 a b,y3f]
mutual
theorem Hu.keep{h h':Heap}(k:∀a its,h.IsTuple a its->h'.IsTuple a its):∀{d:U}{v:Value},Hu h d v->Hu h' d v
 |.non,_,q|.bl _,_,q|.int _,_,q|.str _,_,q=>by simp only[Hu]at q⊢;exact q
 |.ref _,_,q=>by simp only[Hu]at q
 |.tup ds,_,q=>by simp only[Hu]at q⊢;obtain⟨a,its,e,h1,h4⟩:=q;exact⟨a,its,e,k a its h1,HuL.keep k h4⟩
theorem HuL.keep{h h':Heap}(k:∀a its,h.IsTuple a its->h'.IsTuple a its):∀{ds:List U}{vs:List Value},HuL h ds vs->HuL h' ds vs
 |[],_,q=>by simp only[HuL]at q⊢;exact q
 |d::ds,_,q=>by simp only[HuL]at q⊢;obtain⟨v,r,e,q1,q2⟩:=q;exact⟨v,r,e,Hu.keep k q1,HuL.keep k q2⟩
end
mutual
theorem zgi:∀{u:U},ky u=true->fl u=true
 |.int _,_|.str _,_=>by simp only[fl]
 |.tup us,h=>by simp only[ky]at h;simp only[fl];exact z8k h
 |.non,h|.bl _,h|.ref _,h=>by simp[ky]at h
theorem z8k:∀{us:List U},kyL us=true->flL us=true
 |[],_=>by simp only[flL]
 |u::us,h=>by simp only[kyL,y0b]at h;simp only[flL,zgi h.1,z8k h.2,Bool.and_self]
end
mutual
theorem zi2:∀{u w:U},ky u=true->ky w=true->okU u w=true
 |.int _,.int _,_,_|.int _,.str _,_,_|.int _,.tup _,_,_|.str _,.int _,_,_|.str _,.str _,_,_|.str _,.tup _,_,_|.tup _,.int _,_,_|.tup _,.str _,_,_=>by simp only[okU]
 |.tup a,.tup b,h,k=>by simp only[ky]at h k;simp only[okU];exact z9H h k
 |.non,_,h,_|.bl _,_,h,_|.ref _,_,h,_=>by simp[ky]at h
 |.int _,.non,_,h|.int _,.bl _,_,h|.int _,.ref _,_,h|.str _,.non,_,h|.str _,.bl _,_,h|.str _,.ref _,_,h|.tup _,.non,_,h|.tup _,.bl _,_,h|.tup _,.ref _,_,h=>by simp[ky]at h
theorem z9H:∀{us ws:List U},kyL us=true->kyL ws=true->okL us ws=true
 |[],_,_,_=>by simp only[okL]
 |_::_,[],_,_=>by simp only[okL]
 |u::us,w::ws,h,k=>by simp only[kyL,y0b]at h k;simp only[okL,zi2 h.1 k.1,z9H h.2 k.2,Bool.and_self]
end
section
variable{prog:Program}
def ziR:∀(n:Nat){A:Around}{E:yyE}{s:Shared}{d:U}{v:Value}{Q:Int->Shared->Prop},ky d=true->dep d<=n->A.units+n<cLine->Hu s.heap d v->Q (uh d) { s with toks:=s.toks+drw d }->wpAny (model prog WW.w) A (pyHash v) Q E s:=by
 have flat:∀{A:Around}{E:yyE}{s:Shared}{d:U}{v:Value}{Q:Int->Shared->Prop},ky d=true->dep d=0->Hu s.heap d v->Q (uh d) { s with toks:=s.toks+drw d }->wpAny (model prog WW.w) A (pyHash v) Q E s:=by
  intro A E s d v Q hk hd hv h;cases d<;>simp only[ky,y0L]at hk<;>simp only[dep,Nat.add_eq_zero_iff,Nat.one_ne_zero,and_false]at hd<;>simp only[Hu]at hv<;>obtain⟨t,rfl⟩:=hv<;>simp only[uh,drw]at h
  .exact wpAny_pyHash_int h
  .exact wpAny_pyHash_str h
 intro n;induction n with
 |zero=>intro A E s d v Q hk hd hu hv h;exact flat hk (by lia) hv h
 |succ n ih =>
  intro A E s d v Q hk hd hu hv h;cases d with
  |tup ds =>
   simp only[Hu]at hv;simp only[dep]at hd;simp only[ky]at hk;obtain⟨a,its,rfl,⟨o,ho,hc,m,hdd⟩,hi⟩:=hv;have hT:s.TypeIs (.ref a) "tuple":=⟨o,ho,hc⟩;have hin:A.in1.units+n<cLine:=by show A.units+1+n<cLine;lia
   unfold pyHash;first|unfold pyHashByItsType|skip
   first|refine y00 (wpAny_cRoomFor_or (.inr (show A.units<cLine by lia)) ?_)|skip
   refine y00 (y1T hT y2X.lookup ?_);show wpAny _ _ (if(some (Value.builtin "tuple.__hash__")==some Value.none)=true
    then _ else _) Q E s
   rw[if_neg (by rw[beq_builtin_none];exact y0s)];refine y00 (y1T hT y2X.lookup ?_);show wpAny _ _ (callSpecialIfBoundUnlessNone? (.ref a) "__hash__" _
    >>= _) Q E s
   refine y00 (wpAny_callSpecialIfBoundUnlessNone?_slot hT y2X (y0Q y2X
    hT F.entry_tuple_hash ?_ (F.args_tuple_hash_1 _)))
   show wpAny _ _ (Builtin.Tuple.tupleItemsOf (.ref a)>>=_) _ _ s;refine y00 (wpAny_tupleItemsOf ho hdd (y00 ?_));rw[<-Array.forIn_toList];refine wpAny_forIn_list _ (λrest (b:Array Int) s'=>∃done left,ds=done++left/\HuL s.heap left rest/\kyL left=true/\z6y left<=n/\b.toList=uhL done/\s'={ s with toks:=s.toks+z99 done }) _ ?_ ?_ _ _ ⟨[],ds,rfl,hi,hk,by lia,by simp only[uhL],by simp only[z99,y2B]⟩
   .rintro x rest b s' ⟨done,left,e,hl,hkl,hdl,hb,rfl⟩;cases left with
    |nil=>simp only[HuL]at hl;cases hl
    |cons k ks =>
     simp only[HuL]at hl;simp only[kyL,y0b]at hkl;simp only[z6y]at hdl;obtain⟨v',r,ev,q1,q2⟩:=hl;cases ev;refine y00 (ih hkl.1 (by lia) hin q1 ?_);have fin:∃done' left',ds=done'++left'/\HuL s.heap left' rest/\kyL left'=true/\z6y left'<=n/\(b.push (uh k)).toList=uhL done'/\({ s with toks:=s.toks+z99 done+drw k }:Shared)={ s with toks:=s.toks+z99 done' } :=
      ⟨done++[k],ks,by rw[e];simp,q2,hkl.2,by lia,by rw[zam,<-hb];simp[uhL],by rw[z81];simp only[z99,y2B,y3f]⟩
     first
      |exact y03 fin
      |exact y00 (y03 (y03 fin))
   .rintro b s' ⟨done,left,e,hl,_,_,hb,rfl⟩;cases left with
    |cons k ks=>simp only[HuL]at hl;obtain⟨_,_,e,_⟩:=hl;cases e
    |nil =>
     rw[y0n]at e;subst e;show wpAny _ _ (retInt (Builtin.Tuple.tupleHashOf b.toList))
      _ _ _
     rw[hb];refine wpAny_ret_mkInt ?_;show wpAny _ _ (if(decide (-(2:Int)^63<=Builtin.Tuple.tupleHashOf (uhL ds))&&decide (Builtin.Tuple.tupleHashOf (uhL ds)<2^63))=true then _ else _) Q E _;simp only[uh]at h;unfold reduceHash at h;simp only[drw]at h;by_cases hr:(decide (-(2:Int)^63<=Builtin.Tuple.tupleHashOf (uhL ds))&&decide (Builtin.Tuple.tupleHashOf (uhL ds)<2^63))=true
     .rw[if_pos hr];rw[if_pos hr]at h;exact y03 (by simpa[y3f]using h)
     .rw[if_neg hr];rw[if_neg hr]at h;exact y00 (wpAny_rule (y03 (by simpa[y3f]using h)))
  |_=>exact flat hk rfl hv h
def zfV{A:Around}{E:yyE}{s:Shared}:∀(n:Nat){d:U}{v:Value}{Q:Bool->Shared->Prop},ky d=true->dep d<=n->Hu s.heap d v->Q true s->wpAny (model prog WW.w) A (eqIsQuiet n v) Q E s:=by
 have flat:∀(n:Nat){d:U}{v:Value}{Q:Bool->Shared->Prop},ky d=true->dep d=0->Hu s.heap d v->Q true s->wpAny (model prog WW.w) A (eqIsQuiet n v) Q E s:=λn d v Q hk hd hv h=>by
  cases d<;>simp only[ky,y0L]at hk<;>simp only[dep,Nat.add_eq_zero_iff,Nat.one_ne_zero,and_false]at hd<;>simp only[Hu]at hv<;>obtain⟨t,rfl⟩:=hv
  .rw[eqIsQuiet_byValue n (v:=.int _ t) rfl];exact y03 h
  .rw[eqIsQuiet_byValue n (v:=.str _ t) rfl];exact y03 h
 intro n;induction n with
 |zero=>intro d v Q hk hd hv h;exact flat 0 hk (by lia) hv h
 |succ n ih =>
  intro d v Q hk hd hv h;cases d with
  |tup ds =>
   simp only[Hu]at hv;simp only[dep]at hd;simp only[ky]at hk;obtain⟨a,its,rfl,⟨o,ho,hc,m,hdd⟩,hi⟩:=hv;have hT:s.TypeIs (.ref a) "tuple":=⟨o,ho,hc⟩;unfold eqIsQuiet;refine y00 (y1T hT F.slot_tuple_eq.lookup ?_);show wpAny _ _ (isInstance (.ref a) (.type "tuple")
    >>= _) _ _ s
   refine y00 (wpAny_isInstance hT isSubtype_tuple_tuple ?_);simp only[Bool.not_true,y0L,if_false];refine y00 (y1Q ho hdd (y00 ?_));show wpAny _ _ (forIn its _ _) _ _ s;rw[<-Array.forIn_toList];refine wpAny_forIn_list _ (λrest r s'=>r.1=none/\s'=s/\∃left,HuL s.heap left rest/\kyL left=true/\z6y left<=n) _ ?_ ?_ _ _ ⟨rfl,rfl,ds,hi,hk,by lia⟩
   .rintro x rest r s' ⟨hr,rfl,left,hl,hkl,hdl⟩;cases left with
    |nil=>simp only[HuL]at hl;cases hl
    |cons k ks =>
     simp only[HuL]at hl;simp only[z6y]at hdl;simp only[kyL,y0b]at hkl;obtain⟨v',q,ev,q1,q2⟩:=hl;cases ev;refine y00 (ih hkl.1 (by lia) q1 ?_);simp only[Bool.not_true,y0L,if_false];exact y03 ⟨rfl,rfl,ks,q2,hkl.2,by lia⟩
   .rintro⟨r1,r2⟩ s' ⟨hr,rfl,_⟩;simp only at hr;subst hr;exact y03 h
  |_=>exact flat _ hk rfl hv h
def z46{u:U}(h:tk u=true):isT u=true/\ky u=true/\dep u<=8:=by unfold tk at h;rw[y0b,y0b]at h;exact⟨h.1.1,h.1.2,y0m h.2⟩
def zdk(prog:Program):HeapKind prog WW.w U where
 is:=λh d a=>Hu h d (.ref a)/\tk d=true
 hash:=uh
 draws:=drw
 room:=λA=>A.units+8<cLine
 inj:=λhx hy=>z4f (Hu.eq hx.1 hy.1)
 keeps:=λ{h h' k a d o es ep} hx ho hd hs=>⟨Hu.keep (λb its ⟨o',e,c,n,q⟩=>⟨o',(hs.2 b (by rintro rfl;rw[ho]at e;cases e;rw[hd]at q;cases q)).trans e,c,n,q⟩) hx.1,hx.2⟩
 pyHash:=λhu hk h=>ziR 8 (z46 hk.2).2.1 (z46 hk.2).2.2 hu hk.1 h
 eqBool:=λhu hx hy h=>by rw[zez]at h;exact(zeF 8 _ (z46 hx.2).2.2 hu hx.1 hy.1 (zi2 (z46 hx.2).2.1 (z46 hy.2).2.1)).1 _ _ _ _ h
 quiet:=λhk h=>zfV 8 (z46 hk.2).2.1 (z46 hk.2).2.2 hk.1 h
end
open PySem L2 PySem.SeqAt PySem.Spec
variable[WW]
def z0t:List (U × U)->U->Option U
 |[],_=>none
 |p::r,k=>cond (eqU p.1 k) (some p.2) (z0t r k)
def z40(kvs:List (U × U))(k v:U):List (U × U):=cond (z0t kvs k).isSome (kvs.map λp=>cond (eqU p.1 k) (p.1,v) p) (kvs++[(k,v)])
def z90(kvs:List (U × U))(k:U):List (U × U):=kvs.filter λp=>!eqU p.1 k
def kok:Bool->U->Bool
 |true,k=>tk k
 |false,.int _=>true
 |false,.str _=>true
 |false,_=>false
def z7v{a b:U}:eqU a b=true↔a=b:=⟨z4f,λh=>by rw[h];exact z0P b⟩
def z1b{a b:U}(h:a≠b):eqU a b=false:=by cases e:eqU a b;rfl;exact absurd (z4f e) h
def za6{a b:Key}(h:kU a=kU b):a=b:=by cases a<;>cases b<;>simp[kU]at h<;>rw[h]
def z1r{k:U}{H:Hp}{y:V}(h:kok false k=true)(u:Ur H k y):∃q:Key,k=kU q/\y=kV q:=by
 cases k<;>simp only[kok,y0L]at h
 .exact⟨.inl _,rfl,urI u⟩
 .exact⟨.inr _,rfl,urS u⟩
def z4n{k:U}{H:Hp}{y:V}(h:tk k=true)(u:Ur H k y):∃b,y=.ref b:=by obtain⟨h,_⟩:=z46 h;cases k<;>simp only[isT,y0L]at h;obtain⟨a,_,rfl,_⟩:=urT u;exact⟨a,rfl⟩
inductive OR(H:Hp):Option U->Option V->Prop
 |no:OR H none none
 |yes {u:U} {v:V}:Ur H u v->OR H (some u) (some v)
inductive OV(H:Hp):Option U->Option (Addr × Value)->Prop
 |no:OV H none none
 |yes {u:U} {v:V} {p:Addr × Value}:Ur H u v->z0y v p.2->OV H (some u) (some p)
def KsR.val{H:Hp}{kvs:List (U × U)}{vs:List (Key × V)}(r:KsR H kvs vs)(k:Key):OR H (z0t kvs (kU k)) (z7m vs k):=by
 unfold KsR at r;induction r with
 |nil=>exact .no
 |@cons p q ps qs h t ih =>
  unfold z0t;by_cases e:q.1=k
  .rw[z3c e,h.1,e,z0P];exact .yes h.2
  .rw[z33 e,h.1,z1b λz=>e (za6 z)];exact ih
def UK.val{H:Hp}{kvs:List (U × U)}{xs:List (U × Addr × Value)}(r:UK H kvs xs)(k:U):OV H (z0t kvs k) (atKey xs k):=by
 unfold UK at r;induction r with
 |nil=>exact .no
 |@cons p q ps qs h t ih =>
  obtain⟨h1,_,v,h2,h3⟩:=h;unfold z0t;by_cases e:q.1=k
  .have b:atKey (q::qs) k=some q.2:=by simp[atKey,y1D,e]
   rw[b,h1,e,z0P];exact .yes h2 h3
  .have b:atKey (q::qs) k=atKey qs k:=by simp[atKey,y1D,e]
   rw[b,h1,z1b e];exact ih
def OR.some_eq{H:Hp}{a:Option U}{b:Option V}(h:OR H a b):a.isSome=b.isSome:=by cases h<;>rfl
def OV.some_eq{H:Hp}{a:Option U}{b:Option (Addr × Value)}(h:OV H a b):a.isSome=b.isSome:=by cases h<;>rfl
def KsR.len{H:Hp}{kvs:List (U × U)}{vs:List (Key × V)}(r:KsR H kvs vs):kvs.length=vs.length:=y1t r
def KsR.put{H:Hp}{kvs:List (U × U)}{vs:List (Key × V)}(r:KsR H kvs vs)(k:Key){u:U}{v:V}(h:Ur H u v):KsR H (z40 kvs (kU k) u) (z6C vs k v):=by
 unfold z40 z6C;rw[(r.val k).some_eq,<-z5o];cases e:vs.any λkv=>decide (kv.1=k)with
 |false=>rw[if_neg y0s];exact Paired.snoc r ⟨rfl,h⟩
 |true =>
  rw[if_pos rfl];clear e;unfold KsR at r;induction r with
  |nil=>exact .nil
  |@cons p q ps qs z t ih =>
   refine .cons ?_ ih;show(cond (eqU p.1 (kU k)) (p.1,u) p).1=kU (if q.1=k then(q.1,v)else q).1/\Ur H (cond (eqU p.1 (kU k)) (p.1,u) p).2 (if q.1=k then(q.1,v)else q).2;by_cases e:q.1=k
   .rw[if_pos e,z.1,e,z0P];exact⟨rfl,h⟩
   .rw[if_neg e,z.1,z1b λy=>e (za6 y)];exact z
def UK.put{H:Hp}{kvs:List (U × U)}{xs:List (U × Addr × Value)}(r:UK H kvs xs){k u:U}{b:Addr}{v:V}{x:Value}(hk:tk k=true/\Ur H k (.ref b))(h:Ur H u v)(hx:z0y v x):UK H (z40 kvs k u) (storedH xs k b x):=by
 unfold z40 storedH;rw[(r.val k).some_eq];cases e:(atKey xs k).isSome with
 |false=>rw[if_neg y0s];exact Paired.snoc r ⟨rfl,hk,v,h,hx⟩
 |true =>
  rw[if_pos rfl];clear e;unfold UK at r;induction r with
  |nil=>exact .nil
  |@cons p q ps qs z t ih =>
   refine .cons ?_ ih;unfold putAt;by_cases e:q.1=k
   .have e2:eqU p.1 k=true:=by rw[z.1,e,z0P]
    simp only[if_pos e,e2,cond_true];exact⟨z.1,z.2.1,v,h,hx⟩
   .have e2:eqU p.1 k=false:=by rw[z.1,z1b e]
    simp only[if_neg e,e2,cond_false];exact z
def z5n(kvs:List (U × U))(k v:U):(z40 kvs k v).length<=kvs.length+1:=by
 unfold z40;cases(z0t kvs k).isSome
 .simp
 .show(kvs.map _).length<=_;rw[y01];lia
def KsR.del{H:Hp}{kvs:List (U × U)}{vs:List (Key × V)}(r:KsR H kvs vs)(k:Key):KsR H (z90 kvs (kU k)) (z7u vs k):=by
 unfold KsR at r;unfold z90 z7u;induction r with
 |nil=>exact .nil
 |@cons p q ps qs z t ih =>
  by_cases e:q.1=k
  .rw[y1u (by simp[z.1,e,z0P]),y1u (by simp[e])];exact ih
  .rw[y1v (by simp[z.1,z1b λy=>e (za6 y)]),y1v (by simp[e])];exact .cons z ih
def UK.del{H:Hp}{kvs:List (U × U)}{xs:List (U × Addr × Value)}(r:UK H kvs xs)(k:U):UK H (z90 kvs k) (xs.filter λx=>decide (x.1≠k)):=by
 unfold UK at r;unfold z90;induction r with
 |nil=>exact .nil
 |@cons p q ps qs z t ih =>
  by_cases e:q.1=k
  .rw[y1u (by simp[z.1,e,z0P]),y1u (by simp[e])];exact ih
  .rw[y1v (by simp[z.1,z1b e]),y1v (by simp[e])];exact .cons z ih
section
variable{X:Cx}{pins:yyP}{σ:St}{H:Hp}{s:Shared}{a b:Addr}{xs:List (U × Addr × Value)}{kvs:List (U × U)}
def z6l(I:Inv X pins σ H s)(e:H a=some (zeO a xs))(r:UK H kvs xs):(a==sysModules)=false/\s.heap.DictOfH (zdk X.prog) a xs:=by
 obtain⟨⟨hs,o,es,ep,h1,h2,h3,h4,h5⟩,h6,h7⟩:=I.hok a _ e;refine⟨hs,o,es,ep,h1,h2,h3,h4,?_,h5⟩;clear h4 h5 e h6 h7;unfold UK at r;induction r with
 |nil=>intro x hx;exact nomatch hx
 |@cons p q ps qs hq t ih =>
  intro x hx;rcases y0k.mp hx with e|hx
  .subst e;have k:=hq.2.1.1;rw[<-hq.1];exact⟨Ur.hu I.hok (zgi (z46 k).2.1) hq.2.1.2 rfl,k⟩
  .exact ih x hx
def z3v(I:Inv X pins σ H s){k:U}(hk:tk k=true)(h:Ur H k (.ref b)):(zdk X.prog).is s.heap k b:=⟨Ur.hu I.hok (zgi (z46 hk).2.1) h rfl,hk⟩
def z3l{P:Program}{w:World}{h':Heap}{H':Hp}(hs:(a==sysModules)=false)(dd:h'.DictOfH (zdk P) a xs):z0K P w H' h' a (zeO a xs):=by obtain⟨o,es,ep,h1,h2,h3,h4,_,h5⟩:=dd;refine⟨⟨hs,o,es,ep,h1,h2,h3,h4,h5⟩,⟨o,h1⟩,λg1 g2 p k=>?_⟩;obtain⟨p0,o1,es1,ep1,p1,p2⟩:=p;exact⟨p0,o1,es1,ep1,k _ p1,p2⟩
def z7M(I:Inv X pins σ H s){t:Bool}(h:z98 H a kvs t):s.TypeIs (.ref a) "dict"/\(∀b,Value.ref a=.ref b->∃ob,s.heap.get? b=some ob/\ob.dict=none):=by
 cases t
 .obtain⟨vs,e,_⟩:=h;obtain⟨t1,t2,_⟩:=zgS I (.inl ⟨vs,.inl e⟩);exact⟨t1,t2⟩
 .obtain⟨xs,e,r,_⟩:=h;obtain⟨_,dd⟩:=z6l I e r;refine⟨dd.typeIs,λb q=>?_⟩;cases q;obtain⟨ob,_,_,h1,h2,_⟩:=dd;exact⟨ob,h1,h2.2.1⟩
def zfR{A:Around}{E:yyE}{t:Bool}{k v:U}{y:V}{u:Value}{Q:yyE}(hu:A.units+9<cLine)(hw:X.w=WW.w)(I:Inv X pins σ H s)(d:z98 H a kvs t)(hk:kok t k=true)(uk:Ur H k y)(ry:z0y y u)(hv:z0t kvs k=some v)(h:∀z w' s',Inv X pins σ H s'->Ur H v z->z0y z w'->Q w' s') : wpAny (model X.prog X.w) A (getItem (.ref a) u) Q E s:=by
 cases t
 .obtain⟨vs,e,r⟩:=d;obtain⟨q,rfl,rfl⟩:=z1r hk uk;have z:=r.val q;rw[hv]at z;generalize ho:z7m vs q=o at z;cases z with
  |yes z=>exact z9z (by lia) I (by rw[<-ho];exact zbB.k e) ry λw' s' I' rw'=>h _ w' s' I' z rw'
 .obtain⟨xs,e,r,_⟩:=d;obtain⟨b,rfl⟩:=z4n hk uk;cases(show u=Value.ref b from ry);obtain⟨_,dd⟩:=z6l I e r;have z:=r.val k;rw[hv]at z;generalize ho:atKey xs k=o at z;cases z with
  |yes z1 z2 =>
   rw[hw];exact wpAny_getItem_heap (show A.units+1+8<cLine by lia) (z3v I hk uk) dd ho (h _ _ _ (I.tok _) z1 z2)
def zhs{A:Around}{E:yyE}{t:Bool}{k:U}{y:V}{u:Value}{Q:yyE}(hu:A.units+9<cLine)(hw:X.w=WW.w)(I:Inv X pins σ H s)(d:z98 H a kvs t)(hk:kok t k=true)(uk:Ur H k y)(ry:z0y y u) : ((∀s',Inv X pins σ H s'->Q (.bool (z0t kvs k).isSome) s')->wpAny (model X.prog X.w) A (compareOp .In u (.ref a)) Q E s)/\((∀s',Inv X pins σ H s'->Q (.bool (!(z0t kvs k).isSome)) s')->wpAny (model X.prog X.w) A (compareOp .NotIn u (.ref a)) Q E s):=by
 cases t
 .obtain⟨vs,e,r⟩:=d;obtain⟨q,rfl,rfl⟩:=z1r hk uk;rw[(r.val q).some_eq];exact⟨λh=>zlN (by lia) I (zbB.k e) ry h,λh=>zf8 (by lia) I (zbB.k e) ry h⟩
 .obtain⟨xs,e,r,_⟩:=d;obtain⟨b,rfl⟩:=z4n hk uk;cases(show u=Value.ref b from ry);obtain⟨hs,dd⟩:=z6l I e r;rw[(r.val k).some_eq,hw];exact⟨λh=>wpAny_in_heap (show A.units+1+8<cLine by lia) (z3v I hk uk) hs dd (h _ (I.tok _)),λh=>PyProof.Rows.wpAny_notIn_heap (show A.units+1+8<cLine by lia) (z3v I hk uk) hs dd (h _ (I.tok _))⟩
def zfp{A:Around}{E:yyE}{t:Bool}{k v:U}{y z:V}{u r:Value}{Q:Unit->Shared->Prop}(hu:A.units+9<cLine)(hw:X.w=WW.w)(I:Inv X pins σ H s)(d:z98 H a kvs t)(hk:kok t k=true)(uk:Ur H k y)(ry:z0y y u)(uv:Ur H v z)(rz:z0y z r)(hl:kvs.length<sizeLine)(h:∀o s',Inv X pins σ (upd H a o) s'->Kp H (upd H a o)->z98 (upd H a o) a (z40 kvs k v) t->Q () s'):wpAny (model X.prog X.w) A (setItem (.ref a) u r) Q E s:=by
 cases t
 .obtain⟨vs,e,rr⟩:=d;obtain⟨q,rfl,rfl⟩:=z1r hk uk;have kp:Kp H (upd H a (.dK (z6C vs q z))):=.put e (λ_ z=>by cases z) λ_ _ z=>by cases z
  exact zaT (by lia) I (zj0.k e (by rw[<-rr.len];exact hl)) ry rz λs' I'=>h _ s' I' kp ⟨_,z0a,Paired.mapP (rr.put q uv) λ_ _ z=>⟨z.1,z.2.mono kp⟩⟩
 .obtain⟨xs,e,rr,hz⟩:=d;obtain⟨b,rfl⟩:=z4n hk uk;cases(show u=Value.ref b from ry);obtain⟨hs,dd⟩:=z6l I e rr;have kp:∀o,Kp H (upd H a o):=λo=>.put e (λ_ z=>by cases z) λ_ _ z=>by cases z
  have hlen:xs.length<=sizeLine:=by rw[<-y1t rr];exact hz
  have:=@wpAny_setItem_heap (hsz:=hlen) (prog:=X.prog) (w:=WW.w) (A:=A) (E:=E) (s:=s) (v:=r) (Q:=Q) _ _ _ _ _ _ _ (show A.units+1+8<cLine by lia) (z3v I hk uk) dd λh' dd' hsb=>by have he:∃q,h'.get? a=some q:=let⟨q,_,_,hq,_⟩:=dd';⟨q,hq⟩;refine h _ _ (z1H I (by rw[e];exact y16) hsb he (z3l hs dd')) (kp _) ⟨_,z0a,Paired.mapP (rr.put ⟨hk,uk⟩ uv rz) λ_ _ ⟨z1,z2,v,z3,z4⟩=>⟨z1,⟨z2.1,z2.2.mono (kp _)⟩,v,z3.mono (kp _),z4⟩,?_⟩;have:=z5n kvs k v;lia
  rw[hw];exact this
end
open PySem L2 PySem.SeqAt PySem.Spec
variable[WW]
def z4F(S:Sto)(u:U)(k:Addr->Bool->List (U × U)->Prop):Prop:=match u with
 |.ref a=>∃t kvs,S a=some (.dic t kvs)/\k a t kvs
 |_=>False
def z4F.ex{S:Sto}{u:U}{k:Addr->Bool->List (U × U)->Prop}(h:z4F S u k):∃a t kvs,u=.ref a/\S a=some (.dic t kvs)/\k a t kvs:=by cases u<;>simp only[z4F]at h;obtain⟨t,kvs,h1,h2⟩:=h;exact⟨_,t,kvs,rfl,h1,h2⟩
def zlm:WF:=λd k S Q=>z4F S d λ_ t kvs=>kok t k=true/\opt (z0t kvs k) λv=>Q v S
def zkP(no:Bool):WF:=λk d S Q=>z4F S d λ_ t kvs=>kok t k=true/\Q (.bl ((z0t kvs k).isSome != no)) S
def z6q{prog:Program}{w:World}{A:Around}{E:yyE}{s:Shared}{value slice:Expr}{o i:Value}{Q:yyE}(hT:s.TypeIs o "dict")(hs:subscripted slice false o i=operate [o,i] (getItem o i))(h:wpAny (model prog w) A (getItem o i) Q E s):wpAny (model prog w) A (PyProof.Rows.subscriptTail value slice o i) Q E s:=by
 unfold PyProof.Rows.subscriptTail;refine y00 ?_;rw[getitemInPython_of_ne hT.not_modules];refine y00 (y1T hT PySem.F.slot_dict_getitem.lookup ?_);have fin:wpAny (model prog w) A (subscripted slice false o i) (λr s₃=>wpAny (model prog w) A (letTemporaryGo value o r>>=λ_=>pure r) Q E s₃) E s:=by rw[hs];exact wpAny_operating (y0B h (λr s₃ h₃=>y00 (wpAny_letTemporaryGo (y03 h₃))) λ_ _ x=>x)
 first
  |exact y03 (y00 fin)
  |exact y00 (y03 (y00 fin))
  |exact y00 fin
section
variable{xa:Nat->Addr}{X:Cx}{xk:St->XK}{a c o i e value:Expr}{td tv:WE}{pos pos':Pos}
def z8G(hu:X.A.units+9<cLine)(hw:X.w=WW.w):IxR X (rW zlm):=by rintro value slice pins s σ H v1 v2 x1 x2 Q' I r1 r2 ⟨hd,x,y,S,Q,r,u1,u2,c,h⟩ hs;obtain⟨a,t,kvs,rfl,hS,hk,h⟩:=h.ex;obtain⟨v,hv,q⟩:=h.ex;obtain rfl:=urR u1;cases(show x1=Value.ref a from r1);have dr:=r.1 _ _ hS;refine z6q (z7M I dr).1 hs (zfR hu hw I dr hk u2 r2 hv λz w' s' I' uz rz=>⟨z,H,I',rz,c.put r uz q⟩)
def z8Y(hu:X.A.units+9<cLine)(hw:X.w=WW.w):OpR X (compareOp .In) (rW (zkP false))/\OpR X (compareOp .NotIn) (rW (zkP true)):=by
 constructor <;>
 .rintro pins s σ H v1 v2 x1 x2 Q' I r1 r2 ⟨hd,x,y,S,Q,r,u1,u2,c,h⟩;obtain⟨a,t,kvs,rfl,hS,hk,q⟩:=h.ex;obtain rfl:=urR u2;cases(show x2=Value.ref a from r2);have dr:=r.1 _ _ hS;have z:=zhs (Q:=EP X pins σ Q') (E:=X.xe) hu hw I dr hk u1 r1;first
   |exact z.1 λs' I'=>⟨.bl _,H,I',rfl,c.put r uB (by simpa using q)⟩
   |exact z.2 λs' I'=>⟨.bl _,H,I',rfl,c.put r uB (by simpa using q)⟩
def SE.run{e:Expr}{t:WE}{pins:yyP}{s:Shared}{σ:St}{H:Hp}{hd:Hd}{ρ:En}{S:Sto}{Q:Kq U}{E:Xq}(h:SE xa X xk e t)(I:Inv X pins σ H s)(en:EnR H ρ σ)(r:Rep hd S H)(q:t ρ S Q E)(cx:Cx' xa (xk σ) hd H E) : wpAny (model X.prog X.w) X.A (eval e X.env) (λv s1=>∃x y H1 S1,Inv X pins σ H1 s1/\z0y y v/\Kp H H1/\Rep hd S1 H1/\Ur H1 x y/\Q x S1) X.xe s :=
 thn (h pins s σ H (λy H1=>Kp H H1/\∃x S1,Rep hd S1 H1/\Ur H1 x y/\Q x S1) I ⟨hd,ρ,S,Q,E,en,r,q,λx S1 y H1 k1 r1 u1 q1=>⟨k1,x,S1,r1,u1,q1⟩,cx⟩) λv s1 ⟨y,H1,I1,rv,k1,x,S1,r1,u1,q1⟩=>⟨x,y,H1,S1,I1,rv,k1,r1,u1,q1⟩
def zlJ(td tk tv:WE):WS:=λρ S W E=>tv ρ S (λv S1=>td ρ S1 (λx S2=>tk ρ S2 (λk S3=>z4F S3 x λa t kvs=>kok t k=true/\kvs.length<sizeLine/\W.nx ρ (up S3 a (.dic t (z40 kvs k v)))) (E ρ)) (E ρ)) (E ρ)
def z7P{tk:WE}(hu:X.A.units+9<cLine)(hw:X.w=WW.w)(ho:SE xa X xk o td)(hi:SE xa X xk i tk)(hv:SE xa X xk value tv)(hs:swapsWith value (some (.Subscript o i pos')) pos.line X.env=pure false:=by rfl):SS xa xk X (.Assign [.Subscript o i pos'] value pos) (zlJ td tk tv):=by intro pins s σ H D I ⟨hd,ρ,S,W,E,en,r,h,c⟩;refine wpAny_Assign_Subscript (thn (hv.run I en r h (c.at en)) λrv s1 hz8=>?_) hs;obtain⟨x,v,H1,S1,I1,rr,k1,r1,u1,q1⟩:=hz8;refine thn (ho.run I1 (en.mono k1) r1 q1 ((c.mono k1).at (en.mono k1))) λov s2 hz8=>?_;obtain⟨y,w,H2,S2,I2,rw2,k2,r2,u2,q2⟩:=hz8;have k12:=k1.trans k2;refine thn (hi.run I2 (en.mono k12) r2 q2 ((c.mono k12).at (en.mono k12))) λiv s3 hz8=>?_;obtain⟨k,z,H3,S3,I3,rz,k3,r3,u3,q3⟩:=hz8;obtain⟨a,t,kvs,rfl,hS,hk,hl,q⟩:=q3.ex;obtain rfl:=urR u2;cases(show ov=Value.ref a from rw2);refine zfp hu hw I3 (r3.1 _ _ hS) hk u3 rz ((u1.mono k2).mono k3) rr hl λob s4 I4 k4 d4=>⟨σ,_,I4,?_⟩;have kk:=k12.trans (k3.trans k4);exact c.nx ρ _ σ _ kk (en.mono kk) (r3.up (o:=.dic t _) k4 (.inr (by rw[hS];exact λz=>by cases z)) d4) q
end
open PySem L2 PySem.SeqAt PySem.Spec
variable[WW]
section
variable{X:Cx}{pins:yyP}{σ:St}{H:Hp}{s:Shared}{a b:Addr}{kvs:List (U × U)}{A:Around}{E:yyE}{t:Bool}{k:U}{y:V}{u:Value}
def zcG{Q:yyE}(hu:A.units+9<cLine)(hw:X.w=WW.w)(I:Inv X pins σ H s)(d:z98 H a kvs t)(hk:kok t k=true)(uk:Ur H k y)(ry:z0y y u)(h:∀z w' s',Inv X pins σ H s'->Ur H ((z0t kvs k).getD .non) z->z0y z w'->Q w' s') : wpAny (model X.prog X.w) A (call (.builtin "dict.get") [.ref a,u]) Q E s:=by
 cases t
 .obtain⟨vs,e,r⟩:=d;obtain⟨q,rfl,rfl⟩:=z1r hk uk;refine zhl (by lia) I (zbB.k e) ry λw' s' I' rw'=>h _ w' s' I' ?_ rw';have z:=r.val q;revert z;generalize z0t kvs (kU q)=o1;generalize z7m vs q=o2;rintro(_|z)
  .exact rfl
  .exact z
 .obtain⟨xs,e,r,_⟩:=d;obtain⟨b,rfl⟩:=z4n hk uk;cases(show u=Value.ref b from ry);obtain⟨hs,dd⟩:=z6l I e r;have z:=r.val k;rw[hw];refine call_meetsIn y2i dd.typeIs y2R (y2H _ _) (meetsH_dict_get (zdk X.prog) a b hs) ⟨show A.units+1+8<cLine by lia,k,xs,z3v I hk uk,dd,?_⟩;revert z;generalize hu1:z0t kvs k=o1;generalize ho:atKey xs k=o2;rw[hu1]at h;intro z;cases z with
  |no=>exact h .non _ _ (I.tok _) (by simp only[Option.getD_none,Ur]) rfl
  |yes z1 z2=>exact h _ _ _ (I.tok _) z1 z2
def zf4{Q:Unit->Shared->Prop}(hu:A.units+9<cLine)(hw:X.w=WW.w)(I:Inv X pins σ H s)(d:z98 H a kvs t)(hk:kok t k=true)(uk:Ur H k y)(ry:z0y y u)(l:(z0t kvs k).isSome=true)(h:∀o s',Inv X pins σ (upd H a o) s'->Kp H (upd H a o)->z98 (upd H a o) a (z90 kvs k) t->Q () s'):wpAny (model X.prog X.w) A (delItem (.ref a) u) Q E s:=by
 cases t
 .obtain⟨vs,e,rr⟩:=d;obtain⟨q,rfl,rfl⟩:=z1r hk uk;have kp:Kp H (upd H a (.dK (z7u vs q))):=.put e (λ_ z=>by cases z) λ_ _ z=>by cases z
  exact zaX I e ry (by rw[<-(rr.val q).some_eq];exact l) λs' I'=>h _ s' I' kp ⟨_,z0a,Paired.mapP (rr.del q) λ_ _ z=>⟨z.1,z.2.mono kp⟩⟩
 .obtain⟨xs,e,rr,hz⟩:=d;obtain⟨b,rfl⟩:=z4n hk uk;cases(show u=Value.ref b from ry);obtain⟨hs,dd⟩:=z6l I e rr;have kp:∀o,Kp H (upd H a o):=λo=>.put e (λ_ z=>by cases z) λ_ _ z=>by cases z
  have hlen:xs.length<=sizeLine:=by rw[<-y1t rr];exact hz
  obtain⟨j,p,hj⟩:∃(j:Nat)(p:Addr × Value),xs[j]?=some (k,p):=by
   have z:=(rr.val k).some_eq;rw[l]at z;unfold atKey at z;rw[y2V]at z;obtain⟨x,hx⟩:=y2y.mp z.symm;have hk2:=List.find?_some hx;obtain⟨j,hj⟩:=List.getElem?_of_mem (List.mem_of_find?_eq_some hx);obtain⟨x1,x2⟩:=x;have hk2:x1=k:=by simpa using hk2
   subst hk2;exact⟨j,x2,hj⟩
  rw[hw];refine wpAny_delItem_slot dd.typeIs (by decide) y1P (y0Q y1P dd.typeIs PySem.F.entry_dict_delitem ?_ (PySem.F.args_dict_delitem_2 _ _));unfold Builtin.«dict.__delitem__»;refine y00 ?_;unfold Builtin.Dict.dictSlotArgs;refine y00 (wpAny_notOrdered_dict dd.typeIs ?_);refine y03 ?_;show wpAny _ _ (Builtin.Dict.takeOut a (.ref b)>>=_) _ _ s;refine y00 (z59 (show A.units+1+8<cLine by lia) (z3v I hk uk) dd hj hlen λen h' dd' hs'=>?_);refine y00 (wpAny_letGo (y03 ⟨.none,rfl,?_⟩));have he:∃q,h'.get? a=some q:=let⟨q,_,_,hq,_⟩:=dd';⟨q,hq⟩;refine h _ _ (z1H I (by rw[e];exact y16) hs' he (z3l hs dd')) (kp _) ⟨_,z0a,Paired.mapP (rr.del k) λ_ _ ⟨z1,z2,v,z3,z4⟩=>⟨z1,⟨z2.1,z2.2.mono (kp _)⟩,v,z3.mono (kp _),z4⟩,?_⟩;exact y0e (y31 _ _) hz
def zeV(I:Inv X pins σ H s):∃o,Inv X pins σ (upd H s.heap.objs.size o) { s with heap:=s.heap.push { cls:=.type "dict",data:=.dict #[] } }/\Kp H (upd H s.heap.objs.size o)/\z98 (upd H s.heap.objs.size o) s.heap.objs.size [] t:=by
 cases t
 .exact⟨.dK [],I.laid (a:=s.heap.objs.size) (o:=.dK []) (t':=s.toks) (λ_ _ q=>y02 _ q) (y09 _) (z5m s.heap I.big),.new I.fresh,[],z0a,.nil⟩
 .have hb:(s.heap.objs.size==sysModules)=false:=y1B.mpr (y0N (y0i I.big));exact⟨zeO s.heap.objs.size [],I.laid (a:=s.heap.objs.size) (o:=zeO s.heap.objs.size []) (t':=s.toks) (λ_ _ q=>y02 _ q) (y09 _) (z3l hb (Heap.DictOfH.new s.heap)),.new I.fresh,[],z0a,.nil,y1r _⟩
end
section
variable{xa:Nat->Addr}{X:Cx}{xk:St->XK}{o i e f value:Expr}{td tk tv:WE}{pos pos' tpos apos cpos:Pos}
def zjf(td tk:WE):WE:=λρ S Q E=>td ρ S (λx S1=>z4F S1 x λa _ _=>tk ρ S1 (λk S2=>z4F S2 x λ_ t kvs=>kok t k=true/\Q ((z0t kvs k).getD .non) S2) E) E
def zfb(hu:X.A.units+9<cLine)(hw:X.w=WW.w)(ho:SE xa X xk o td)(he:SE xa X xk e tk)(m:M1 X o "get" apos e cpos):SE xa X xk (.Call (.Attribute o "get" apos) [e] [] cpos) (zjf td tk):=by intro pins s σ H Q' I ⟨hd,ρ,S,Q,E,en,r,h,c⟩;refine wpAny_Call_method m.base m.few m.line PySem.F.plainAttrs_dict y2i PySem.F.type_dict_get (thn (ho.run I en r h c.ex) λov s1 hz8=>?_);obtain⟨x,v,H1,S1,I1,rv,k1,r1,u1,q1⟩:=hz8;obtain⟨a,t,kvs,rfl,hS,q1⟩:=q1.ex;obtain rfl:=urR u1;cases(show ov=Value.ref a from rv);obtain⟨t1,t2⟩:=z7M I1 (r1.1 _ _ hS);refine⟨t1,t2,?_⟩;rw[m.trees];refine y2Q rfl (y3a (Calls.spliced_cons (thn (he.run I1 (en.mono k1) r1 q1 (c.mono k1).ex) λiv s2 ⟨k,y,H2,S2,I2,ry,k2,r2,u2,q2⟩=>Calls.spliced_nil ?_)));obtain⟨t,kvs,hS2,hk,q⟩:=q2;exact zcG hu hw I2 (r2.1 _ _ hS2) hk u2 ry λz w' s3 I3 uz rz=>⟨z,H2,I3,rz,c.ok _ S2 _ H2 (k1.trans k2) r2 uz q⟩
def zlC(td tk:WE):WS:=λρ S W E=>td ρ S (λx S1=>tk ρ S1 (λk S2=>z4F S2 x λa t kvs=>kok t k=true/\(z0t kvs k).isSome=true/\W.nx ρ (up S2 a (.dic t (z90 kvs k)))) (E ρ)) (E ρ)
def zib(hu:X.A.units+9<cLine)(hw:X.w=WW.w)(ho:SE xa X xk o td)(hi:SE xa X xk i tk):SS xa xk X (.Delete [.Subscript o i tpos] pos) (zlC td tk):=by intro pins s σ H D I ⟨hd,ρ,S,W,E,en,r,h,c⟩;refine wpAny_Delete (wpAny_deleteEach_cons (wpAny_delete_Subscript (thn (ho.run I en r h (c.at en)) λov s1 ⟨x,v,H1,S1,I1,rv,k1,r1,u1,q1⟩=>thn (hi.run I1 (en.mono k1) r1 q1 ((c.mono k1).at (en.mono k1))) λiv s2 hz8=>?_)));obtain⟨k,y,H2,S2,I2,ry,k2,r2,u2,q2⟩:=hz8;obtain⟨a,t,kvs,rfl,hS,hk,hl,q⟩:=q2.ex;obtain rfl:=urR u1;cases(show ov=Value.ref a from rv);refine zf4 hu hw I2 (r2.1 _ _ hS) hk u2 ry hl λob s3 I3 k3 d3=>wpAny_deleteEach_nil ⟨σ,_,I3,?_⟩;have kk:=k1.trans (k2.trans k3);exact c.nx ρ _ σ _ kk (en.mono kk) (r2.up (o:=.dic t _) k3 (.inr (by rw[hS];exact λz=>by cases z)) d3) q
def zjX(t:Bool):WE:=λ_ S Q _=>nw (.dic t []) S Q
def z6N(t:Bool):SE xa X xk (.Dict [] [] pos) (zjX t):=by intro pins s σ H Q' I ⟨hd,ρ,S,Q,E,en,r,h,c⟩;obtain⟨ob,I1,k1,d1⟩:=zeV (t:=t) I;exact wpAny_Dict_empty ⟨.ref s.heap.objs.size,_,I1,rfl,c.ok _ _ _ _ k1 (r.up (o:=.dic t []) k1 (.inl I.fresh) d1) (by simp only[Ur]) (h _ (r.none I.fresh))⟩
def zcl(f:Str)(v:U):List (Str × U)->List (Str × U)
 |[]=>[(f,v)]
 | (g,x)::r=>if g=f then(g,v)::r else(g,x)::zcl f v r
def FsR.put{H:Hp}{fs:List (Str × U)}{vs:List (Str × V)}(h:FsR H fs vs)(f:Str){u:U}{v:V}(r:Ur H u v):FsR H (zcl f u fs) (z5r f v vs):=by
 unfold FsR at h;induction h with
 |nil=>exact .cons ⟨rfl,r⟩ .nil
 |@cons p q ps qs h t ih =>
  obtain⟨g,x⟩:=p;obtain⟨g',y⟩:=q;obtain⟨rfl,h2⟩:=h;unfold zcl z5r;by_cases e:g=f
  .rw[if_pos e,if_pos e];exact .cons ⟨rfl,r⟩ t
  .rw[if_neg e,if_neg e];exact .cons ⟨rfl,h2⟩ ih
def zjY(f:Str)(C:Addr)(t tv:WE):WS:=λρ S W E=>tv ρ S (λv S1=>t ρ S1 (λx S2=>match x with
 |.ref a=>∃fs,S2 a=some (.ins C fs)/\fs.length<1000/\W.nx ρ (up S2 a (.ins C (zcl f v fs)))
 |_=>False) (E ρ)) (E ρ)
def z7Q{f:Str}{C:Addr}{t:WE}(hc:Cls X.K C)(hn:z2p X.K C f)(ho:SE xa X xk o t)(hv:SE xa X xk value tv)(hs:swapsWith value (some (.Attribute o f pos')) pos.line X.env=pure false:=by rfl):SS xa xk X (.Assign [.Attribute o f pos'] value pos) (zjY f C t tv):=by
 intro pins s σ H D I ⟨hd,ρ,S,W,E,en,r,h,c⟩;refine plainObj_wpAny_Assign_Attribute (thn (hv.run I en r h (c.at en)) λuv s1 ⟨x,v,H1,S1,I1,rv,k1,r1,u1,q1⟩=>thn (ho.run I1 (en.mono k1) r1 q1 ((c.mono k1).at (en.mono k1))) λov s2 hz8=>?_) hs;obtain⟨y,w,H2,S2,I2,rw2,k2,r2,u2,q2⟩:=hz8;cases y<;>simp only at q2;obtain⟨fs,hS,hl,q⟩:=q2;obtain rfl:=urR u2;rename_i a;cases(show ov=Value.ref a from rw2);obtain⟨dx,vs,eH,l⟩:=r2.1 _ _ hS;have kp:∀o,Kp H2 (upd H2 a o):=λo=>.put eH (λ_ z=>by cases z) λ_ _ z=>by cases z
 refine z8U I2 eH hc hn (by rw[<-y1t l];exact hl) rv λs3 I3=>⟨σ,_,I3,?_⟩;have kk:=k1.trans (k2.trans (kp (.ins C dx (z5r f v vs))));exact c.nx ρ _ σ _ kk (en.mono kk) (r2.up (o:=.ins C _) (kp _) (.inr (by rw[hS];exact λz=>by cases z)) ⟨dx,_,z0a,Paired.mapP (l.put f (u1.mono k2)) λ_ _ z=>⟨z.1,z.2.mono (kp _)⟩⟩) q
def zdT(i:Nat){x:Str}{op:Operator}{te:WE}{g:WF}(hN:X.N.Nodup)(he:SE xa X xk e te)(ho:OpR X (inplaceOp op) (rW g))(hi:X.N[i]?=some x:=by rfl)(hx:Loc X.env.scope x:=by first|exact Or.inl rfl|exact Or.inr rfl)(hf:X.fn x=true\/X.env.scope.names.lookup x=some .local:=by first|exact .inl rfl|exact .inr rfl|assumption):SS xa xk X (.AugAssign (.Name x pos') op e pos) (zlr i g te) :=
 PS.weak (zhU (ti:=rW g) hN hi hx he ho hf) λD σ H ⟨hd,ρ,S,W,E,en,r,h,c⟩=>by obtain⟨u,hu,h⟩:=h.ex;obtain⟨v,hv,uv⟩:=en.2 i u hu;exact⟨v,hv,hd,ρ,S,_,E ρ,en,r,h,λy S1 y' H1 k1 r1 u1 q1=>⟨hd,u,y,S1,_,r1,uv.mono k1,u1,λz S2 z' H2 k2 r2 u2 q2=>c.nx _ S2 _ H2 (k1.trans k2) ((en.mono (k1.trans k2)).set i u2) r2 q2,q1⟩,c.at en⟩
def zhD:WF
 |.int i,.int j,S,Q=>Q (.int (i+j)) S
 |_,_,_,_=>False
def ze9:OpR X (inplaceOp .Add) (rW zhD):=by rintro pins s σ H v1 v2 x1 x2 Q' I r1 r2 ⟨hd,x,y,S,Q,r,u1,u2,c,h⟩;cases x<;>cases y<;>simp only[zhD]at h;obtain rfl:=urI u1;obtain rfl:=urI u2;exact zfC pins s σ H _ _ _ _ _ I r1 r2 ⟨_,_,rfl,rfl,c.put r uI h⟩
def z7q{x:Str}{u:U}{v:Value}(hm:X.mg x=some v)(hr:∀H,∃y,Ur H u y/\z0y y v)(hg:Gl X x:=by rfl)(hd:(x==("__debug__":Str))=false:=by decide):SE xa X xk (.Name x pos) (wC u):=λpins s σ H Q' I h=>by obtain⟨y,h1,h2⟩:=hr H;exact z23 I hg hm ⟨y,H,I,h2,ziK h h1⟩ hd
def zb8(x:U)(us:List U)(S:Sto)(Q:Kq U):Prop:=match x,us with
 |.ref a,[]=>∃us,S a=some (.lst us)/\Q .non (up S a (.lst []))
 |_,_=>False
def zgh:MtR X "list.clear" (rM zb8):=by
 rintro pins s σ H v vs x xs Q' I r1 r2 ⟨hd,y,us,S,Q,r,u1,u2,c,h⟩;unfold zb8 at h;split at h
 .obtain rfl:=urR u1;simp only[UrL]at u2;subst u2;obtain⟨us,hS,q⟩:=h;obtain⟨ws,e,l⟩:=r.1 _ _ hS;exact zct pins s σ H _ _ _ _ _ I r1 r2 ⟨_,ws,rfl,rfl,e,c.wr r (by rw[hS];exact λz=>nomatch z) e .nil (by simp only[Ur]) q⟩
 .exact h.elim
end
open PySem L2 PySem.SeqAt PySem.Spec
variable[WW]
def zbH(S:Sto)(u:U)(k:Addr->Nat->En->Prop):Prop:=match u with
 |.ref a=>∃i ρ,S a=some (.clo i ρ)/\k a i ρ
 |_=>False
def zbH.ex{S:Sto}{u:U}{k:Addr->Nat->En->Prop}(h:zbH S u k):∃a i ρ,u=.ref a/\S a=some (.clo i ρ)/\k a i ρ:=by cases u<;>simp only[zbH]at h;obtain⟨t,kvs,h1,h2⟩:=h;exact⟨_,t,kvs,rfl,h1,h2⟩
def oC:Option Ob->Bool
 |some (.clo _ _)=>true
 |_=>false
def nc(S:Sto):Sto:=λa=>cond (oC (S a)) none (S a)
def mgC(S S':Sto):Sto:=λa=>cond (oC (S a)) (S a) (cond (oC (S' a)) none (S' a))
def zdO{S S':Sto}{a:Addr}{o:Ob}(h:mgC S S' a=some o):(isC o=true/\S a=some o)\/(isC o=false/\S' a=some o):=by
 unfold mgC at h;cases e:oC (S a)with
 |true =>
  rw[e]at h;refine .inl ⟨?_,h⟩;have h:S a=some o:=h;rw[h]at e;cases o<;>first|rfl|cases e
 |false =>
  rw[e]at h;cases e2:oC (S' a)with
  |true=>rw[e2]at h;cases h
  |false =>
   rw[e2]at h;have h:S' a=some o:=h;refine .inr ⟨?_,h⟩;rw[h]at e2;cases o<;>first|rfl|cases e2
def zhW{S:Sto}{a:Addr}{o:Ob}(h:nc S a=some o):isC o=false/\S a=some o:=by
 unfold nc at h;cases e:oC (S a)with
 |true=>rw[e]at h;cases h
 |false =>
  rw[e]at h;have h:S a=some o:=h;refine⟨?_,h⟩;rw[h]at e;cases o<;>first|rfl|cases e
def z89{S S':Sto}{a:Addr}(h:S a=none)(h':S' a=none):mgC S S' a=none:=by unfold mgC;rw[h,h'];rfl
def zeG{S:Sto}{a:Addr}(h:S a=none):nc S a=none:=by unfold nc;rw[h];rfl
def ObR.nofr{H:Hp}{a:Addr}{o:Ob}(h:ObR H a o)(n:isC o=false):∀ob,H a≠Option.some (frO ob):=by
 cases o with
 |lst us=>obtain⟨_,e,_⟩:=h;rw[e];exact λ_ z=>by cases z
 |scr us=>obtain⟨_,_,e,_⟩:=h;rw[e];exact λ_ z=>by cases z
 |ins C fs=>obtain⟨_,_,e,_⟩:=h;rw[e];exact λ_ z=>by cases z
 |dic t kvs=>cases t<;>(obtain⟨_,e,_⟩:=h;rw[e];exact λ_ z=>by cases z)
 |pin o xs kvs=>rw[h.1];exact λ_ z=>by cases z
 |thg x=>rw[h.1];exact λ_ z=>by cases z;cases h.2
 |clo i ρ=>cases n
def ObR.clo_frz{H:Hp}{a:Addr}{o:Ob}(h:ObR H a o)(n:isC o=true):∃ob,H a=Option.some (frO ob):=by cases o<;>simp only[isC,y0L]at n;obtain⟨_,⟨_,_,_,_,_,_,_,_,e,_⟩,_⟩:=h;exact⟨_,e⟩
def zhh(i:Nat)(ts:WA):WE:=λρ S Q E=>opt (lk ρ i) λu=>zbH S u λa j cp=>ts ρ S (λus S1=>S1 a=some (.clo j cp)/\us.length=(WW.lam j).ps.length/\WW.rd j (us.map some++cp.drop us.length) S1 Q) E
def lsv(j:Nat)(cp:En):List V->Hp->VK->Prop:=λvs H Q'=>∃hd us S Q,Rep hd S H/\UrL H us vs/\us.length=(WW.lam j).ps.length/\WW.rd j (us.map some++cp.drop us.length) S Q/\Co hd Ur H Q Q'
def zjd(xa:Nat->Addr)(P:Program)(K:yyF)(mg:yyS)(base:Heap)(k:Nat):Prop:=∀j H f cp,ObR H f (.clo j cp)->z5D P WW.w K mg base (CXw xa P WW.w) k H f (lsv j cp)
section
variable{xa:Nat->Addr}{X:Cx}{xk:St->XK}{e:Expr}{es:List Expr}{ts:WA}{x:Str}{p pos:Pos}{k:Nat}
def zdi(i:Nat)(L:zjd xa X.prog X.K X.mg X.base k)(hw:X.w=WW.w)(hr:z1o k X.A)(ha:SA xa X xk (e::es) ts)(hN:X.N[i]?=some x:=by rfl)(hv:Vis X.env.scope x:=by first|exact Or.inl rfl|exact Or.inr (Or.inl rfl)|exact Or.inr (Or.inr rfl))(hd:(x==("__debug__":Str))=false:=by decide)(hcd:(x==("__classdict__":Str))=false:=by decide)(he:starEach (e::es) X.env=(false,eval e X.env)::starEach es X.env:=by rfl)(hpl:(backTo pos (starEach es X.env)).any (·.1)=false:=by rfl):SE xa X xk (.Call (.Name x p) (e::es) [] pos) (zhh i ts) :=
 PE.weak (zdr (CX:=CXw xa X.prog X.w) i hr ha hN hv hd hcd he hpl) λσ H Q' ⟨hd,ρ,S,Q,E,en,r,h,c⟩=>by obtain⟨u,hu,h⟩:=h.ex;obtain⟨a,j,cp,rfl,hS,h⟩:=h.ex;obtain⟨v,hv,uv⟩:=en.2 i _ hu;obtain rfl:=urR uv;obtain⟨fv,⟨_,_,_,_,_,_,_,_,e1,_⟩,_⟩:=id (r.1 _ _ hS);refine⟨a,lsv j cp,hv,⟨_,_,e1,rfl⟩,hd,ρ,S,_,E,en,r,h,λus S1 vs H1 k1 r1 u1 q1=>⟨?_,hd,us,S1,Q,r1,u1,q1.2.1,q1.2.2,c.ok.mono k1⟩,c.ex⟩;rw[hw];exact L j H1 a cp (r1.1 _ _ q1.1)
end
def zfr{H:Hp}{us:List U}{vs:List V}{cp:En}{fv:St}(u:UrL H us vs)(e:EnR H cp fv):EnR H (us.map some++cp.drop us.length) (z4S vs fv):=by
 unfold z4S;have hl:=u.len;refine⟨by simp[e.1,hl],λi x h=>?_⟩;rw[z7N]at h;by_cases hi:i<us.length
 .rw[y0A (by simpa using hi),y0l]at h;cases z:us[i]? with
  |none=>rw[z]at h;cases h
  |some y =>
   rw[z]at h;cases h;obtain⟨v,h1,h2⟩:=u.get z;exact⟨v,by rw[y0A (by rw[y01];lia),y0l,h1];rfl,h2⟩
 .rw[y0E (by simpa using hi),y01,y2a,show us.length+(i-us.length)=i by lia,<-z7N]at h;obtain⟨v,h1,h2⟩:=e.2 i x h;refine⟨v,?_,h2⟩;rw[y0E (by rw[y01];lia),y01,y2a,show vs.length+(i-vs.length)=i by lia];exact h1
def zgV{P:Program}{K:yyF}{mg:yyS}{base:Heap}{xa:Nat->Addr}{k j:Nat}{t:WE}(S:zj2 (WW.lam j).N (WW.lam j).ps (WW.lam j).scope)(hbind:∀(cl:List (Str × Addr)) (pm cdv ct:Value) (us:List Value),us.length=(WW.lam j).ps.length->bindArgs (PySem.W.kla_fn "<lambda>" (WW.lam j).qual (WW.lam j).params (WW.lam j).body (WW.lam j).scope cl pm cdv ct) ⟨us,[]⟩=pure ((WW.lam j).ps.zip us))(hb:∀(f:Addr) (cd:Value) (clos:List (Str × Addr)) (A:Around) (outer:List Env) (s:Shared) (H:Hp),z1o k (A.deeper (PySem.W.envX (WW.lam j).qual (WW.lam j).scope s.heap.objs.size f cd clos))->SE xa (zay P WW.w K mg base (WW.lam j).N (WW.lam j).qual (WW.lam j).scope f cd clos A outer s H) noX (WW.lam j).body t)(hrd:∀ρ S Q,WW.rd j ρ S Q->t ρ (nc S) (λu S1=>Q u (mgC S S1)) noQ)(H:Hp)(f:Addr)(cp:En)(h:ObR H f (.clo j cp)):z5D P WW.w K mg base (CXw xa P WW.w) (k+1) H f (lsv j cp):=by
 obtain⟨fv,C,hfv,en⟩:=h;refine z5D.lam2 C S hbind hfv (λvs H Q' ⟨hd,us,S,Q,r,u,hl,_⟩=>by rw[<-u.len];exact hl) λH' s' A outer s cd clos cs vs Q' hr nf hcs ⟨hd,us,S,Q,r,u,hl,h,c⟩=>⟨_,hb f cd clos A outer s (utk H' cs) hr,?_⟩;have ncs:∀{b:Addr}{o:HO},H' b=some o->(∀ob,o≠frO ob)->b∉cs:=λ{b o} e n z=>by obtain⟨ob,_,q,_⟩:=hcs b z;rw[q]at e;cases e;exact n ob rfl
 have tp:Tp H' (utk H' cs):=λa xs e=>by rw[z0r (ncs e λ_ z=>by cases z)];exact e
 have rp:Rep hd (nc S) (utk H' cs):=by
  refine⟨λa o e=>?_,λp hp=>?_,z1z r.2.2 (λb ps e=>?_) λb oc vs d e=>?_⟩
  .obtain⟨n,e⟩:=zhW e;have q:=r.1 a o e;obtain⟨x,hx⟩:=q.some;exact q.tp n tp (z0r (ncs hx λob z=>q.nofr n ob (by rw[hx,z])))
  .obtain⟨h1,h2,h3⟩:=r.2.1 p hp;exact⟨zeG h1,by rw[z0r (ncs h2 λob z=>by rw[z]at h3;cases h3)];exact h2,h3⟩
  .rw[z0r (ncs e λ_ z=>by cases z)];exact e
  .rw[z0r]
   .exact e
   .intro z;obtain⟨o,u,q,d2⟩:=hcs b z;rw[q]at e;cases e;rw[d]at d2;cases d2
 refine⟨hd,_,nc S,_,noQ,(zfr u (en.mono (.same s'))).tp tp,rp,hrd _ _ _ h,λy S1 v H1 k1 r1 u1 q1 hn=>?_,ziS⟩;have out:∀{b:Addr}{o:HO},H1 b=some o->rtk H' H1 cs b=some o:=λ{b o} e=>by rw[z1C (λz=>by rw[hn b z]at e;cases e)];exact e
 have kp:Kp H' (rtk H' H1 cs):=by
  refine⟨λa xs e=>?_,λa o x e=>?_⟩
  .by_cases z:a∈cs
   .rw[z85 z];exact e
   .rw[z1C z];exact k1.tup _ _ (by rw[z0r z];exact e)
  .by_cases z:a∈cs
   .rw[z85 z];exact e
   .rw[z1C z];exact k1.frz _ _ _ (by rw[z0r z];exact e)
 refine c y (mgC S S1) v _ kp ⟨λa o e=>?_,λp hp=>?_,z1z r1.2.2 (λb ps e=>out e) λb oc vs d e=>out e⟩ (u1.tp λa xs e=>out e) q1
 .rcases zdO e with⟨n,e⟩|⟨n,e⟩
  .have q:=r.1 a o e;obtain⟨ob,hx⟩:=q.clo_frz n;exact q.mono kp (by rw[hx];exact kp.frz _ _ _ hx)
  .have q:=r1.1 a o e;obtain⟨x,hx⟩:=q.some;exact q.tp n (λa xs e=>out e) (by rw[hx];exact out hx)
 .obtain⟨h1,h2,h3⟩:=r.2.1 p hp;obtain⟨g1,g2,_⟩:=r1.2.1 p hp;exact⟨z89 h1 g1,out g2,h3⟩
def ziJ(sp:Wsp)(j:Nat)(ix:List (Option Nat))(t0:WE):WE:=λρ S Q E=>t0 ρ S (λu S1=>∀fa,S1 fa=none->sp [u,.ref fa] (up S1 fa (.clo j (cst ix ρ))) (λv S2=>Q v (mgC S1 S2)) (λc S2=>E c (mgC S1 S2))) E
section
variable{xa:Nat->Addr}{X:Cx}{E0:XK}{N:List Str}{ix:List (Option Nat)}{lpos p pos:Pos}{c:Addr}{T:Tb}{k j:Nat}{sp:Wsp}{x:Str}{e0:Expr}{t0:WE}
def zcm(j:Nat){params:Arguments}{body:Expr}{lsc:Scope}{ps':List Str}(hl:WW.lam j=⟨params,body,lsc,T.qual,N,ps'⟩)(G:Fc X.prog X.w X.K X.mg X.base xa x k sp)(hr:z1o k X.A)(hx:z2C (CXw xa X.prog X.w) X E0)(h0:SE xa X (λ_=>E0) e0 t0)(S:z0N X.N X.env.scope N ix lsc)(hcode:X.env.code=.ref c)(hC:PySem.W.CodeHd X.base c T.at_)(hB:z44 X.base X.mg)(hT:T∈WW.Ts)(hTn:∀T'∈WW.Ts,T'.at_=T.at_->T'=T)(hTp:T.pos=lpos)(hTq:T.qual=X.env.qual++"<lambda>")(hfn:∀y,X.fn y=true:=by intro _;rfl)(hg:Gl X x:=by rfl)(hdef:defaultsOf params X.env=([],[]):=by rfl)(hdb:(x==("__debug__":Str))=false:=by decide)(he:starEach [e0,.Lambda params body lsc lpos] X.env=(false,eval e0 X.env)::starEach [.Lambda params body lsc lpos] X.env:=by rfl)(he2:starEach [.Lambda params body lsc lpos] X.env=(false,eval (.Lambda params body lsc lpos) X.env)::starEach [] X.env:=by rfl)(hpl:(backTo pos (starEach [.Lambda params body lsc lpos] X.env)).any (·.1)=false:=by rfl) : SE xa X (λ_=>E0) (.Call (.Name x p) [e0,.Lambda params body lsc lpos] [] pos) (ziJ sp j ix t0):=by
 obtain⟨f,fd,ps,F,hb,hk,hm⟩:=G.ok;refine PE.weak (zcO F hr hg hm hk hb hx h0 (λσ H Q Q' m ⟨hd,ρ,S,Q0,E,en,r,h,c⟩=>⟨hd,ρ,S,Q0,E,en,r,h,⟨λy S v H' k r u q=>m _ _ (c.ok y S v H' k r u q),c.ex⟩⟩) S hcode hC hB hfn hT hTn hTp hTq hdef hdb he he2 hpl) ?_;rintro σ H Q' ⟨hd,ρ,S0,Q,E,en,r,h,cc⟩;refine⟨hd,ρ,S0,_,E,en,r,h,λu S1 v H1 k1 r1 u1 q1=>⟨r1.2.2,λfa H2 cs ob hfa fr tb hn hcl C=>?_⟩,cc.ex⟩;have out:∀{b:Addr}{o:HO},H2 b=some o->b∉cs:=λ{b o} e z=>by rw[hn b z]at e;cases e
 have tr:∀{b:Addr}{o:HO},H2 b=some o->z6B H2 cs ob b=some o:=λe=>by rw[z0J (out e)];exact e
 have k2:Kp H1 (z6B H2 cs ob):=⟨λa xs e=>tr (fr _ _ (λ_ z=>by cases z) e),λa o x e=>tr (fr _ _ (λ_ z=>by cases z) e)⟩;have r2:Rep hd (up S1 fa (.clo j (cst ix ρ))) (z6B H2 cs ob):=by
  refine⟨λa o e=>?_,λp hp=>?_,z1z tb (λb ps e=>tr e) λb oc vs d e=>tr e⟩
  .by_cases z:a=fa
   .subst z;rw[z05]at e;cases e;refine⟨z1Z ix σ,by rw[hl];exact C,?_,(zan (en.mono k1) ix).mono k2⟩;rw[hl];unfold z1Z;rw[y01];exact S.len
   .rw[z0k z]at e;have q:=r1.1 a o e;obtain⟨y,hy⟩:=q.some;exact q.mono k2 (by rw[hy];exact tr (fr _ _ (λps z=>q.notab.1 ps (by rw[hy,z])) hy))
  .obtain⟨h1,h2,h3⟩:=r1.2.1 p hp;have z:p.1≠fa:=z0h h2 hfa;exact⟨by rw[z0k z];exact h1,tr (fr _ _ (λps z=>by rw[z]at h3;cases h3) h2),h3⟩
 have back:∀{H3:Hp}{S3:Sto},Kp (z6B H2 cs ob) H3->Rep hd S3 H3->Kp H1 (utk H3 cs)/\Rep hd (mgC S1 S3) (utk H3 cs)/\Tp H3 (utk H3 cs):=by
  intro H3 S3 k3 r3;have fz:∀c∈cs,H3 c=some (frO (ob c)):=λc hc=>k3.frz _ _ _ (z3n hc);have ncs:∀{b:Addr}{o:HO},H3 b=some o->(∀ob,o≠frO ob)->b∉cs:=λ{b o} e n z=>by rw[fz b z]at e;cases e;exact n _ rfl
  have old:∀{b:Addr}{o:HO},H1 b=some o->(∀ps,o≠.tbl ps)->b∉cs:=λe n=>out (fr _ _ n e);have tp:Tp H3 (utk H3 cs):=λa xs e=>by rw[z0r (ncs e λ_ z=>by cases z)];exact e
  have kp:Kp H1 (utk H3 cs):=⟨λa xs e=>by rw[z0r (old e λ_ z=>by cases z)];exact k3.tup _ _ (k2.tup _ _ e),λa o x e=>by rw[z0r (old e λ_ z=>by cases z)];exact k3.frz _ _ _ (k2.frz _ _ _ e)⟩;refine⟨kp,⟨λa o e=>?_,λp hp=>?_,z1z r3.2.2 (λb ps e=>?_) λb oc vs d e=>?_⟩,tp⟩
  .rcases zdO e with⟨n,e⟩|⟨n,e⟩
   .have q:=r1.1 a o e;obtain⟨ob,hx⟩:=q.clo_frz n;exact q.mono kp (by rw[hx];exact kp.frz _ _ _ hx)
   .have q:=r3.1 a o e;obtain⟨x,hx⟩:=q.some;exact q.tp n tp (z0r (ncs hx λob z=>q.nofr n ob (by rw[hx,z])))
  .obtain⟨h1,h2,h3⟩:=r1.2.1 p hp;obtain⟨g1,g2,g3⟩:=r3.2.1 p hp;exact⟨z89 h1 g1,by rw[z0r (ncs g2 λob z=>by rw[z]at g3;cases g3)];exact g2,h3⟩
  .rw[z0r (ncs e λ_ z=>by cases z)];exact e
  .rw[z0r]
   .exact e
   .intro z;obtain⟨u,d2⟩:=hcl b z;rw[fz b z]at e;cases e;rw[d]at d2;cases d2
 refine⟨hd,_,_,_,_,r2,.cons (u1.mono k2) (.cons (u:=.ref fa) (v:=.ref fa) (by simp only[Ur]) .nil),q1 fa (r1.none hfa),λy S3 w H3 k3 r3 u3 q3=>?_,λea cx S3 H3 k3 r3 q3=>?_⟩
 .obtain⟨b1,b2,b3⟩:=back k3 r3;exact cc.ok y _ w _ (k1.trans b1) b2 (u3.tp b3) q3
 .obtain⟨b1,b2,b3⟩:=back k3 r3;exact cc.ex ea cx _ _ (k1.trans b1) b2 q3
end
open PySem L2 PySem.SeqAt PySem.Spec
variable[WW]
theorem zaG{H:Hp}:∀{bs:List Bool}{vs:List V},UrL H (bs.map U.bl) vs->vs=bs.map V.bl
 |[],_,h=>by simpa only[y2h,UrL]using h
 |b::bs,_,h=>by simp only[y0o,UrL]at h;obtain⟨v,r,rfl,h1,h2⟩:=h;rw[urB h1,zaG h2];rfl
theorem z7p{H:Hp}:∀{bs:List Int}{vs:List V},UrL H (bs.map U.int) vs->vs=bs.map V.int
 |[],_,h=>by simpa only[y2h,UrL]using h
 |b::bs,_,h=>by simp only[y0o,UrL]at h;obtain⟨v,r,rfl,h1,h2⟩:=h;rw[urI h1,z7p h2];rfl
theorem z9t{H:Hp}:∀{bs:List Str}{vs:List V},UrL H (bs.map U.str) vs->vs=bs.map V.str
 |[],_,h=>by simpa only[y2h,UrL]using h
 |b::bs,_,h=>by simp only[y0o,UrL]at h;obtain⟨v,r,rfl,h1,h2⟩:=h;rw[urS h1,z9t h2];rfl
theorem z3O{H:Hp}:∀(bs:List Int),UrL H (bs.map U.int) (bs.map V.int)
 |[]=>.nil
 |b::bs=>.cons uI (z3O bs)
theorem zaJ{H:Hp}:∀(bs:List Str),UrL H (bs.map U.str) (bs.map V.str)
 |[]=>.nil
 |b::bs=>.cons uS (zaJ bs)
def ziZ(al:Bool)(us:List U)(S:Sto)(Q:Kq U):Prop:=match us with
 |[.ref a]=>∃bs:List Bool,isL S a (bs.map U.bl)/\Q (.bl (cond al (bs.all id) (bs.any id))) S
 |_=>False
def zli(us:List U)(S:Sto)(Q:Kq U):Prop:=match us with
 |[.int i,.int j]=>Q (.int (if j>i then j else i)) S
 |[.ref a]=>∃(ns:List Int)(M:Int),isL S a (ns.map U.int)/\M∈ns/\(∀a∈ns,a<=M)/\Q (.int M) S
 |_=>False
def zla(us:List U)(S:Sto)(Q:Kq U):Prop:=match us with
 |[.int i]=>Q (.int (if i<0 then -i else i)) S
 |_=>False
def zlb(us:List U)(S:Sto)(Q:Kq U):Prop:=match us with
 |[.int i]=>i.natAbs.log2<1920/\Q (.str (toString i)) S
 |[.str x]=>Q (.str x) S
 |_=>False
def zi7(us:List U)(S:Sto)(Q:Kq U):Prop:=match us with
 |[.ref a]=>∃t kvs,S a=some (.dic t kvs)/\Q (.int kvs.length) S
 |_=>False
section
variable{X:Cx}
def zi9(hc:X.calm=true):z0G X (.builtin "any") (rC (ziZ false)):=by
 rintro pins s σ H vs xs Q' I r1 ⟨hd,us,S,Q,r,u,c,h⟩;unfold ziZ at h;split at h
 .obtain⟨v,rfl,g⟩:=z4p u;obtain rfl:=urR g;obtain⟨bs,hl,q⟩:=h;obtain⟨ws,e,l⟩:=hl.of (K:=X.K) r;exact zbT hc pins s σ H _ _ _ I r1 ⟨_,bs,rfl,by rw[<-zaG l];exact e,c.put r uB q⟩
 .exact h.elim
def zh5(hc:X.calm=true):z0G X (.builtin "all") (rC (ziZ true)):=by
 rintro pins s σ H vs xs Q' I r1 ⟨hd,us,S,Q,r,u,c,h⟩;unfold ziZ at h;split at h
 .obtain⟨v,rfl,g⟩:=z4p u;obtain rfl:=urR g;obtain⟨bs,hl,q⟩:=h;obtain⟨ws,e,l⟩:=hl.of (K:=X.K) r;exact zcU hc pins s σ H _ _ _ I r1 ⟨_,bs,rfl,by rw[<-zaG l];exact e,c.put r uB q⟩
 .exact h.elim
def zfU(hc:X.calm=true):z0G X (.builtin "max") (rC zli):=by
 rintro pins s σ H vs xs Q' I r1 ⟨hd,us,S,Q,r,u,c,h⟩;unfold zli at h;split at h
 .obtain⟨v,w,rfl,g1,g2⟩:=ziU u;exact z9b hc pins s σ H _ _ _ I r1 ⟨_,_,by rw[urI g1,urI g2],c.put r uI h⟩
 .obtain⟨v,rfl,g⟩:=z4p u;obtain rfl:=urR g;obtain⟨ns,M,hl,h1,h2,q⟩:=h;obtain⟨ws,e,l⟩:=hl.of (K:=X.K) r;exact zlW X.K rfl hc pins s σ H _ _ _ I r1 ⟨_,ns,M,rfl,by rw[<-z7p l];exact e,h1,h2,c.put r uI q⟩
 .exact h.elim
def zkj:z0G X (.builtin "abs") (rC zla):=by
 rintro pins s σ H vs xs Q' I r1 ⟨hd,us,S,Q,r,u,c,h⟩;unfold zla at h;split at h
 .obtain⟨v,rfl,g⟩:=z4p u;exact zbZ pins s σ H _ _ _ I r1 ⟨_,by rw[urI g],c.put r uI h⟩
 .exact h.elim
def zeE:z0G X (.type "str") (rC zlb):=by
 rintro pins s σ H vs xs Q' I r1 ⟨hd,us,S,Q,r,u,c,h⟩;unfold zlb at h;split at h
 .obtain⟨v,rfl,g⟩:=z4p u;exact z5t pins s σ H _ _ _ I r1 ⟨_,by rw[urI g],h.1,c.put r uS h.2⟩
 .obtain⟨v,rfl,g⟩:=z4p u;exact z6v pins s σ H _ _ _ I r1 ⟨_,by rw[urS g],c.put r uS h⟩
 .exact h.elim
def zie:z0G X (.builtin "len") (rC zi7):=by
 rintro pins s σ H vs xs Q' I r1 ⟨hd,us,S,Q,r,u,c,h⟩;unfold zi7 at h;split at h
 .obtain⟨v,rfl,g⟩:=z4p u;obtain rfl:=urR g;obtain⟨t,kvs,hS,q⟩:=h;have d:=r.1 _ _ hS;cases t
  .obtain⟨ws,e,l⟩:=d;exact zaN pins s σ H _ _ _ I r1 ⟨_,ws,rfl,e,by rw[<-l.len];exact c.put r uI q⟩
  .obtain⟨ys,e,rr,hz⟩:=d;obtain⟨hsm,dd⟩:=z6l I e rr;obtain⟨o,es,ep,ho,hc,hdat,hes,_⟩:=id dd;obtain⟨y,rfl,ry⟩:=z1q r1;cases ry;have hlen:es.size=kvs.length:=by
    have:es.toList.length=ys.length:=by rw[hes,y01]
    rw[y1t rr,<-this];simp
   have hz2:(kvs.length:Int)<2^63:=by have:=z3A;lia
   refine Calls.call_function_entry kind_len plain_len entry_len (args_len1 _) ?_;unfold Builtin.«len»;refine y00 (m:=oneArg "len" _) (y03 ?_);refine y00 (m:=callSpecial? (.ref _) (Str.ofString "__len__")) (y0P (name:=Str.ofString "__len__") dd.typeIs F.slot_dict_len
    (y0Q F.slot_dict_len dd.typeIs F.entry_dict_len ?_ (F.args_dict_len_1 _)))
   show wpAny _ _ (dictSize _>>=_) _ _ s;unfold dictSize;refine y00 (y00 (wpAny_dictEntries ho hdat (y03 ?_)));show wpAny _ _ (Builtin.Dict.pendingCount _>>=_) _ _ s;refine y00 (wpAny_pendingCount_other hsm ?_);refine wpAny_ret_mkInt ?_;rw[y2B,hlen];refine y00 (y0C (y03 ?_));refine y00 (wpAny_letGo ?_);show wpAny _ _ (if((kvs.length:Nat):Int)<0
    then _ else _) _ _ _
   rw[if_neg (by lia)];show wpAny _ _ (if((kvs.length:Nat):Int) ≥ 2^63
    then _ else _) _ _ _
   rw[if_neg (by lia)];exact y00 (wpAny_mkInt (y03 ⟨_,rfl,.int kvs.length,H,I.tok _,⟨_,rfl⟩,c.put r uI q⟩))
 .exact h.elim
end
open PySem L2 PySem.SeqAt PySem.Spec
variable[WW]
def prs(L L':List U):List U:=List.zipWith (λx y=>U.tup [x,y]) L L'
def en:Nat->List U->List U
 |_,[]=>[]
 |k,x::L=>.tup [.int k,x]::en (k+1) L
def z9r{L L':List U}{i:Nat}{x:U}(h:(prs L L')[i]?=some x):∃a b,L[i]?=some a/\L'[i]?=some b/\x=.tup [a,b]:=by
 unfold prs at h;rw[List.getElem?_zipWith]at h;cases e1:L[i]? with
 |none=>rw[e1]at h;cases h
 |some a =>
  cases e2:L'[i]? with
  |none=>rw[e1,e2]at h;cases h
  |some b=>rw[e1,e2]at h;cases h;exact⟨a,b,rfl,rfl,rfl⟩
def zaM(L L':List U):(prs L L').length=min L.length L'.length:=by unfold prs;rw[List.length_zipWith]
theorem ze2:∀{L:List U}{k i:Nat}{x:U},(en k L)[i]?=some x->∃a,L[i]?=some a/\x=.tup [.int ((k+i:Nat):Int),a]
 |[],_,_,_,h=>by simp[en]at h
 |y::L,k,0,x,h=>by
  simp only[en,List.getElem?_cons_zero,Option.some.injEq]at h;exact⟨y,rfl,h.symm⟩
 |y::L,k,i+1,x,h=>by simp only[en,y2M]at h;obtain⟨a,h1,h2⟩:=ze2 h;exact⟨a,by simpa using h1,by rw[h2,show k+1+i=k+(i+1)by lia]⟩
theorem z9X:∀(L:List U)(k:Nat),(en k L).length=L.length
 |[],_=>rfl
 |y::L,k=>by rw[en,y0c,y0c,z9X L]
def z7B{hd:Hd}{H:Hp}{S:Sto}{p:Addr}{a b:U}{x y:V}(hp:H p=none)(r:Rep hd S H)(ha:Ur H a x)(hb:Ur H b y):Kp H (upd H p (.tup [x,y]))/\Rep hd S (upd H p (.tup [x,y]))/\Ur (upd H p (.tup [x,y])) (.tup [a,b]) (.ref p):=by have s:Same H (upd H p (.tup [x,y])):=Gu.same_up (Same.refl H) hp;refine⟨.same s,r.same s,?_⟩;simp only[Ur];exact⟨p,_,rfl,z0a,.cons (ha.mono (.same s)) (.cons (hb.mono (.same s)) .nil)⟩
abbrev Rk:=List U->(Sto->Prop)->Sto->Prop
open PySem L2 PySem.SeqAt PySem.Spec
variable[WW]
def Rep.hide{hd:Hd}{S:Sto}{H:Hp}{a:Addr}{x:HO}(r:Rep hd S H)(h:H a=Option.none)(hx:hid x=true):Rep ((a,x)::hd) S (upd H a x)/\∀p∈hd,p.1≠a:=by
 have hn:∀p∈hd,p.1≠a:=λp hp=>z0h (r.2.1 p hp).2.1 h;refine⟨⟨λb o e=>(r.1 b o e).mono (.new h) (z0c ?_),λp hp=>?_,z1z r.2.2 (λb ps e=>?_) λb oc vs d e=>?_⟩,hn⟩
 .rintro rfl;rw[r.none h]at e;cases e
 .rcases y0k.mp hp with rfl|hp
  .exact⟨r.none h,z0a,hx⟩
  .obtain⟨g1,g2,g3⟩:=r.2.1 p hp;exact⟨g1,by rw[z0c (hn p hp)];exact g2,g3⟩
 .rw[z0c (z0h e h)];exact e
 .rw[z0c (z0h e h)];exact e
def Rep.bare{hd:Hd}{S:Sto}{H:Hp}{a:Addr}{x y:HO}{o:Ob}(r:Rep ((a,x)::hd) S H)(hn:∀p∈hd,p.1≠a)(k:Kp H (upd H a y))(h:ObR (upd H a y) a o):S a=Option.none/\Rep hd (W.up S a o) (upd H a y):=by
 obtain⟨h1,h2,h3⟩:=r.2.1 _ y0p;refine⟨h1,λb p e=>?_,λp hp=>?_,z1z r.2.2 (λb ps e=>?_) λb oc vs d e=>?_⟩
 .by_cases z:b=a
  .subst z;rw[z05]at e;cases e;exact h
  .rw[z0k z]at e;exact(r.1 b p e).mono k (z0c z)
 .obtain⟨g1,g2,g3⟩:=r.2.1 p (y0d _ hp);exact⟨by rw[z0k (hn p hp)];exact g1,by rw[z0c (hn p hp)];exact g2,g3⟩
 .rw[z0c (λz=>by rw[z,h2]at e;cases e;cases h3)];exact e
 .rw[z0c (λz=>by rw[z,h2]at e;cases e;cases h3)];exact e
def zfQ{X:Cx}{pins:yyP}{σ:St}{H:Hp}{s:Shared}{a:Addr}{kvs:List (U × U)}{A:Around}{E:yyE}{t:Bool}{k v:U}{y z:V}{u r:Value}{Q:Unit->Shared->Prop}(hu:A.units+9<cLine)(hw:X.w=WW.w)(I:Inv X pins σ H s)(d:z98 H a kvs t)(hk:kok t k=true)(uk:Ur H k y)(ry:z0y y u)(uv:Ur H v z)(rz:z0y z r)(hl:kvs.length<sizeLine)(h:∀o s',Inv X pins σ (upd H a o) s'->Kp H (upd H a o)->z98 (upd H a o) a (z40 kvs k v) t->Q () s'):wpAny (model X.prog X.w) A (dictSet a u r) Q E s:=by
 cases t
 .obtain⟨vs,e,rr⟩:=d;obtain⟨q,rfl,rfl⟩:=z1r hk uk;have kp:Kp H (upd H a (.dK (z6C vs q z))):=.put e (λ_ z=>by cases z) λ_ _ z=>by cases z
  obtain⟨hz,hd,ws,rel,dd⟩:=zdq I.hok e;have hl2:(z6C vs q z).length<=sizeLine:=by have:=z2c vs q z;have:=rr.len;lia
  refine wpAny_dictSet_pairs (hsz:=by rw[<-rel.length];exact hz) (z6s ry) dd λh' dd' hs=>?_;have he:∃q,h'.get? a=some q:=let⟨q,_,_,hq,_⟩:=dd';⟨q,hq⟩;exact h _ _ (z1H I (by rw[e];exact y16) hs he (zbs hl2 hd (rel.put q rz) dd')) kp ⟨_,z0a,Paired.mapP (rr.put q uv) λ_ _ z=>⟨z.1,z.2.mono kp⟩⟩
 .obtain⟨xs,e,rr,hz⟩:=d;obtain⟨b,rfl⟩:=z4n hk uk;cases(show u=Value.ref b from ry);obtain⟨hs,dd⟩:=z6l I e rr;have kp:∀o,Kp H (upd H a o):=λo=>.put e (λ_ z=>by cases z) λ_ _ z=>by cases z
  have hlen:xs.length<=sizeLine:=by rw[<-y1t rr];exact hz
  rw[hw];refine wpAny_dictSet_heap (hsz:=hlen) (show A.units+8<cLine by lia) (z3v I hk uk) dd λh' dd' hsb=>?_;have he:∃q,h'.get? a=some q:=let⟨q,_,_,hq,_⟩:=dd';⟨q,hq⟩;refine h _ _ (z1H I (by rw[e];exact y16) hsb he (z3l hs dd')) (kp _) ⟨_,z0a,Paired.mapP (rr.put ⟨hk,uk⟩ uv rz) λ_ _ ⟨z1,z2,v,z3,z4⟩=>⟨z1,⟨z2.1,z2.2.mono (kp _)⟩,v,z3.mono (kp _),z4⟩,?_⟩;have:=z5n kvs k v;lia
def ziA(tk tv:WE):WE:=λρ S Q E=>tk ρ S (λk S1=>tv ρ S1 (λv S2=>kok (isT k) k=true/\nw (.dic (isT k) [(k,v)]) S2 Q) E) E
section
variable{xa:Nat->Addr}{X:Cx}{xk:St->XK}{k v e:Expr}{tk tv:WE}{pos:Pos}
def zkb{pins:yyP}{σ:St}{H:Hp}{s:Shared}{a:Addr}(I:Inv X pins σ H s)(e:H a=some (.dK []))(t:Bool):∃o s',s'=s/\Inv X pins σ (upd H a o) s'/\Kp H (upd H a o)/\z98 (upd H a o) a [] t:=by
 have kp:∀o,Kp H (upd H a o):=λo=>.put e (λ_ z=>by cases z) λ_ _ z=>by cases z
 obtain⟨z,hs,vs,rel,o,es,ep,h1,h2,h3,h4,h5,h6⟩:=zdq I.hok e;cases rel;cases t
 .exact⟨.dK [],s,rfl,by have:=z1H (t':=s.toks) (h':=s.heap) (ob:=.dK []) I (by rw[e];exact y16) ⟨rfl,λ_ _=>rfl⟩ ⟨o,h1⟩ ⟨y1r _,hs,[],.nil,o,es,ep,h1,h2,h3,h4,h5,h6⟩;exact this,kp _,[],z0a,.nil⟩
 .refine⟨zeO a [],s,rfl,?_,kp _,[],z0a,.nil,y1r _⟩;have he:es.toList=[]:=by
   have:=h5.length;simpa using this
  have:=z1H (t':=s.toks) (h':=s.heap) (ob:=zeO a []) I (by rw[e];exact y16) ⟨rfl,λ_ _=>rfl⟩ ⟨o,h1⟩ (z3l hs ⟨o,es,ep,h1,h2,h3,he,(by intro x hx;simp at hx),List.nodup_nil⟩);exact this
def zc5(hu:X.A.units+9<cLine)(hw:X.w=WW.w)(hk:SE xa X xk k tk)(hv:SE xa X xk v tv):SE xa X xk (.Dict [some k] [v] pos) (ziA tk tv):=by
 intro pins s σ H Q' I ⟨hd,ρ,S,Q,E,en,r,h,c⟩;have hf:=I.fresh;have I1:=I.laid (a:=s.heap.objs.size) (o:=.dK []) (t':=s.toks) (λ_ _ q=>y02 _ q) (y09 _) (z5m s.heap I.big);obtain⟨r1,hn⟩:=r.hide (x:=.dK []) hf rfl;have k1:Kp H (upd H s.heap.objs.size (.dK [])):=.new hf;generalize hs1:({ s with heap:=s.heap.push { cls:=.type "dict",data:=.dict #[] } }:Shared)=s1 at I1;generalize ha:s.heap.objs.size=a at *;refine wpAny_Dict_any rfl rfl (by simp) (by simp) ?_;rw[ha,hs1];refine pairTrees_cons_walk (thn (hk.run I1 (en.mono k1) r1 h (λea cx S' H' k' r' q=>c.ex ea cx S' H' (k1.trans k') ⟨r'.1,λp hp=>r'.2.1 p (y0d _ hp),r'.2.2⟩ q)) λkv s2 hz8=>?_);obtain⟨x,y,H2,S2,I2,ry,k2,r2,u2,q2⟩:=hz8;refine thn (hv.run I2 ((en.mono k1).mono k2) r2 q2 (λea cx S' H' k' r' q=>c.ex ea cx S' H' (k1.trans (k2.trans k')) ⟨r'.1,λp hp=>r'.2.1 p (y0d _ hp),r'.2.2⟩ q)) λvv s3 ⟨z,w,H3,S3,I3,rw3,k3,r3,u3,hok,q3⟩=>pairTrees_nil_walk ?_;obtain⟨o4,s4,e4,I4,k4,d4⟩:=zkb I3 (r3.2.1 _ y0p).2.1 (isT x);subst e4;unfold storeAll;rw[y1U];refine y00 (y00 (zfQ hu hw I4 d4 hok ((u2.mono k3).mono k4) ry (u3.mono k4) rw3 (show 0<sizeLine by decide) λo s5 I5 k5 d5=>y03 ?_));show wpAny _ _ (forIn ([]:List (Value × Value)) PUnit.unit _) _ _ _;rw[List.forIn_nil];refine y03 ?_;have eo:upd (upd H3 a o4) a o=upd H3 a o:=by funext b;unfold upd;by_cases z:b=a<;>simp[z]
 rw[eo]at I5 d5 k5;obtain⟨n5,r5⟩:=r3.bare hn (k4.trans k5) (o:=.dic (isT x) (z40 [] x z)) d5;exact⟨.ref a,_,I5,rfl,c.ok _ _ _ _ (k1.trans (k2.trans (k3.trans (k4.trans k5)))) r5 (by simp only[Ur]) (q3 a n5)⟩
end
open PySem L2 PySem.SeqAt PySem.Spec
variable[WW]
noncomputable def tyN:U->Option String
 |.non=>some "NoneType"
 |.bl _=>some "bool"
 |.int _=>some "int"
 |.str _=>some "str"
 |.tup _=>some "tuple"
 |.ref _=>none
def under(t c:String):Bool:=t==c||(t == "bool"&&c == "int")
def zk0(c:String)(u:U)(S:Sto)(k:Bool->Prop):Prop:=match u with
 |.ref a=>∃us,isL S a us/\k (under "list" c)
 |u=>opt (tyN u) λt=>k (under t c)
def zlO(c:String)(t:WE):WE:=λρ S Q E=>t ρ S (λu S1=>zk0 c u S1 λb=>Q (.bl b) S1) E
def zgN(K:yyF){c:String}(hc:c="int"\/c="str"\/c="tuple"\/c="list"\/c="bool"):∀t∈(["NoneType","bool","int","str","tuple","list"]:List String),PySem.W.kitOne K (.type t) (.type c)=some (under t c):=by intro t ht;simp only[y0k,y2s,or_false]at ht;rcases ht with rfl|rfl|rfl|rfl|rfl|rfl<;>rcases hc with rfl|rfl|rfl|rfl|rfl<;>rfl
section
variable{xa:Nat->Addr}{X:Cx}{xk:St->XK}{e:Expr}{t:WE}{p q cpos:Pos}{x:Str}{c:String}
def z2U(hc:c="int"\/c="str"\/c="tuple"\/c="list"\/c="bool")(he:SE xa X xk e t)(mi:X.mg "isinstance"=none)(mc:X.mg x=none)(hb:bootBuiltins x=some (.type c))(hg:Gl X "isinstance":=by rfl)(hgc:Gl X x:=by rfl)(hn:x≠"__name__":=by decide)(hd:(x==("__debug__":Str))=false:=by decide)(hs:starEach [e,.Name x q] X.env=(false,eval e X.env)::starEach [.Name x q] X.env:=by rfl)(hpl:(backTo cpos (starEach [.Name x q] X.env)).any (·.1)=false:=by rfl):SE xa X xk (.Call (.Name "isinstance" p) [e,.Name x q] [] cpos) (zlO c t) :=
 PE.weak (zmm X.K rfl he mi mc hb hg hgc hn hd hs hpl) λσ H Q' h=>Lt.bind (f:=λu ρ S1 Q E=>zk0 c u S1 λb=>Q (U.bl b) S1) h λhd ρ S Q E u v H1 e1 r1 u1 q1 c1=>by
  have kit:=zgN X.K hc;cases u<;>simp only[zk0]at q1
  .simp only[Ur]at u1;subst u1;exact⟨_,_,_,rfl,.of .non,kit _ (by simp),c1.ok.put r1 uB q1⟩
  .obtain rfl:=urB u1;exact⟨_,_,_,rfl,.of (.bl _),kit _ (by simp),c1.ok.put r1 uB q1⟩
  .obtain rfl:=urI u1;exact⟨_,_,_,rfl,.of (.int _),kit _ (by simp),c1.ok.put r1 uB q1⟩
  .obtain rfl:=urS u1;exact⟨_,_,_,rfl,.of (.str _),kit _ (by simp),c1.ok.put r1 uB q1⟩
  .obtain⟨a,vs,rfl,e,l⟩:=urT u1;exact⟨_,_,_,rfl,.tup (.of e),kit _ (by simp),c1.ok.put r1 uB q1⟩
  .obtain rfl:=urR u1;obtain⟨us,hl,q⟩:=q1;obtain⟨vs,e,_⟩:=hl.of (K:=X.K) r1;exact⟨_,_,_,rfl,.lst e,kit _ (by simp),c1.ok.put r1 uB q⟩
end
def zaD(x:U)(us:List U)(S:Sto)(Q:Kq U):Prop:=match x,us with
 |.str y,[.ref a]=>∃xs:List Str,isL S a (xs.map U.str)/\(xs.map (·.length)).sum+xs.length*y.length<=16777216/\Q (.str (Str.join y xs)) S
 |_,_=>False
def tyT(u:U)(_:Sto):Prop:=match u with
 |.str _=>True
 |_=>False
def zkG:WF
 |.str i,.str j,S,Q=>Q (.bl (!(Builtin.Str.occurrences j i 0 j.length 1).isEmpty)) S
 |_,_,_,_=>False
section
variable{X:Cx}
def zgm{hd:Hd}{u:U}{S:Sto}{H:Hp}{v:V}(h:tyT u S)(r:Rep hd S H)(k:Ur H u v):tyV X.K "str" v H:=by cases u<;>simp only[tyT]at h;obtain rfl:=urS k;exact rfl
def zix:MtR X "str.join" (rM zaD):=by
 rintro pins s σ H v vs x xs Q' I r1 r2 ⟨hd,y,us,S,Q,r,u1,u2,c,h⟩;unfold zaD at h;split at h
 .obtain rfl:=urS u1;obtain⟨z,rfl,g⟩:=z4p u2;obtain rfl:=urR g;obtain⟨ys,hl,hz,q⟩:=h;obtain⟨ws,e,l⟩:=hl.of (K:=X.K) r;exact zf6 X.K rfl pins s σ H _ _ _ _ _ I r1 r2 ⟨_,_,ys,rfl,rfl,by rw[<-z9t l];exact e,hz,c.put r uS q⟩
 .exact h.elim
def zgK:OpR X (compareOp .In) (rW zkG):=by rintro pins s σ H v1 v2 x1 x2 Q' I r1 r2 ⟨hd,x,y,S,Q,r,u1,u2,c,h⟩;cases x<;>cases y<;>simp only[zkG]at h;obtain rfl:=urS u1;obtain rfl:=urS u2;exact z9q pins s σ H _ _ _ _ _ I r1 r2 ⟨_,_,rfl,rfl,c.put r uB h⟩
end
open PySem L2 PySem.SeqAt PySem.Spec
variable[WW]
structure Fk(P:Program)(w:World)(K:yyF)(mg:yyS)(base:Heap)(xa:Nat->Addr)(x:Str)(C:Addr)(k:Nat)(sp:Wsp):Prop where
 ok:∃f fd ps,z2d P w K mg base (CXw xa P w) k f fd ps (lsp xa sp)/\z19 K fd ps []/\Mk K C f/\mg x=some (.ref C)
def zjv(C:Addr)(sp:Wsp)(ts:WA):WE:=λρ S Q E=>ts ρ S (λus S1=>∀x,S1 x=none->sp (.ref x::us) (up S1 x (.ins C [])) (λu S2=>u=.non/\Q (.ref x) S2) E) E
section
variable{xa:Nat->Addr}{X:Cx}{E0:XK}{e:Expr}{es:List Expr}{ts:WA}{x:Str}{C:Addr}{k:Nat}{sp:Wsp}{p pos:Pos}
def z3p(F:Fk X.prog X.w X.K X.mg X.base xa x C k sp)(hr:z1o (k+1) X.A)(hx:z2C (CXw xa X.prog X.w) X E0)(ha:SA xa X (λ_=>E0) (e::es) ts)(hg:Gl X x:=by rfl)(hdb:(x==("__debug__":Str))=false:=by decide)(he:starEach (e::es) X.env=(false,eval e X.env)::starEach es X.env:=by rfl)(hpl:(backTo pos (starEach es X.env)).any (·.1)=false:=by rfl):SE xa X (λ_=>E0) (.Call (.Name x p) (e::es) [] pos) (zjv C sp ts):=by
 obtain⟨f,fd,ps,F,hb,M,hm⟩:=F.ok;refine PE.weak (zeR (dvs:=[]) M F hr hg hm hb .nil hx ha hdb he hpl) λσ H Q' h=>Lt.bind (R:=Ur) (f:=λus ρ S1 Q E=>∀x,S1 x=none->sp (.ref x::us) (up S1 x (.ins C [])) (λu S2=>u=.non/\Q (U.ref x) S2) E) h λhd ρ S Q E us vs H1 e1 r1 u1 q1 c1 y dx hy hdx hne=>?_;have s1:Same H1 (upd H1 dx (.own y)):=Gu.same_up (Same.refl H1) hdx;have hy1:upd H1 dx (.own y) y=none:=by rw[z0c (y0N hne)];exact hy
 have k2:Kp H1 (upd (upd H1 dx (.own y)) y (.ins C dx [])):=(Kp.same s1).trans (.new hy1);refine⟨hd,.ref y::us,_,_,E,(r1.same s1).up (o:=.ins C []) (.new hy1) (.inl hy1) ⟨dx,[],z0a,.nil⟩,?_,q1 y (r1.none hy),?_⟩
 .rw[y0n];exact .cons (by simp only[Ur]) (u1.mono k2)
 .refine⟨λu S3 v H3 k3 r3 u3 hz8=>?_,λea c S3 H3 k3 r3 q=>c1.ex ea c S3 H3 (k2.trans k3) r3 q⟩;obtain⟨hu,q⟩:=hz8;subst hu;simp only[Ur]at u3;exact⟨u3,c1.ok _ S3 _ H3 (k2.trans k3) r3 (by simp only[Ur]) q⟩
end
open PySem L2 PySem.SeqAt PySem.Spec
variable[WW]
open PySem L2 PySem.SeqAt PySem.Spec
open PyProof.Rows (envOfC)
variable[WW]
structure Zx where
 P:Program
 K:yyF
 mg:yyS
 base:Heap
 xa:Nat->Addr
 C:Addr
 da:Str->Addr
noncomputable def xL:List (Str × Nat):=[("GuiseError",0),("BadBreadth",1),("BadMachine",2),("BadWord",3),("BadCount",4),("BadName",5),("BadLine",6),("BadPage",7),("Taken",8),("NoGuise",9),("NoPeg",10),("TooMany",11),("TooLong",12),("NothingWorn",13),("NothingLeft",14)]
noncomputable def bL:List Str:=["bool","len","tuple","list","range","max","min","sorted","any","all","zip","enumerate","str","int","abs","isinstance","divmod","sum","set","dict"]
noncomputable def sL:List (Str × Str):=[("SMALL_LETTERS","abcdefghijklmnopqrstuvwxyz"),("FIGURES","0123456789"),("EMPTY","-"),("GUISE","guise"),("PEG","peg")]
noncomputable def iL:List (Str × Int):=[("MOST_ROWS",400),("MOST_FORM_ROWS",60),("MOST_TIMES",64),("MOST_WORDS",1024),("MOST_LETTERS_TOLD",1000),("MOST_LETTERS_OF_NAME",12),("MOST_FIGURES",60),("MOST_SEWN_ROWS",60),("LEAST_BREADTH",2),("MOST_BREADTH",5),("MOST_WORN",1000)]
def dL:List Str:=["DEEDS","WRITERS","READERS"]
def fL:List Str:=["many_letters","things","done","taken_back"]
namespace Zx
variable(Z:Zx)
structure Tx:Prop where
 b:∀x∈bL,Z.mg x=none
 x:Xt Z.K Z.mg Z.xa xL
 s:∀x c,sL.lookup x=some c->∃t,Z.mg x=some (.str c t)
 i:∀x c,iL.lookup x=some c->∃t,Z.mg x=some (.int c t)
 d:∀x∈dL,Z.mg x=some (.ref (Z.da x))
 cl:Cls Z.K Z.C
 n:∀f∈fL,z2p Z.K Z.C f
def f(x:Str)(k:Nat)(sp:Wsp):Prop:=Fc Z.P WW.w Z.K Z.mg Z.base Z.xa x k sp
def m(x:Str)(k:Nat)(sp:Wsp):Prop:=Fm Z.P WW.w Z.K Z.mg Z.base Z.xa Z.C x k sp
structure fd(x:Str)(st:Stmt)(ps:List Str):Prop where
 ex:∃f fd,Fun Z.K x x st f fd/\z19 Z.K fd ps []/\Z.mg x=some (.ref f)
structure md(x qual:Str)(st:Stmt)(ps:List Str):Prop where
 ex:∃f fd,Fun Z.K x qual st f fd/\z19 Z.K fd ps []/\ziX Z.K Z.C x f/\Cls Z.K Z.C
def body(N:List Str)(qual:Str)(st:Stmt)(k:Nat)(t:WS):Prop:=∀(f:Addr)(cdv:Value)(A:Around)(outer:List Env)(s:Shared)(H:Hp)(E:XK),z1o k (A.deeper (envOfC qual (z07 st) s.heap.objs.size f cdv))->N.Nodup ->
 SSs Z.xa (λ_=>E) (z2a (CXw Z.xa Z.P WW.w) Z.P WW.w Z.K Z.mg Z.base N qual (z07 st) f cdv A outer s H E) (z0v st) t
end Zx
variable{Z:Zx}
def wF{x:Str}{st:Stmt}{ps:List Str}(N:List Str){k:Nat}{sp:Wsp}{t:WS}(D:Z.fd x st ps)(hb:Z.body N x st k t)(len:∀us S Q E,sp us S Q E->us.length=ps.length)(hp:∀us S Q E,sp us S Q E->t (stt N.length us) S { nx:=λ_ S'=>Q .non S',rt:=Q } λ_=>E)(Sc:z1d N ps (z07 st):=by exact⟨rfl,rfl,rfl,by decide +kernel,rfl,by decide +kernel,by decide +kernel⟩):Z.f x (k+1) sp:=by obtain⟨f,fd,F,B,M⟩:=D.ex;exact⟨f,fd,ps,wfn F Sc len ⟨t,λcdv A outer s H E hr=>hb f cdv A outer s H E hr Sc.nd,hp⟩,B,F.kp,M⟩
def wM{x qual:Str}{st:Stmt}{ps:List Str}(N:List Str){k:Nat}{sp:Wsp}{t:WS}(D:Z.md x qual st ps)(hb:Z.body N qual st k t)(len:∀us S Q E,sp us S Q E->us.length=ps.length)(hp:∀us S Q E,sp us S Q E->t (stt N.length us) S { nx:=λ_ S'=>Q .non S',rt:=Q } λ_=>E)(Sc:z1d N ps (z07 st):=by exact⟨rfl,rfl,rfl,by decide +kernel,rfl,by decide +kernel,by decide +kernel⟩):Z.m x (k+1) sp:=by obtain⟨f,fd,F,B,M,c⟩:=D.ex;exact⟨f,fd,ps,wfn F Sc len ⟨t,λcdv A outer s H E hr=>hb f cdv A outer s H E hr Sc.nd,hp⟩,B,M,c⟩
section
variable{P:Program}{w:World}{K:yyF}{mg:yyS}{base:Heap}{N:List Str}{qual:Str}{scope:Scope}{f:Addr}{cd:Value}{A:Around}{outer:List Env}{s:Shared}{H:Hp}{E:XK}
def z0g:z6g xa (z2a (CXw xa P w) P w K mg base N qual scope f cd A outer s H E) λ_=>E:=λσ pins H1 s1 e s' I h=>z2x (E':=E) (λ_ _ _ z=>z) pins σ H1 s1 e s' I h
end
def hu9{k:Nat}{A:Around}(h:z1o k A):A.units+9<cLine:=by have:=h.un;lia
def z1v{k:Nat}{A:Around}(h:z1o k A):A.units+64<cLine:=by have:=h.un;lia
section
variable{xa:Nat->Addr}{X:Cx}{xk:St->XK}{pos:Pos}
def z6z{x c:Str}(T:Z.Tx)(hs:sL.lookup x=some c)(hm:X.mg=Z.mg)(hg:Gl X x:=by rfl)(hd:(x==("__debug__":Str))=false:=by decide):SE xa X xk (.Name x pos) (wC (.str c)):=by obtain⟨t,h⟩:=T.s x c hs;exact z7q (by rw[hm];exact h) (λH=>⟨.str c,by simp only[Ur],t,rfl⟩) hg hd
end
section
variable{xa:Nat->Addr}{X:Cx}{xk:St->XK}{pos p:Pos}{o e:Expr}{es:List Expr}{t:WE}{ts:WA}
def zaz{x:Str}{c:Int}(T:Z.Tx)(hs:iL.lookup x=some c)(hm:X.mg=Z.mg)(hg:Gl X x:=by rfl)(hd:(x==("__debug__":Str))=false:=by decide):SE xa X xk (.Name x pos) (wC (.int c)):=by obtain⟨t,h⟩:=T.i x c hs;exact z7q (by rw[hm];exact h) (λH=>⟨.int c,by simp only[Ur],t,rfl⟩) hg hd
def sFl{f:Str}(T:Z.Tx)(ho:SE xa X xk o t)(hK:X.K=Z.K:=by rfl)(hf:f∈fL:=by decide)(hb:attributeBase o f X.env (eval o X.env)=eval o X.env:=by rfl):SE xa X xk (.Attribute o f pos) (zl1 f Z.C t):=zgJ (hK▸T.cl) (hK▸T.n f hf) ho hb
def sBu{x:Str}{id:String}{f:List U->Sto->Kq U->Prop}(T:Z.Tx)(hc:z0G X (.builtin id) (rC f))(hv:bootBuiltins x=some (.builtin id))(ha:SA xa X xk (e::es) ts)(hm:X.mg=Z.mg:=by rfl)(hx:x∈bL:=by decide)(hg:Gl X x:=by rfl)(hn:x≠"__name__":=by decide)(hdb:(x==("__debug__":Str))=false:=by decide)(he:starEach (e::es) X.env=(false,eval e X.env)::starEach es X.env:=by rfl)(hpl:(backTo pos (starEach es X.env)).any (·.1)=false:=by rfl):SE xa X xk (.Call (.Name x p) (e::es) [] pos) (wB f ts):=zkU hc (by rw[hm];exact T.b x hx) hv ha hg hn hdb he hpl
def sTy{x:Str}{id:String}{f:List U->Sto->Kq U->Prop}(T:Z.Tx)(hc:z0G X (.type id) (rC f))(hv:bootBuiltins x=some (.type id))(ha:SA xa X xk (e::es) ts)(hm:X.mg=Z.mg:=by rfl)(hx:x∈bL:=by decide)(hg:Gl X x:=by rfl)(hn:x≠"__name__":=by decide)(hdb:(x==("__debug__":Str))=false:=by decide)(he:starEach (e::es) X.env=(false,eval e X.env)::starEach es X.env:=by rfl)(hpl:(backTo pos (starEach es X.env)).any (·.1)=false:=by rfl):SE xa X xk (.Call (.Name x p) (e::es) [] pos) (wB f ts):=zjp hc (by rw[hm];exact T.b x hx) hv ha hg hn hdb he hpl
end
def zi8{xa:Nat->Addr}{X:Cx}{xk:St->XK}{pos:Pos}{x:Str}(T:Z.Tx)(hm:X.mg=Z.mg:=by rfl)(hx:x∈dL:=by decide)(hg:Gl X x:=by rfl)(hd:(x==("__debug__":Str))=false:=by decide):SE xa X xk (.Name x pos) (wC (.ref (Z.da x))) :=
 z7q (by rw[hm];exact T.d x hx) (λH=>⟨.ref _,by simp only[Ur],rfl⟩) hg hd
end W
namespace W
open PySem L2 PySem.SeqAt PySem.Spec
variable[WW]{Z:Zx}
def zhS(i:Nat)(tab:Addr->Wsp->Prop)(t:WA):WE:=λρ S Q E=>opt (lk ρ i) λu=>∃f sp,u=.ref f/\tab f sp/\t ρ S (λus S1=>sp us S1 Q E) E
def Zx.fa(Z:Zx)(x:Str):Addr:=match Z.mg x with
 |some (.ref f)=>f
 |_=>0
def Tab(Z:Zx)(k:Nat)(tab:Addr->Wsp->Prop):Prop:=∀f sp,tab f sp->∃fd ps,z2d Z.P WW.w Z.K Z.mg Z.base (CXw Z.xa Z.P WW.w) k f fd ps (lsp Z.xa sp)/\z19 Z.K fd ps []/\PySem.W.keepIn Z.K (.ref f)=true
def Zx.f_at{x:Str}{k k':Nat}{sp:Wsp}(h:Z.f x k sp)(hk:k<=k'):∃fd ps,z2d Z.P WW.w Z.K Z.mg Z.base (CXw Z.xa Z.P WW.w) k' (Z.fa x) fd ps (lsp Z.xa sp)/\z19 Z.K fd ps []/\PySem.W.keepIn Z.K (.ref (Z.fa x))=true:=by
 obtain⟨f,fd,ps,F,B,K,m⟩:=h.ok;have e:Z.fa x=f:=by unfold Zx.fa;rw[m]
 rw[e];exact⟨fd,ps,F.mono hk,B,K⟩
section
variable{xa:Nat->Addr}{w:World}{K:yyF}{mg:yyS}{base:Heap}{X:Cx}{E0:XK}{e:Expr}{es:List Expr}{ts:WA}{x:Str}{k:Nat}{tab:Addr->Wsp->Prop}{p pos:Pos}
def z8b(i:Nat)(hF:∀f sp,tab f sp->∃fd ps,z2d X.prog X.w X.K X.mg X.base (CXw xa X.prog X.w) k f fd ps (lsp xa sp)/\z19 X.K fd ps []/\PySem.W.keepIn X.K (.ref f)=true)(hr:z1o k X.A)(hx:z2C (CXw xa X.prog X.w) X E0)(ha:SA xa X (λ_=>E0) (e::es) ts)(hN:X.N[i]?=some x:=by rfl)(hv:Vis X.env.scope x:=by first|exact Or.inl rfl|exact Or.inr (Or.inl rfl)|exact Or.inr (Or.inr rfl))(hd:(x==("__debug__":Str))=false:=by decide)(hcd:(x==("__classdict__":Str))=false:=by decide)(he:starEach (e::es) X.env=(false,eval e X.env)::starEach es X.env:=by rfl)(hpl:(backTo pos (starEach es X.env)).any (·.1)=false:=by rfl) : SE xa X (λ_=>E0) (.Call (.Name x p) (e::es) [] pos) (zhS i tab ts) :=
 PE.weak (zcv (CX:=CXw xa X.prog X.w) (k:=k) i hr ha hN hv hd hcd he hpl) λσ H Q' ⟨hd,ρ,S,Q,E,en,r,h,c⟩=>by obtain⟨u,hu,f,sp,rfl,ht,h⟩:=h.ex;obtain⟨v,hv,uv⟩:=en.2 i _ hu;obtain rfl:=urR uv;obtain⟨fd,ps,F,B,Kp⟩:=hF f sp ht;exact⟨f,fd,ps,_,E0,hv,F,B,Kp,hx,hd,ρ,S,_,E,en,r,h,λus S1 vs H1 k1 r1 u1 q1=>⟨hd,us,S1,Q,E,r1,u1,q1,c.mono k1⟩,c.ex⟩
end
section
variable{xa:Nat->Addr}{X:Cx}{xk:St->XK}{o e:Expr}{t:WE}{ts:WA}{apos cpos:Pos}
def zik(ho:SE xa X xk o t)(ha:SA xa X xk [e] ts)(hbase:attributeBase o "append" X.env (eval o X.env)=eval o X.env:=by rfl)(hfew:((backTo cpos (starEach [e] X.env)).all (λx=>!x.1)&&(backToKw cpos (keywordEach [] X.env)).all (λx=>x.1.isSome)&&decide ([e].length+([]:List Keyword).length+(if([]:List Keyword).isEmpty then 0 else 1)<30))=true:=by rfl)(hline:(apos.endLine==cpos.line)=true:=by rfl)(hs:starEach [e] X.env=(false,eval e X.env)::starEach [] X.env:=by rfl)(hplain:(backTo cpos (starEach [] X.env)).any (·.1)=false:=by rfl):SE xa X xk (.Call (.Attribute o "append" apos) [e] [] cpos) (wBM tyL z7h t ts) :=
 z6t y1e y1p y1q z2r (λ_ _ _ _ _=>z8M) ho ha hbase hfew hline hs hplain
def zd4(ho:SE xa X xk o t)(ha:SA xa X xk [e] ts)(hbase:attributeBase o "join" X.env (eval o X.env)=eval o X.env:=by rfl)(hfew:((backTo cpos (starEach [e] X.env)).all (λx=>!x.1)&&(backToKw cpos (keywordEach [] X.env)).all (λx=>x.1.isSome)&&decide ([e].length+([]:List Keyword).length+(if([]:List Keyword).isEmpty then 0 else 1)<30))=true:=by rfl)(hline:(apos.endLine==cpos.line)=true:=by rfl)(hs:starEach [e] X.env=(false,eval e X.env)::starEach [] X.env:=by rfl)(hplain:(backTo cpos (starEach [] X.env)).any (·.1)=false:=by rfl):SE xa X xk (.Call (.Attribute o "join" apos) [e] [] cpos) (wBM tyT zaD t ts) :=
 z6t y2T PySem.F.slot_str_join PySem.F.type_str_join zix (λ_ _ _ _ _=>zgm) ho ha hbase hfew hline hs hplain
def zm4(ho:SE xa X xk o t)(hbase:attributeBase o "clear" X.env (eval o X.env)=eval o X.env:=by rfl)(hline:(apos.endLine==cpos.line)=true:=by rfl):SE xa X xk (.Call (.Attribute o "clear" apos) [] [] cpos) (wBM tyL zb8 t zds) :=
 zgU y1e PySem.F.slot_list_clear PySem.F.type_list_clear zgh (λ_ _ _ _ _=>z8M) ho hbase hline
end
def wDM(K:yyF)(td ty:WE):WE:=λρ S Q E=>td ρ S (λx S1=>ty ρ S1 (λy S2=>∃a z t,x=.ref a/\y=.str z/\z1N K a=true/\PySem.W.nsIn K a z=some (some (.ref t))/\Q (.ref t) S2) E) E
def zcq(T:Z.Tx){xa:Nat->Addr}{X:Cx}{xk:St->XK}{o i:Expr}{td ty:WE}{pos:Pos}(ho:SE xa X xk o td)(hi:SE xa X xk i ty)(hs:zkx i:=by exact λ_ _=>rfl)(hK:X.K=Z.K:=by rfl):SE xa X xk (.Subscript o i pos) (wDM Z.K td ty) :=
 hK▸PE.weak (zbR ho hi hs) λσ H Q' ⟨hd,ρ,S,Q,E,en,r,h,c⟩=>⟨hd,ρ,S,_,E,en,r,h,λx S1 v1 H1 k1 r1 u1 q1=>⟨hd,ρ,S1,_,E,en.mono k1,r1,q1,λy S2 v2 H2 k2 r2 u2 q2=>by obtain⟨a,z,t,rfl,rfl,h1,h2,q⟩:=q2;exact⟨a,z,.ref t,_,urR u1,h1,urS u2,h2,rfl,(c.ok.mono (k1.trans k2)).put r2 (by simp only[Ur]) q⟩,c.ex.mono k1⟩,c.ex⟩
end W
namespace W
open PySem L2 PySem.SeqAt
variable[WW]
section
variable{xa:Nat->Addr}{X:Cx}
def wDd:WS:=λ_ _ _ _=>False
def z0I{xk:St->XK}{s:List Stmt}:SSs xa xk X s wDd:=λ_ _ _ _ _ _ ⟨_,_,_,_,_,_,_,q,_⟩=>q.elim
end
end W
namespace L2
open PySem PySem.Spec PyProof.Rows
def SqG(K:yyF):Bool->Hp->Addr->List V->Prop
 |true,H,a,xs=>SqL K H a xs
 |false,H,a,xs=>SqT K H a xs
def IsG:Bool->Heap->Addr->Array Value->Prop
 |true,h,a,its=>h.IsList a its
 |false,h,a,its=>h.IsTuple a its
def ItG:Bool->Heap->Addr->Addr->Nat->Prop
 |true,h,i,a,n=>h.IsListIter i a n
 |false,h,i,a,n=>h.IsTupleIter i a n
def cG(k:Bool):String:=cond k "list" "tuple"
def dG(k:Bool):String:=cond k "list_iterator" "tuple_iterator"
def IsG.ob{k:Bool}{h:Heap}{a:Addr}{its:Array Value}(p:IsG k h a its):∃o,h.get? a=some o/\o.cls=.type (cG k):=by cases k<;>(obtain⟨o,e,c,_⟩:=p;exact⟨o,e,c⟩)
def ItG.ob{k:Bool}{h:Heap}{i a:Addr}{n:Nat}(p:ItG k h i a n):∃o,h.get? i=some o/\o.cls=.type (dG k)/\(∀v,o.data≠.cell v)/\∀h':Heap,h'.get? i=some o->ItG k h' i a n:=by cases k<;>(obtain⟨o,e,c,d⟩:=p;refine⟨o,e,c,λv z=>?_,λh' q=>⟨o,q,c,d⟩⟩;rw[d]at z;cases z)
def Inv.sqG{X:Cx}{pins:yyP}{σ:St}{H:Hp}{s:Shared}{k:Bool}{a:Addr}{xs:List V}(I:Inv X pins σ H s)(h:SqG X.K k H a xs):∃its:List Value,z0B xs its/\IsG k s.heap a its.toArray:=by
 cases k
 .obtain⟨its,r,p,_⟩:=I.tuple h;exact⟨its,r,p⟩
 .obtain⟨its,r,p,_⟩:=I.list h;exact⟨its,r,p.isList⟩
def Inv.injG{X:Cx}{pins:yyP}{σ:St}{H:Hp}{s:Shared}{k:Bool}{a:Addr}{xs ys:List V}(I:Inv X pins σ H s)(h:SqG X.K k H a xs)(h':SqG X.K k H a ys):xs=ys:=by
 cases k
 .exact I.tuple_inj h h'
 .exact I.list_inj h h'
def zaC{prog:Program}{w:World}{A:Around}(k:Bool)(hh:A.handled=none)(it t:Addr)(hne:t≠it)(its:Array Value):Draws prog w A it [it,t] its.size (λi v=>its[i]?=some v) (λi h=>ItG k h it t i/\IsG k h t its):=by
 cases k
 .exact zbx hh it t hne its
 .exact Draws.list hh it t hne its
abbrev oiG(k:Bool)(a:Addr):Obj:={ cls:=.type (dG k),data:=.fields #[.ref a,.int 0 0] }
abbrev zg1(k:Bool)(h:Heap)(a:Addr):Heap:=h.push (oiG k a)
abbrev zg2(k l:Bool)(h:Heap)(a b:Addr):Heap:=(zg1 k h a).push (oiG l b)
abbrev zg3(k l:Bool)(h:Heap)(a b:Addr):Heap:=(zg2 k l h a b).push { cls:=.type "tuple",data:=.seq #[.ref h.objs.size,.ref (zg1 k h a).objs.size] }
abbrev zg4(k l:Bool)(h:Heap)(a b:Addr):Heap:=(zg3 k l h a b).push { cls:=.type "tuple",data:=.seq #[.none,.none] }
abbrev zg5(k l:Bool)(h:Heap)(a b:Addr):Heap:=(zg4 k l h a b).push { cls:=.type "zip",data:=.fields #[.none,.bool false,.bool false,.ref (zg2 k l h a b).objs.size,.ref (zg3 k l h a b).objs.size] }
def z8W(k l:Bool)(a b:Addr)(xs ys:Array Value) : Meets (Builtin.«zip.__new__» ⟨[.type "zip",.ref a,.ref b],[]⟩) (λ_ R s=>IsG k s.heap a xs/\IsG l s.heap b ys/\R (.ok (.ret (.ref (zg4 k l s.heap a b).objs.size))) { s with heap:=zg5 k l s.heap a b }) :=
 .of_wp λprog w A R s h=>by
  obtain⟨hp,g,d,tk,os⟩:=s;obtain⟨hl1,hl2,h⟩:=h;have hsub:=sub_zip;have hL2:IsG l (Shared.heap ⟨hp.push (oiG k a),g,d,tk,os⟩) b ys:=by cases l<;>(obtain⟨o,e,r⟩:=hl2;exact⟨o,y02 _ e,r⟩)
  cases k<;>cases l
  .have hL1:Heap.IsTuple (Shared.heap ⟨hp,g,d,tk,os⟩) a xs:=hl1;have hL2:Heap.IsTuple (Shared.heap ⟨hp.push { cls:=.type "tuple_iterator",data:=.fields #[.ref a,.int 0 0] },g,d,tk,os⟩) b ys:=hL2
   wp_walk using y2c hL1,y2c hL2
   exact⟨_,rfl,h⟩
  .have hL1:Heap.IsTuple (Shared.heap ⟨hp,g,d,tk,os⟩) a xs:=hl1;have hL2:Heap.IsList (Shared.heap ⟨hp.push { cls:=.type "tuple_iterator",data:=.fields #[.ref a,.int 0 0] },g,d,tk,os⟩) b ys:=hL2
   wp_walk using y2c hL1,y0X hL2
   exact⟨_,rfl,h⟩
  .have hL1:Heap.IsList (Shared.heap ⟨hp,g,d,tk,os⟩) a xs:=hl1;have hL2:Heap.IsTuple (Shared.heap ⟨hp.push { cls:=.type "list_iterator",data:=.fields #[.ref a,.int 0 0] },g,d,tk,os⟩) b ys:=hL2
   wp_walk using y0X hL1,y2c hL2
   exact⟨_,rfl,h⟩
  .have hL1:Heap.IsList (Shared.heap ⟨hp,g,d,tk,os⟩) a xs:=hl1;have hL2:Heap.IsList (Shared.heap ⟨hp.push { cls:=.type "list_iterator",data:=.fields #[.ref a,.int 0 0] },g,d,tk,os⟩) b ys:=hL2
   wp_walk using y0X hL1,y0X hL2
   exact⟨_,rfl,h⟩
section
variable{prog:Program}{w:World}{A:Around}{E:yyE}{s:Shared}
def z9I{k l:Bool}{a b:Addr}{xs ys:Array Value}{Q:yyE}(hl1:IsG k s.heap a xs)(hl2:IsG l s.heap b ys)(h:∀h',IsZip h' (s.heap.objs.size+4) (s.heap.objs.size+2) (s.heap.objs.size+3) .none->IsPair h' (s.heap.objs.size+2) (.ref s.heap.objs.size) (.ref (s.heap.objs.size+1)) -> IsPair h' (s.heap.objs.size+3) .none .none->ItG k h' s.heap.objs.size a 0->ItG l h' (s.heap.objs.size+1) b 0->h'.objs.size=s.heap.objs.size+5 -> (∀c o,s.heap.get? c=some o->h'.get? c=some o)->Q (.ref (s.heap.objs.size+4)) { s with heap:=h' }) : wpAny (model prog w) A (call (.type "zip") [.ref a,.ref b]) Q E s:=by
 refine callType_new F.called_zip (by decide) (F.typeCall_zip_2 _ _) (F.newCall_zip_2 _ _) (λobj=>F.args_object_init_3 obj _ _) F.entry_zip_new (z8W k l a b xs ys) ⟨hl1,hl2,?_⟩;have e1:(zg1 k s.heap a).objs.size=s.heap.objs.size+1:=y1w ..;have e2:(zg2 k l s.heap a b).objs.size=s.heap.objs.size+2:=by rw[y1w,e1]
 have e3:(zg3 k l s.heap a b).objs.size=s.heap.objs.size+3:=by rw[y1w,e2]
 have e4:(zg4 k l s.heap a b).objs.size=s.heap.objs.size+4:=by rw[y1w,e3]
 have e5:(zg5 k l s.heap a b).objs.size=s.heap.objs.size+5:=by rw[y1w,e4]
 have p:∀{h:Heap}{o u:Obj}{c:Addr},h.get? c=some u->(h.push o).get? c=some u:=λe=>y02 _ e;have g5:(zg5 k l s.heap a b).get? (zg4 k l s.heap a b).objs.size=some _:=y04 _ rfl;have g4:(zg5 k l s.heap a b).get? (zg3 k l s.heap a b).objs.size=some _:=p (y04 _ rfl);have g3:(zg5 k l s.heap a b).get? (zg2 k l s.heap a b).objs.size=some _:=p (p (y04 _ rfl));have g2:(zg5 k l s.heap a b).get? (zg1 k s.heap a).objs.size=some _:=p (p (p (y04 _ rfl)));have g1:(zg5 k l s.heap a b).get? s.heap.objs.size=some _:=p (p (p (p (y04 _ rfl))));show _/\_;rw[e2,e3,e4]at g5;rw[e1,e2]at g3;rw[e3]at g4;rw[e1]at g2;rw[e4];exact⟨⟨_,g5,rfl⟩,h _ g5 g3 g4 (by cases k<;>exact⟨_,g1,rfl,rfl⟩) (by cases l<;>exact⟨_,g2,rfl,rfl⟩) e5 λc o x=>p (p (p (p (p x))))⟩
end
def zkE(K:yyF)(k l:Bool)(a b:Addr):It :=
 ⟨λi H=>∃xs ys x y,SqG K k H a xs/\SqG K l H b ys/\xs[i]?=some x/\ys[i]?=some y,
  λi H v H'=>∃p x y,v=.ref p/\H p=none/\(∀xs,SqG K k H a xs->xs[i]?=some x)/\(∀ys,SqG K l H b ys->ys[i]?=some y)/\H'=upd H p (.tup [x,y]),
  λi H=>∃xs ys,SqG K k H a xs/\SqG K l H b ys/\xs.length=i/\ys.length=i⟩
section
variable{X:Cx}{elts:List Expr}{tk:Nat}{tp:Pos}
def z9S{P:Program}{w:World}{K:yyF}(k l:Bool)(a b z TI TO i1 i2:Addr)(D:TI≠z/\TO≠z/\i1≠z/\i2≠z/\TI≠TO/\TI≠i1/\TI≠i2/\TO≠i1/\TO≠i2/\i1≠i2)(aT:a≠TO)(bT:b≠TO) : z9w P w K (.Tuple elts tk tp) (zkE K k l a b) [z,TI,TO,i1,i2] z (λi h=>IsZip h z TI TO .none/\IsPair h TI (.ref i1) (.ref i2)/\(∃u v,IsPair h TO u v)/\ItG k h i1 a i/\ItG l h i2 b i) where
 mem:=by simp
 obj:=λi h st c hc=>by
  obtain⟨hz,hTI,⟨u,v,hTO⟩,h1,h2⟩:=st;obtain⟨o1,e1,_,n1,_⟩:=h1.ob;obtain⟨o2,e2,_,n2,_⟩:=h2.ob;simp at hc;rcases hc with q|q|q|q|q
  .rw[q];exact⟨_,hz,λv z=>by cases z⟩
  .rw[q];exact⟨_,hTI,λv z=>by cases z⟩
  .rw[q];exact⟨_,hTO,λv z=>by cases z⟩
  .rw[q];exact⟨_,e1,n1⟩
  .rw[q];exact⟨_,e2,n2⟩
 keep:=λi h h' st kp=>by obtain⟨hz,hTI,⟨u,v,hTO⟩,h1,h2⟩:=st;obtain⟨o1,e1,_,_,g1⟩:=h1.ob;obtain⟨o2,e2,_,_,g2⟩:=h2.ob;exact⟨kp z (by simp) _ hz,kp TI (by simp) _ hTI,⟨u,v,kp TO (by simp) _ hTO⟩,g1 _ (kp i1 (by simp) _ e1),g2 _ (kp i2 (by simp) _ e2)⟩
 item:=by
  intro X hP hw hK hc i pins s σ H E I hf st hg;subst hP hw hK;obtain⟨hz,hTI,⟨u,v,hTO⟩,h1,h2⟩:=st;obtain⟨xs,ys,x,y,hxs,hys,hx,hy⟩:=hg;obtain⟨its,rv,p⟩:=I.sqG hxs;obtain⟨itt,rw',p'⟩:=I.sqG hys;obtain⟨o1,e1,c1,_,_⟩:=h1.ob;obtain⟨o2,e2,c2,_,_⟩:=h2.ob;have Da:∀{k':Bool}{y:Addr}{its:Array Value},IsG k' s.heap y its->y≠z/\y≠i1/\y≠i2:=λ{k' y its} hl=>by obtain⟨o,e,c⟩:=hl.ob;refine⟨z4x e hz c rfl (by cases k'<;>decide),z4x e e1 c c1 (by cases k'<;>cases k<;>decide),z4x e e2 c c2 (by cases k'<;>cases l<;>decide)⟩
  obtain⟨ux,hux,rux⟩:=rv.get hx;obtain⟨uy,huy,ruy⟩:=rw'.get hy;obtain⟨d1,d2,d3,d4,d5,d6,d7,d8,d9,d10⟩:=D;obtain⟨a1,a3,a4⟩:=Da p;obtain⟨b1,b3,b4⟩:=Da p';have D1:=zaC (prog:=X.prog) (w:=X.w) (A:=X.A.in1) k (I.ok.hd hc) i1 a a3 its.toArray;have D2:=zaC (prog:=X.prog) (w:=X.w) (A:=X.A.in1) l (I.ok.hd hc) i2 b b4 itt.toArray;have Z:ZA z TI TO i1 i2 [i1,a] [i2,b]:=⟨d1,d2,d3,d4,d5,d6,d7,d8,d9,d10,by simp[y0N d3,y0N a1],by simp[d8,y0N aT],by simp[y0N d10,y0N a4],by simp[y0N d4,y0N b1],by simp[d9,y0N bT],by simp[d10,y0N b3]⟩;have l1:i<its.toArray.size:=by have:=(y0z.mp hux).1;simpa using this
  have l2:i<itt.toArray.size:=by have:=(y0z.mp huy).1;simpa using this
  have hT:s.TypeIs (.ref z) "zip":=⟨_,hz,rfl⟩;unfold pyNext;refine y00 (y3h (y0P (name:=Str.ofString "__next__") hT y3n (y0Q y3n hT F.entry_zip_next
   (z9x D1 D2 Z hz hTI hTO ⟨h1,p⟩ ⟨h2,p'⟩ l1 l2 λx' y' h' tk px py q1 q2 q3 q4 q5 hk=>y03 ?_) (F.args_zip_next_1 _))))
  have ex:x'=ux:=by
   have e1:its.toArray[i]?=some ux:=by simpa using hux
   rw[e1]at px;exact(y06 px).symm
  have ey:y'=uy:=by
   have e1:itt.toArray[i]?=some uy:=by simpa using huy
   rw[e1]at py;exact(y06 py).symm
  subst ex ey;refine⟨_,rfl,wpAny_letOwnedTupleGo_zip q1 λh2' hz2 hs2=>?_⟩;have zlt:z<s.heap.objs.size:=y05 hz;have kk:∀c o,c∉[z,TO,i1,i2]->s.heap.get? c=some o->h2'.get? c=some o:=λc o hc q=>by simp at hc;exact(hs2.2 c hc.1).trans (hk c o hc.1 hc.2.1 hc.2.2.1 hc.2.2.2 q)
  have sub:∀c∈[z,TO,i1,i2],c∈[z,TI,TO,i1,i2]:=λc hc=>by simp at hc⊢;rcases hc with q|q|q|q<;>simp[q]
  have I1:Inv X pins σ (upd H s.heap.objs.size (.tup [x,y])) { s with heap:=h2',toks:=tk }:=by refine I.turnedNew (ch:=[z,TO,i1,i2]) kk (y09 _) ?_ (λc hc=>hf c (sub c hc));exact⟨by show 2<=sizeLine;decide,[x',y'],0,.cons rux (.cons ruy .nil),(hs2.2 _ (y3o zlt)).trans q5⟩
  have up:∀{c:Addr}{o:Obj},c≠z->h'.get? c=some o->h2'.get? c=some o:=λ{c o} hc q=>(hs2.2 c hc).trans q;obtain⟨o3,e3,_,_,g3⟩:=q3.1.ob;obtain⟨o4,e4,_,_,g4⟩:=q4.1.ob;refine⟨.ref s.heap.objs.size,_,I1,rfl,⟨s.heap.objs.size,x,y,rfl,I.fresh,λzs hz'=>by rw[I.injG hz' hxs];exact hx,λzs hz'=>by rw[I.injG hz' hys];exact hy,rfl⟩,⟨hz2,?_,⟨_,_,up d2 q2⟩,g3 _ (up d3 e3),g4 _ (up d4 e4)⟩,λc hc=>?_⟩
  .exact up d1 (hk TI _ d1 d5 d6 d7 hTI)
  .have c0:=(hf c hc).1;have lt:c<s.heap.objs.size:=by
    simp at hc;rcases hc with q|q|q|q|q
    .rw[q];exact zlt
    .rw[q];exact y05 hTI
    .rw[q];exact y05 hTO
    .rw[q];exact y05 e1
    .rw[q];exact y05 e2
   rw[z0c (y0i lt)];exact c0
 done:=by
  intro X hP hw hK hc i pins s σ H E I hf st hg;subst hP hw hK;obtain⟨hz,hTI,⟨u,v,hTO⟩,h1,h2⟩:=st;obtain⟨xs,ys,hxs,hys,hx,hy⟩:=hg;obtain⟨its,rv,p⟩:=I.sqG hxs;obtain⟨itt,rw',p'⟩:=I.sqG hys;obtain⟨o1,e1,c1,_,_⟩:=h1.ob;obtain⟨o2,e2,c2,_,_⟩:=h2.ob;have Da:∀{k':Bool}{y:Addr}{its:Array Value},IsG k' s.heap y its->y≠z/\y≠i1/\y≠i2:=λ{k' y its} hl=>by obtain⟨o,e,c⟩:=hl.ob;refine⟨z4x e hz c rfl (by cases k'<;>decide),z4x e e1 c c1 (by cases k'<;>cases k<;>decide),z4x e e2 c c2 (by cases k'<;>cases l<;>decide)⟩
  obtain⟨d1,d2,d3,d4,d5,d6,d7,d8,d9,d10⟩:=D;obtain⟨a1,a3,a4⟩:=Da p;obtain⟨b1,b3,b4⟩:=Da p';have l1:=rv.length;have D1:=zaC (prog:=X.prog) (w:=X.w) (A:=X.A.in1) k (I.ok.hd hc) i1 a a3 its.toArray;have Z:ZA z TI TO i1 i2 [i1,a] [i2,b]:=⟨d1,d2,d3,d4,d5,d6,d7,d8,d9,d10,by simp[y0N d3,y0N a1],by simp[d8,y0N aT],by simp[y0N d10,y0N a4],by simp[y0N d4,y0N b1],by simp[d9,y0N bT],by simp[d10,y0N b3]⟩;have hT:s.TypeIs (.ref z) "zip":=⟨_,hz,rfl⟩;have ei:i=its.toArray.size:=by simp;lia
  unfold pyNext;refine y00 (y3h (y0P (name:=Str.ofString "__next__") hT y3n (y0Q y3n hT F.entry_zip_next
   (zcg D1 Z hz hTI hTO ⟨ei▸h1,p⟩ λh' e hk he=>?_) (F.args_zip_next_1 _))))
  obtain⟨o,ho,hcl⟩:=he;refine y00 (wpAny_isInstance (T:="StopIteration") (b:=true) ⟨o,ho,hcl⟩ isSubtype_stop (y03 ⟨rfl,?_⟩));refine I.turnedL (ch:=[z,TO,i1,i2]) (t':=s.toks) (λc o hcc q=>?_) (λc hcc=>hf c ?_)
  .simp at hcc;exact hk c o hcc.1 hcc.2.1 hcc.2.2.1 hcc.2.2.2 q
  .simp at hcc⊢;rcases hcc with q|q|q|q<;>simp[q]
 self:=λA i s Q E st h=>wpAny_pyIter_zip st.1 h
def zjw(K:yyF)(ta:TA):TI:=λσ H R=>ta σ H λvs H1=>∃(k l:Bool)(a b:Addr),vs=[.ref a,.ref b]/\(∃xs,SqG K k H1 a xs)/\(∃ys,SqG K l H1 b ys)/\R (zkE K k l a b) H1
def zeS{a b:Expr}{ta:TA}{p pos:Pos}(hg:Gl X "zip")(hm:X.mg "zip"=none)(ha:PA X [a,b] ta)(hs:starEach [a,b] X.env=[(false,eval a X.env),(false,eval b X.env)]:=by rfl)(hs2:starEach [b] X.env=[(false,eval b X.env)]:=by rfl) : PI X (.Tuple elts tk tp) (.Call (.Name "zip" p) [a,b] [] pos) (zjw X.K ta):=by
 intro pins s σ H R I h;refine Call_ (z3Q I hg hm boot_zip (y1C (thn (ha pos pins s σ H _ I h) λus s1 hz8=>?_) (by rw[hs,hs2]) (by rw[hs2];rfl)));obtain⟨vs,H1,I1,r1,q1⟩:=hz8;obtain⟨k,l,a,b,e,⟨xs,hq⟩,⟨ys,hq'⟩,q⟩:=q1;subst e;obtain⟨u,v,rfl,ru,rv'⟩:=zaw r1;cases ru;cases rv';obtain⟨its,rv,pl⟩:=I1.sqG hq;obtain⟨its2,rv2,pl2⟩:=I1.sqG hq';obtain⟨_,ea,_⟩:=pl.ob;obtain⟨_,eb,_⟩:=pl2.ob;have la:=y05 ea;have lb:=y05 eb;refine z9I pl pl2 λh' z1 z2 z3 z4 z5 z6 hk=>wpAny_pyIter_zip z1 ?_;have I2:Inv X pins σ H1 { s1 with heap:=h' }:=I1.kept (t':=s1.toks) hk;refine⟨s1.heap.objs.size+4,[s1.heap.objs.size+4,s1.heap.objs.size+2,s1.heap.objs.size+3,s1.heap.objs.size,s1.heap.objs.size+1],_,_,H1,rfl,I2,
  z9S k l a b (s1.heap.objs.size+4) (s1.heap.objs.size+2) (s1.heap.objs.size+3) s1.heap.objs.size (s1.heap.objs.size+1) (by refine⟨?_,?_,?_,?_,?_,?_,?_,?_,?_,?_⟩<;>(show @Ne Nat _ _;lia)) (y0i (y3q la (by lia))) (y0i (y3q lb (by lia))),⟨z1,z2,⟨_,_,z3⟩,z4,z5⟩,λc hb=>?_,q⟩
 have hb':s1.heap.objs.size<=c:=by simp only[y0k,y2s,or_false]at hb;rcases hb with q|q|q|q|q<;>(have q:@Eq Nat c _:=q;lia)
 exact I1.fpOk hb' (I1.hok.fresh hb')
end
end L2
namespace W
open PySem L2 PySem.SeqAt PySem.Spec
variable[WW]{Z:Zx}
inductive SdU(K:yyF):U->List U->(Sto->Prop)->Sto->Prop
 |lst {a L S}:isL S a L->SdU K (.ref a) L (λS=>isL S a L) S
 |tup {L S}:SdU K (.tup L) L (λ_=>True) S
 |txt {t xs S}:zdF K t xs=true->xs.length<=1000->SdU K (.ref t) (xs.map .str) (λ_=>True) S
def SdH(K:yyF)(H0:Hp)(k:Bool)(a:Addr)(L:List U)(c:Sto->Prop):Prop:=∀hd H S,Kp H0 H->Rep hd S H->c S->∃vs,SqG K k H a vs/\UrL H L vs
def SdU.at_{K:yyF}{u:U}{L:List U}{c:Sto->Prop}{S:Sto}{H0:Hp}{hd:Hd}{v:V}(h:SdU K u L c S)(g:Ur H0 u v)(r:Rep hd S H0):∃k a,v=.ref a/\(∃xs,SqG K k H0 a xs)/\SdH K H0 k a L c/\c S:=by
 cases h with
 |lst h =>
  obtain⟨vs,e,_⟩:=h.of (K:=K) r;exact⟨true,_,urR g,⟨vs,e⟩,λhd H S k r c=>c.of (K:=K) r,h⟩
 |tup =>
  obtain⟨a,vs,rfl,e,l⟩:=urT g;exact⟨false,a,rfl,⟨vs,.of e⟩,λhd H S k r c=>⟨vs,.of (k.tup _ _ e),l.mono k⟩,trivial⟩
 |txt h1 h2=>exact⟨false,_,urR g,⟨_,z6E h1 h2 _⟩,λhd H S k r c=>⟨_,z6E h1 h2 _,zaJ _⟩,trivial⟩
def fZG(K:yyF)(us:List U)(S:Sto)(R:Rk):Prop:=match us with
 |[x,y]=>∃L L' c c',SdU K x L c S/\SdU K y L' c' S/\L.length=L'.length/\R (prs L L') (λS=>c S/\c' S) S
 |_=>False
def zcy{K:yyF}{H0:Hp}{k k':Bool}{a b:Addr}{L L':List U}{c c':Sto->Prop}(h:SdH K H0 k a L c)(h':SdH K H0 k' b L' c')(hl:L.length=L'.length):ItR H0 (zkE K k k' a b) (prs L L') (λS=>c S/\c' S):=by
 constructor
 .intro hd i H S x kp r ck hx;obtain⟨y,z,h1,h2,rfl⟩:=z9r hx;obtain⟨vs,e,l⟩:=h hd H S kp r ck.1;obtain⟨ws,e',l'⟩:=h' hd H S kp r ck.2;obtain⟨v,g1,k1⟩:=l.get h1;obtain⟨w,g2,k2⟩:=l'.get h2;refine⟨⟨vs,ws,v,w,e,e',g1,g2⟩,λv' H' hz8=>?_⟩;obtain⟨p,x,y,e1,hp,q1,q2,e2⟩:=hz8;have z1:=q1 vs e;have z2:=q2 ws e';rw[g1]at z1;rw[g2]at z2;cases z1;cases z2;subst e1 e2;exact z7B hp r k1 k2
 .intro hd i H S kp r ck hi;obtain⟨vs,e,l⟩:=h hd H S kp r ck.1;obtain⟨ws,e',l'⟩:=h' hd H S kp r ck.2;rw[zaM]at hi;exact⟨vs,ws,e,e',by rw[<-l.len];lia,by rw[<-l'.len];lia⟩
def zbQ(T:Z.Tx){xa:Nat->Addr}{X:Cx}{xk:St->XK}{a b:Expr}{ta:WA}{elts:List Expr}{tk:Nat}{tp p pos:Pos}(hm:X.mg "zip"=none)(ha:SA xa X xk [a,b] ta)(hg:Gl X "zip":=by rfl)(hs:starEach [a,b] X.env=[(false,eval a X.env),(false,eval b X.env)]:=by rfl)(hs2:starEach [b] X.env=[(false,eval b X.env)]:=by rfl)(hK:X.K=Z.K:=by rfl):SI xa xk X (.Tuple elts tk tp) (.Call (.Name "zip" p) [a,b] [] pos) (wRg (fZG Z.K) ta) :=
 hK▸λpins s σ H R' I q=>zeS hg hm ha hs hs2 pins s σ H R' I (LtI.of (f:=fZG X.K) q λhd S R u v H1 r1 u1 q1 c1=>by
  unfold fZG at q1;split at q1
  .obtain⟨v,w,rfl,g1,g2⟩:=ziU u1;obtain⟨L,L',c,c',s1,s2,hl,q⟩:=q1;obtain⟨k,a,rfl,x1,d1,_⟩:=s1.at_ g1 r1;obtain⟨k',b,rfl,x2,d2,_⟩:=s2.at_ g2 r1;exact⟨k,k',a,b,rfl,x1,x2,c1 _ _ S _ H1 (.refl _) r1 (zcy d1 d2 hl) q⟩
  .exact q1.elim)
end W
namespace W
open PySem L2 PySem.SeqAt PySem.Spec Gu
variable[WW]{Z:Zx}
def prU:Nat->List U->List (U × U)
 |_,[]=>[]
 |n,x::r=>(x,.int n)::prU (n+1) r
theorem z2e(k:U):∀(u:List U)(n:Nat),z0t (prU n u) k=if k∈u then some (.int ((n+u.idxOf k:Nat):Int))else none
 |[],n=>by simp[prU,z0t]
 |x::r,n=>by
  unfold prU z0t;by_cases e:x=k
  .subst e;rw[z0P];simp
  .rw[z1b e];show z0t (prU (n+1) r) k=_;rw[z2e k r (n+1)];have e1:(x::r).idxOf k=r.idxOf k+1:=by rw[y2I,beq_false_of_ne e];rfl
   by_cases hm:k∈r
   .rw[if_pos hm,if_pos (by simp[hm]),e1,show n+1+r.idxOf k=n+(r.idxOf k+1)by lia]
   .rw[if_neg hm,if_neg (by simp[hm,y0N e])]
theorem z3t:∀(u:List U)(n:Nat),(prU n u).length=u.length
 |[],_=>rfl
 |x::r,n=>by rw[prU,y0c,y0c,z3t r]
theorem za9(k:U):∀(u:List U)(n:Nat),prU n (u++[k])=prU n u++[(k,.int ((n+u.length:Nat):Int))]
 |[],n=>by simp[prU]
 |x::r,n=>by rw[y2t,prU,za9 k r,prU,y2t,y0c,show n+1+r.length=n+(r.length+1)by lia]
def z6M{k:U}{u:List U}(h:k∉u):z40 (prU 0 u) k (.int u.length)=prU 0 (u++[k]):=by unfold z40;rw[z2e,if_neg h,za9];simp
def Ex(S S':Sto):Prop:=∀a o,S a=some o->S' a=some o
theorem Ex.up{S S1:Sto}{p:Addr}{o:Ob}(e:Ex S S1)(h:S p=none):Ex S (up S1 p o):=λa x q=>by rw[z0k];exact e a x q;rintro rfl;rw[h]at q;cases q
def Ex.no{S S1:Sto}{l:Addr}(e:Ex S S1)(h:S1 l=none):S l=none:=by
 cases q:S l with
 |none=>rfl
 |some o=>rw[e _ _ q]at h;cases h
def Ex.l{S S1:Sto}{a:Addr}{us:List U}(e:Ex S S1)(h:isL S a us):isL S1 a us:=h.elim (λz=>.inl (e _ _ z)) λz=>.inr (e _ _ z)
def z2b{ck:Sto->Prop}{g:WX U}{b:WS}{W:Wd}{E:Xs}{L:List U}{ρ:En}{S:Sto}(I:List U->En->Sto->Prop)(h0:I L ρ S)(hd:∀ρ S,I [] ρ S->ck S/\W.nx ρ S)(hs:∀x L ρ S,I (x::L) ρ S->(∀ρ S,I L ρ S->frL ck g b L ρ S W E)->frL ck g b (x::L) ρ S W E):frL ck g b L ρ S W E:=by
 induction L generalizing ρ S with
 |nil=>exact hd ρ S h0
 |cons x L ih=>exact hs x L ρ S h0 λρ S h=>ih h
def zc7{ck:Sto->Prop}{g:WX U}{ts:List WT}{rest:WR}{k:En->List U->Sto->Prop}{L:List U}{ρ:En}{S:Sto}{acc:List U}(I:List U->List U->En->Sto->Prop)(h0:I L acc ρ S)(hd:∀acc ρ S,I [] acc ρ S->ck S/\k ρ acc S)(hs:∀x L acc ρ S,I (x::L) acc ρ S->(∀acc ρ S,I L acc ρ S->cmL ck g ts rest L ρ S acc k)->cmL ck g ts rest (x::L) ρ S acc k):cmL ck g ts rest L ρ S acc k:=by
 induction L generalizing ρ S acc with
 |nil=>exact hd acc ρ S h0
 |cons x L ih=>exact hs x L acc ρ S h0 λacc ρ S h=>ih h
inductive zfN:Wsp
 |mk {S Q E} (a:Addr) (xs:List U):isL S a xs->(∀x∈xs,tk x=true)->xs.length<=4900->(∀l S',Ex S S'->S l=none->S' l=some (.lst ((z2Q xs).map λi=>.int i))->Q (.ref l) S')->zfN [.ref a] S Q E
def csN:z0N ["things","numbers","thing"] (z07 z2v) ["thing","numbers"] [none,some 1] (csc [(".0",.local),("thing",.local),("numbers",.free)]):={}
inductive iN(S:Sto)(a d:Addr)(xs:List U):List U->En->Sto->Prop
 |mk {S1 L} (dn:List U) (x:Option U):xs=dn++L->Ex S S1->S1 d=some (.dic true (prU 0 (z1p dn)))->iN S a d xs L [some (.ref a),some (.ref d),x] S1
inductive iC(d:Addr)(xs:List U)(S:Sto):List U->List U->En->Sto->Prop
 |mk {L} (dn:List U) (x:Option U):xs=dn++L->iC d xs S L (dn.map λk=>.int ((z1p xs).idxOf k:Nat)) [x,some (.ref d)] S
def zfO(T:Z.Tx)(D:Z.fd "numbered" z2v ["things"]):Z.f "numbered" 1 zfN:=by
 refine wF ["things","numbers","thing"] D (λf cdv A outer s H E hr nd=>z04 (z0n 1 nd (z6N true)) (z04 (z1U y0x rfl (z0E (z01 0) z0D) (z08 2 nd) (z03 (z0q (z0i (z8Y (hu9 hr) rfl).2 (z01 2) (z01 1)) (z03 (z7P (hu9 hr) rfl (z01 1) (z01 2) (zkU zie (T.b _ (by decide)) y0j (z00 (z01 1) z02)))) z0m))) (z03 (z0l (z0C ⟨csN,rfl,λcl C ex s H=>⟨z08 0 csN.nd,.nil,z1x rfl (z0L (z8G (hu9 hr) rfl) (z01 1) (z01 0))⟩,λg' e=>by cases e⟩ (z0E (z01 0) z0D)))))) (λus S Q E h=>by cases h;rfl) ?_;rintro _ S Q E ⟨a,xs,hl,hk,hz,q⟩;intro d hd;have e0:Ex S (up S d (.dic true [])):=Ex.up (λ_ _ h=>h) hd;refine⟨xs,e0.l hl,z2b (iN S a d xs) (.mk [] _ rfl e0 z05) ?_ ?_⟩
 .rintro ρ S1 h;generalize e:([]:List U)=L at h;obtain⟨dn,x,hx,e1,hS⟩:=h;subst e;rw[y0n]at hx;subst hx;refine⟨e1.l hl,xs,e1.l hl,zc7 (iC d xs S1) (.mk [] _ rfl) ?_ ?_⟩
  .rintro acc ρ S2 h;generalize e:([]:List U)=L at h;obtain⟨dn,x,hx⟩:=h;subst e;rw[y0n]at hx;subst hx;refine⟨e1.l hl,λl hl2=>q l _ (Ex.up e1 (e1.no hl2)) (e1.no hl2) (by rw[z05,z2Q,y0U];rfl)⟩
  .rintro y L acc ρ S2 h ih;generalize e:y::L=L' at h;obtain⟨dn,x,hx⟩:=h;subst e;refine⟨e1.l hl,_,_,hS,hk y (by rw[hx];simp),?_⟩;refine opt.of (by rw[z2e,if_pos (z1l.mpr (by rw[hx];simp))]) ⟨?_,?_⟩
   .rw[y01];rw[hx,y07,y0c]at hz;exact y0J (show dn.length<=4900 by lia) (by decide)
   have:=ih _ _ _ (.mk (dn++[y]) (some y) (by rw[hx];simp));rw[y0t]at this;rw[y2A];exact this
 .rintro y L ρ S1 h ih;generalize e:y::L=L' at h;obtain⟨dn,x,hx,e1,hS⟩:=h;subst e;refine⟨e1.l hl,_,_,hS,hk y (by rw[hx];simp),?_⟩;show cond ((z0t (prU 0 (z1p dn)) y).isSome != true) _ _;rw[z2e];have eu:z1p (dn++[y])=z3q (z1p dn) y:=by unfold z1p;exact z2g _ _ _
  by_cases hm:y∈z1p dn
  .rw[if_pos hm];exact ih _ _ (.mk (dn++[y]) _ (by rw[hx];simp) e1 (by rw[eu,z0O hm];exact hS))
  .rw[if_neg hm];refine⟨_,_,hS,_,_,hS,hk y (by rw[hx];simp),?_,ih _ _ (.mk (dn++[y]) _ (by rw[hx];simp) (Ex.up e1 hd) ?_)⟩
   .have:=z26 dn [];rw[z3t,z1p];rw[hx,y07,y0c]at hz;exact y0J (show(z0o [] dn).length<=4900 by simp at this;lia) (by decide)
   .rw[z05,eu,z0W hm,z3t,z6M hm]
end W
namespace W
open PySem L2 PySem.SeqAt Gu
variable[WW]{Z:Zx}
def zbu{c:WT}{b:WS}{W:Wd}{E:Xs}{ρ:En}{S:Sto}(I:Nat->En->Sto->Prop)(n:Nat)(h0:I n ρ S)(hs:∀m ρ S,I m ρ S->∀again:En->Sto->Prop,(∀k ρ' S',k<m->I k ρ' S'->again ρ' S')->c ρ S (λt S1=>cond t (b ρ S1 { nx:=again,rt:=W.rt,bk:=W.nx,ct:=again } E) (W.nx ρ S1)) (E ρ)):wWh c b ρ S W E:=by
 have go:∀N m ρ S,m<N->I m ρ S->whN c b N ρ S W E:=by
  intro N;induction N with
  |zero=>intro m ρ S h;lia
  |succ N ih=>intro m ρ S hm h;exact hs m ρ S h _ λk ρ' S' hk h'=>ih k ρ' S' (by lia) h'
 exact⟨n+1,go _ n ρ S (y1I _) h0⟩
def uI'(ns:List Int):U:=.tup (ns.map .int)
def uR(r:Row):U:=.tup [uI' r.1,uI' r.2]
def zkJ(nm:Int->U)(r:Row):U:=.tup [uI' r.1,.tup (r.2.map nm)]
structure zkO(S:Sto)(f:Addr)(nm:Int->U)(rows:List Row):Prop where
 ex:∃j cp,S f=some (.clo j cp)/\(WW.lam j).ps.length=1/\∀r,0<=r->r<(rows.length:Int)->∀S' Q',Ex S S'->(∀S'',Ex S' S''->Q' (zkJ nm (row rows r)) S'')->WW.rd j ([some (nm r)]++cp.drop 1) S' Q'
inductive za0:Wsp
 |mk {S Q E} (f:Addr) (nm:Int->U) (rows:List Row) (n:Nat):zkO S f nm rows->(∀x y,nm x=nm y->x=y)->(∀r,kok (isT (nm 0)) (nm r)=true)->z1n n rows->n<=60->(∀l S',Ex S S'->S l=none->S' l=some (.lst ((z13 rows).map uR))->Q (.ref l) S')->za0 [nm 0,.ref f] S Q E
def ze0:z0N ["first","row_at","order","places","found","rearranging","goings","going"] (z07 zbI) ["going","places"] [none,some 3] (csc [(".0",.local),("going",.local),("places",.free)]):={}
inductive iW(S:Sto)(nm:Int->U)(rows:List Row)(f lo lp lf:Addr):Nat->En->Sto->Prop
 |mk {S1} (i:Nat) (o:List Int) (x y z:Option U):Ex S S1->S1 lo=some (.lst (o.map nm))->S1 lp=some (.dic (isT (nm 0)) (prU 0 (o.map nm)))->S1 lf=some (.lst (((z13 rows).take i).map uR))->zaa rows o->i<=o.length->bfs rows (rows.length+1-i) i o=z2n rows ->
  iW S nm rows f lo lp lf (rows.length+1-i) [some (nm 0),some (.ref f),some (.ref lo),some (.ref lp),some (.ref lf),x,y,z] S1
inductive iF(S:Sto)(nm:Int->U)(o gs:List Int)(f lo lp lf:Addr)(fs:List U)(x y:U):List U->En->Sto->Prop
 |mk {S1} (dn L:List Int) (z:Option U):gs=dn++L->Ex S S1->S1 lo=some (.lst ((z0o o dn).map nm))->S1 lp=some (.dic (isT (nm 0)) (prU 0 ((z0o o dn).map nm)))->S1 lf=some (.lst fs)->iF S nm o gs f lo lp lf fs x y (L.map nm) [some (nm 0),some (.ref f),some (.ref lo),some (.ref lp),some (.ref lf),some x,some y,z] S1
inductive iP(d:Addr)(nm:Int->U)(o gs:List Int)(S:Sto):List U->List U->En->Sto->Prop
 |mk (dn L:List Int) (x:Option U):gs=dn++L->iP d nm o gs S (L.map nm) ((dn.map λg=>((o.idxOf g:Nat):Int)).map U.int) [x,some (.ref d)] S
def z4w{α:Type}{f:α->U}{xs:List α}{i:Nat}{x:α}(h:xs[i]?=some x):atI (xs.map f) (i:Int)=some (f x):=by have hl:=(y0z.mp h).1;unfold atI ixN;rw[if_pos (by lia),if_pos (by rw[y01];lia)];simp[h]
theorem z7i{nm:Int->U}(hi:∀x y,nm x=nm y->x=y)(g:Int):∀o:List Int,(o.map nm).idxOf (nm g)=o.idxOf g
 |[]=>rfl
 |x::o=>by
  rw[y0o,y2I,y2I,z7i hi g o];by_cases e:x=g
  .subst e;simp
  .rw[beq_false_of_ne e,beq_false_of_ne λz=>e (hi _ _ z)]
def z0S{nm:Int->U}(hi:∀x y,nm x=nm y->x=y){g:Int}{o:List Int}:nm g∈o.map nm↔g∈o:=⟨λh=>by obtain⟨y,hy,e⟩:=y0f.mp h;rw[<-hi _ _ e];exact hy,λh=>y0f.mpr ⟨g,h,rfl⟩⟩
def zgc(T:Z.Tx)(L:zjd Z.xa Z.P Z.K Z.mg Z.base 4)(D:Z.fd "rows_come_to" zbI ["first","row_at"]):Z.f "rows_come_to" 5 za0:=by
 refine wF ["first","row_at","order","places","found","rearranging","goings","going"] D (λf cdv A outer s H E hr nd=>z04 (z0n 2 nd (z0Y (z00 (z01 0) z02))) (z04 (z0n 3 nd (zc5 (hu9 hr) rfl (z01 0) z06)) (z04 (z0n 4 nd (z0Y z02)) (z04 (z2B y0x (z0i (z1g z7d) (sBu T z0V y0j (z00 (z01 4) z02)) (sBu T z0V y0j (z00 (z01 2) z02))) (z04 (z1k (zdi 1 L rfl (hr.mono (by decide)) (z00 (z0L z2T (z01 2) (sBu T z0V y0j (z00 (z01 4) z02))) z02)) (z0F rfl (z0b (z08 5 nd) (z0b (z08 6 nd) z0u)))) (z04 (z1U y0x rfl (z0E (z01 6) z0D) (z08 7 nd) (z03 (z0q (z0i (z8Y (hu9 hr) rfl).2 (z01 7) (z01 3)) (z04 (z7P (hu9 hr) rfl (z01 3) (z01 7) (sBu T z0V y0j (z00 (z01 2) z02))) (z03 (z0d (z6t y1e y1p y1q z2r (λ_ _ _ _ _=>z8M) (z01 2) (z00 (z01 7) z02))))) z0m))) (z03 (z0d (z6t y1e y1p y1q z2r (λ_ _ _ _ _=>z8M) (z01 4) (z00 (z0f (z00 (z01 5) (z00 (sTy T z1F y0G (z00 (z0C ⟨ze0,rfl,λ_ _ _ _ _=>⟨(z08 0 ze0.nd),.nil,(z1x rfl (z0L (z8G (hu9 hr) rfl) (z01 1) (z01 0)))⟩,λg' e=>by cases e⟩ (z0E (z01 6) z0D)) z02)) z02))) z02))))))) (z03 (z0l (z01 4))))))) (λus S Q E h=>by cases h;rfl) ?_;rintro _ S Q E ⟨f,nm,rows,n,⟨j,cp,hf,h1,hrow⟩,hi,hk,G,hn,q⟩;refine⟨show 1<=sizeLine by decide,λlo hlo=>⟨hk 0,λlp hlp=>⟨show 0<=sizeLine by decide,λlf hlf=>?_⟩⟩⟩;have el:Ex S (up S lo (.lst [nm 0])):=Ex.up (λ_ _ h=>h) hlo;have hlp0:=el.no hlp;have ep:=Ex.up (o:=.dic (isT (nm 0)) [(nm 0,.int 0)]) el hlp0;have hlf0:=ep.no hlf;have nop:lo≠lp:=λz=>by rw[z]at hlp;rw[z05]at hlp;cases hlp
 have npf:lp≠lf:=λz=>by rw[<-z,z05]at hlf;cases hlf
 have nof:lo≠lf:=λz=>by rw[<-z,z0k nop,z05]at hlf;cases hlf
 have h400:=G.few;refine zbu (iW S nm rows f lo lp lf) (rows.length+1-0) (.mk 0 [0] _ _ _ (Ex.up ep hlf0) (by rw[z0k nof,z0k nop,z05];rfl) (by rw[z0k npf,z05];rfl) z05 (ziz G) (by simp) rfl) ?_;rintro _ ρ S1 ⟨i,o,x,y,z,e1,so,sp,sf,Ln,hio,hb⟩ again ag;have hfl:((z13 rows).take i).length=i:=by
  rw[y0I];obtain⟨m0,em⟩:=z7g rows (rows.length+1-i) i o;rw[hb]at em;have:(z13 rows).length=(z2n rows).length:=by unfold z13 z2i;rw[y01]
  have:o.length<=(z2n rows).length:=by rw[em,y07];lia
  lia
 refine⟨_,.inl sf,_,.inl so,?_⟩;have hz:∀{k:Nat},k<=4500->k<sizeLine:=λh=>y0J h (by decide);refine z0Z (λc=>?_) (λc=>?_)
 .have c:(((((z13 rows).take i).map uR).length:Nat):Int)<((o.map nm).length:Nat):=y0m c;rw[y01,hfl,y01]at c;have hio':i<o.length:=by lia
  have eo:o[i]?=some o[i]:=y0a hio';have hro:o[i]∈o:=y1J hio';generalize o[i]=r at eo hro;obtain⟨r0,r1⟩:=Ln.rg r hro;have hrw:=z1D r0 r1;have hgl:=G.len _ hrw;have hlen:=Ln.len;refine opt.of rfl ⟨j,cp,e1 _ _ hf,_,.inl sf,_,.inl so,opt.of (by rw[y01,hfl];exact z4w eo) ⟨e1 _ _ hf,h1.symm,hrow r r0 r1 S1 _ e1 λS2 e2=>⟨rfl,?_⟩⟩⟩;have e12:Ex S S2:=λa o h=>e2 _ _ (e1 _ _ h);generalize hgs:(row rows r).2=gs at hgl;refine z2b (iF S nm o gs f lo lp lf (((z13 rows).take i).map uR) (uI' (row rows r).1) (.tup (gs.map nm))) (.mk [] gs _ rfl e12 (e2 _ _ so) (e2 _ _ sp) (e2 _ _ sf)) ?_ ?_
  .rintro ρ3 S3 h;generalize e:([]:List U)=L' at h;obtain⟨dn,L',z,hg,e3,so3,sp3,sf3⟩:=h;cases L'<;>cases e;rw[y0n]at hg;subst hg;obtain⟨m0,em⟩:=z7g rows (rows.length+1-(i+1)) (i+1) (z0o o gs);have hb':bfs rows (rows.length+1-(i+1)) (i+1) (z0o o gs)=z2n rows:=by
    rw[<-hb,show rows.length+1-i=(rows.length+1-(i+1))+1 by lia,z82 eo,hgs]
   rw[hb']at em;have L2:zaa rows (z0o o gs):=by rw[<-hgs];exact Ln.add G hro
   obtain⟨m1,em1⟩:=z1t gs o;have hoi:(z2n rows)[i]?=some r:=by rw[em,em1,y1a,y0A hio'];exact eo
   have hi':i+1<=(z0o o gs).length:=by rw[em1,y07];lia
   have hmem:∀g∈gs,g∈z0o o gs:=λg hg=>z11.mpr (.inr hg);have efound:(z13 rows).take (i+1)=(z13 rows).take i++[((row rows r).1,gs.map λg=>(((z0o o gs).idxOf g:Nat):Int))]:=by
    have e4:(z13 rows)[i]?=some ((row rows r).1,gs.map λg=>(((z0o o gs).idxOf g:Nat):Int)):=by unfold z13 z2i;rw[y0l,hoi];show some ((row rows r).1,(row rows r).2.map λg=>(((z2n rows).idxOf g:Nat):Int))=_;rw[hgs];congr 2;refine y20 λg hg=>?_;rw[em,zbz (hmem g hg)]
    rw[List.take_add_one,e4];rfl
   generalize z0o o gs=o' at *;refine⟨trivial,⟨_,.inl sf3⟩,zc7 (iP lp nm o' gs S3) (.mk [] gs _ rfl) ?_ ?_⟩
   .rintro acc ρ4 S4 h;generalize e:([]:List U)=L' at h;obtain⟨dn,L',z,hg⟩:=h;cases L'<;>cases e;rw[y0n]at hg;subst hg;refine⟨trivial,λl hl=>⟨_,.inl z05,show 2<=sizeLine by decide,?_⟩⟩;have nl:∀{b:Addr}{o:Ob},S3 b=some o->b≠l:=λh z=>by rw[z,hl]at h;cases h
    refine⟨_,(z0k (nl sf3)).trans sf3,by rw[y01,hfl];exact hz (by lia),ag (rows.length+1-(i+1)) _ _ (by lia) (.mk (i+1) o' _ _ _ (Ex.up (Ex.up e3 (e3.no hl)) hlf0) ?_ ?_ ?_ L2 hi' hb')⟩
    .rw[z0k nof,z0k (nl so3)];exact so3
    .rw[z0k npf,z0k (nl sp3)];exact sp3
    .rw[z05,efound,y0t];rfl
   .rintro g L acc ρ4 S4 h ih;generalize e:g::L=L' at h;obtain⟨dn,L',z,hg⟩:=h;cases L'<;>cases e;rename_i g L;have hgm:g∈o':=hmem g (by rw[hg];simp);refine⟨trivial,_,_,sp3,hk g,opt.of (by rw[z2e,if_pos ((z0S hi).mpr hgm),z7i hi,y2A]) ⟨?_,?_⟩⟩
    .rw[y01,y01];rw[hg,y07]at hgl;exact hz (by lia)
    .have:=ih _ _ S3 (.mk (dn++[g]) L (some (nm g)) (by rw[hg];simp));rw[y0t,y0t]at this;exact this
  .rintro g L ρ3 S3 h ih;generalize e:g::L=L' at h;obtain⟨dn,L',z,hg,e3,so3,sp3,sf3⟩:=h;cases L'<;>cases e;rename_i g L;refine⟨trivial,_,_,sp3,hk g,?_⟩;show cond ((z0t (prU 0 ((z0o o dn).map nm)) (nm g)).isSome != true) _ _;rw[z2e];have eu:z0o o (dn++[g])=z3q (z0o o dn) g:=z2g _ _ _;have hal:(z0o o dn).length<=4500:=by
    have:=z26 dn o;rw[hg,y07]at hgl;lia
   by_cases hm:g∈z0o o dn
   .rw[if_pos ((z0S hi).mpr hm)];exact ih _ _ (.mk (dn++[g]) L _ (by rw[hg];simp) e3 (by rw[eu,z0O hm];exact so3) (by rw[eu,z0O hm];exact sp3) sf3)
   .rw[if_neg λz=>hm ((z0S hi).mp z)];refine⟨_,.inl so3,_,_,sp3,hk g,by rw[z3t,y01];exact hz hal,⟨_,.inl ((z0k nop).trans so3)⟩,_,(z0k nop).trans so3,by rw[y01];exact hz hal,ih _ _ (.mk (dn++[g]) L _ (by rw[hg];simp) (Ex.up (Ex.up e3 hlp0) hlo) ?_ ?_ ?_)⟩
    .rw[z05,eu,z0W hm,y0t];rfl
    .rw[z0k nop.symm,z05,eu,z0W hm,y01,y0t,<-y01 (f:=nm),z6M λz=>hm ((z0S hi).mp z)];rfl
    .rw[z0k nof.symm,z0k npf.symm];exact sf3
 .have c:¬(((((z13 rows).take i).map uR).length:Nat):Int)<((o.map nm).length:Nat):=y0w c;rw[y01,hfl,y01]at c;have e:z2n rows=o:=by rw[<-hb];exact z8p (by lia)
  have e2:(z13 rows).take i=z13 rows:=y0D (by unfold z13 z2i;rw[y01,e];lia);rw[e2]at sf;exact q lf S1 e1 hlf0 sf
def Ex.refl(S:Sto):Ex S S:=λ_ _ h=>h
def Ex.trans{S S1 S2:Sto}(a:Ex S S1)(b:Ex S1 S2):Ex S S2:=λx o h=>b x o (a x o h)
def z1f{α:Type}{ck:Sto->Prop}{g:WX U}{te:WE}{k:En->List U->Sto->Prop}(L:List α)(f h:α->U){ρ:En}{S:Sto}(J:En->Prop)(h0:J ρ)(hz:L.length<=100000)(hck:∀S',Ex S S'->ck S')(hs:∀x∈L,∀ρ S',J ρ->Ex S S'->∀Qf:En->U->Sto->Prop,(∀ρ' S'',J ρ'->Ex S' S''->Qf ρ' (h x) S'')->g (f x) ρ S' λρ1 S1=>te ρ1 S1 (λu S3=>Qf ρ1 u S3) noQ)(hd:∀ρ S',J ρ->Ex S S'->k ρ (L.map h) S'):cmL ck g [] (em te) (L.map f) ρ S [] k:=by
 have go:∀(R dn:List α)(ρ:En)(S':Sto),L=dn++R->J ρ->Ex S S'->cmL ck g [] (em te) (R.map f) ρ S' (dn.map h) k:=by
  intro R;induction R with
  |nil=>intro dn ρ S' e j x;rw[y0n]at e;subst e;exact⟨hck S' x,hd ρ S' j x⟩
  |cons y R ih =>
   intro dn ρ S' e j x;refine⟨hck S' x,hs y (by rw[e];simp) ρ S' j x (λρ1 u S3=>(dn.map h).length<sizeLine/\cmL ck g [] (em te) (R.map f) ρ1 S3 (dn.map h++[u]) k) λρ' S'' j' x'=>⟨?_,?_⟩⟩
   .rw[y01];have:dn.length<=L.length:=by rw[e,y07];lia
    exact y0J (show dn.length<=100000 by lia) (by decide)
   .have:=ih (dn++[y]) ρ' S'' (by rw[e];simp) j' (x.trans x');rw[y0t]at this;exact this
 exact go L [] ρ S rfl h0 (.refl S)
inductive z8i:Wsp
 |mk {S Q E} (a:Addr) (ks gs:List Int):isL S a (ks.map .int)->(∀g∈gs,0<=g/\g<(ks.length:Int))->gs.length<=1000->(∀S',Ex S S'->Q (uI' (gs.map λg=>ks.getD g.toNat 0)) S')->z8i [.ref a,uI' gs] S Q E
def zdP:z0N ["kinds","goings"] (z07 zc0) ["going","kinds"] [none,some 0] (csc [(".0",.local),("going",.local),("kinds",.free)]):={}
def zfu(T:Z.Tx)(D:Z.fd "kinds_gone_to" zc0 ["kinds","goings"]):Z.f "kinds_gone_to" 1 z8i:=by
 refine wF ["kinds","goings"] D (λf cdv A outer s H E hr nd=>z03 (z0l (sTy T z1F y0G (z00 (z0C ⟨zdP,rfl,λ_ _ _ _ _=>⟨(z08 0 zdP.nd),.nil,(z1x rfl (z0L z2T (z01 1) (z01 0)))⟩,λg' e=>by cases e⟩ (z0E (z01 1) z0D)) z02)))) (λus S Q E h=>by cases h;rfl) ?_;rintro _ S Q E ⟨a,ks,gs,hl,hb,hz,q⟩;refine z1f gs U.int (λg=>.int (ks.getD g.toNat 0)) (λρ=>∃x,ρ=[x,some (.ref a)]) ⟨_,rfl⟩ (by lia) (λ_ _=>trivial) ?_ ?_
 .rintro g hg ρ S' ⟨x,rfl⟩ e Qf qf;obtain⟨g0,g1⟩:=hb g hg;have z:atI (ks.map U.int) g=some (.int (ks.getD g.toNat 0)):=by
   have:=z4w (f:=U.int) (xs:=ks) (i:=g.toNat) (x:=ks.getD g.toNat 0) (by rw[y0a (by lia)];simp[show g.toNat<ks.length by lia])
   rwa [show((g.toNat:Nat):Int)=g by lia]at this
  have w:=qf [some (.int g),some (.ref a)] S' ⟨_,rfl⟩ (.refl _);exact⟨_,e.l hl,opt.of z w⟩
 .rintro ρ S' ⟨x,rfl⟩ e l hl2;refine⟨_,.inl z05,?_⟩;rw[show(gs.map λg=>U.int (ks.getD g.toNat 0))=(gs.map λg=>ks.getD g.toNat 0).map U.int by rw[y0U];rfl];exact q _ (Ex.up e (e.no hl2))
def zbm{xa:Nat->Addr}{X:Cx}:z6g xa X noX:=λσ pins H s e s' I h=>by obtain⟨ea,C,H',_,_,_,_,_,_,q⟩:=h;exact q.elim
def z1P(ns:List Int):kyL (ns.map U.int)=true/\z6y (ns.map U.int)=0:=by
 induction ns with
 |nil=>exact⟨rfl,rfl⟩
 |cons n ns ih=>simp only[y0o,kyL,z6y,ky,dep,ih.1,ih.2];exact⟨rfl,rfl⟩
def stU(p:Int × List Int):U:=.tup [.int p.1,uI' p.2]
def zes(ns:List Int):tk (uI' ns)=true:=by obtain⟨h1,h2⟩:=z1P ns;simp only[uI',tk,isT,ky,dep,h1,h2];decide
def zjy(p:Int × List Int):tk (stU p)=true:=by obtain⟨h1,h2⟩:=z1P p.2;simp only[stU,uI',tk,isT,ky,kyL,dep,z6y,h1,h2];decide
theorem z1y:∀{a b:List Int},uI' a=uI' b->a=b
 |[],[],_=>rfl
 |[],_::_,h=>by simp[uI']at h
 |_::_,[],h=>by simp[uI']at h
 |x::a,y::b,h=>by simp only[uI',y0o,U.tup.injEq,List.cons.injEq,U.int.injEq]at h;rw[h.1,z1y (a:=a) (b:=b) (by simp only[uI',h.2])]
def zis(p q:Int × List Int)(h:stU p=stU q):p=q:=by obtain⟨a,b⟩:=p;obtain⟨c,d⟩:=q;simp only[stU,U.tup.injEq,List.cons.injEq,U.int.injEq,and_true]at h;rw[h.1,z1y h.2]
def zeU(ks:List Int)(rows:List Row):prs (ks.map U.int) (rows.map uR)=(ks.zip rows).map λp=>.tup [.int p.1,uR p.2]:=by unfold prs;rw[List.zipWith_map,List.zip,List.map_zipWith]
inductive z6L:Wsp
 |mk {S Q E} (a:Addr) (rows:List Row) (n:Nat):isL S a (rows.map uR)->z6F n rows->n<=60->(cnt (z6b rows)<=60->∀l S',Ex S S'->S l=none->S' l=some (.lst ((z6b rows).map U.int))->Q (.ref l) S')->(60<cnt (z6b rows)->∀S',Ex S S'->E 11 S')->z6L [.ref a] S Q E
def zj5:z0N ["rows","kinds","count"] (z07 z60) ["kind","rearranging","goings","kinds"] [none,none,none,some 1] (csc [(".0",.local),("kind",.local),("rearranging",.local),("goings",.local),("kinds_gone_to",.globalImplicit),("kinds",.free)]):={}
def zjc:z0N ["rows","kinds","count"] (z07 z60) ["rearranging","goings"] [none,none] (csc [(".0",.local),("rearranging",.local),("goings",.local)]):={}
inductive iK(S:Sto)(a:Addr)(rows:List Row):Nat->En->Sto->Prop
 |mk {S1} (m:Nat) (c:Int) (ks:List Int) (l:Addr):Ex S S1->S l=none->S1 l=some (.lst (ks.map U.int))->z3B rows ks->zaL rows ks->(c=0\/c<=60)->0<=c->(rows.length:Int)+1<=m+c->z6W rows m c ks=z6b rows->iK S a rows m [some (.ref a),some (.ref l),some (.int c)] S1
def zcX(T:Z.Tx)(JN:Z.f "numbered" 1 zfN)(Jd:Z.f "kinds_gone_to" 1 z8i)(D:Z.fd "kinds_of_rows" z60 ["rows"]):Z.f "kinds_of_rows" 2 z6L:=by
 refine wF ["rows","kinds","count"] D (λf cdv A outer s H E hr nd=>z04 (z0n 1 nd (z09 JN (hr.mono (by decide)) z0g (z00 (z0C ⟨zjc,rfl,λ_ _ _ _ _=>⟨(z0F rfl (z0b (z08 0 zjc.nd) (z0b (z08 1 zjc.nd) z0u))),.nil,(z1x rfl (z01 0))⟩,λg' e=>by cases e⟩ (z0E (z01 0) z0D)) z02))) (z04 (z0n 2 nd z06) (z04 (z2B y0x (z0i (z1g z7d) (z01 2) (z0j z12 (sBu T (zfU rfl) y32 (z00 (z01 1) z02)) z06)) (z04 (z0n 2 nd (z0j z12 (sBu T (zfU rfl) y32 (z00 (z01 1) z02)) z06)) (z04 (z0q (z0i (z1g zbl) (z01 2) (zaz T rfl rfl)) (z03 (z0s T.x rfl z0e)) z0m) (z03 (z0n 1 nd (z09 JN (hr.mono (by decide)) z0g (z00 (z0C ⟨zj5,rfl,λ_ _ _ _ _=>⟨(z0F rfl (z0b (z08 0 zj5.nd) (z0b (z0F rfl (z0b (z08 1 zj5.nd) (z0b (z08 2 zj5.nd) z0u))) z0u))),.nil,(z1x rfl (z0f (z00 (z01 0) (z00 (z09 Jd (hr.mono (by decide)) zbm (z00 (z01 3) (z00 (z01 2) z02))) z02))))⟩,λg' e=>by cases e⟩ (zbQ T (T.b _ (by decide)) (z00 (z01 1) (z00 (z01 0) z02)))) z02))))))) (z03 (z0l (z01 1)))))) (λus S Q E h=>by cases h;rfl) ?_;rintro _ S Q E ⟨a,rows,n,hl,G,hn,q,qx⟩;have h400:=G.few;refine⟨_,hl,z1f rows uR (λr=>uI' r.1) (λρ=>∃x y,ρ=[x,y]) ⟨_,_,rfl⟩ (by lia) (λS' e=>e.l hl) ?_ ?_⟩
 .rintro r _ ρ S' ⟨x,y,rfl⟩ e Qf qf;exact⟨rfl,qf [some (uI' r.1),some (uI' r.2)] S' ⟨_,_,rfl⟩ (.refl _)⟩
 rintro ρ S1 ⟨x,y,rfl⟩ e1 l1 hl1;refine .mk l1 _ (.inl z05) (λx hx=>by obtain⟨r,_,rfl⟩:=y0f.mp hx;exact zes _) (by rw[y01];lia) λl2 S2 e2 hl2 hS2=>?_;have ea:=Ex.up (o:=.lst (rows.map λr=>uI' r.1)) e1 (e1.no hl1);have e12:=ea.trans e2;rw[show(rows.map λr=>uI' r.1)=(rows.map (·.1)).map uI' by rw[y0U];rfl,z83 uI' (λ_ _=>z1y)]at hS2;refine zbu (iK S a rows) (rows.length+1) (.mk _ 0 _ l2 e12 (ea.no hl2) hS2 (zdX G) (zhp rows) (.inl rfl) (y2W _) (by lia) rfl) ?_;rintro m ρ S3 ⟨_,c,ks,l,e3,hl3,hS3,GK,NK,hc6,hc0,hm,hk⟩ again ag;obtain⟨x1,x2⟩:=z72 (zhJ G GK) λk hk=>(GK.rg k hk).1;obtain⟨c1,c2⟩:=zap (zhJ G GK) GK.rg;have ec:cnt ks-1+1=cnt ks:=by lia
 refine⟨ks,cnt ks-1,.inl hS3,x1,x2,?_⟩;show cond (decide (c<cnt ks-1+1)) _ _;rw[ec];refine z0Z (λcc=>?_) (λcc=>?_)
 .have cc:=y0m cc;refine⟨ks,cnt ks-1,.inl hS3,x1,x2,?_⟩;show cond (decide (cnt ks-1+1>60)) _ _;rw[ec];have hmono:=z4e G m c ks NK GK;rw[hk]at hmono;refine z0Z (λcx=>qx (by have:=y0m cx;lia) S3 e3) (λcx=>?_);have c60:=y0w cx;have hkl:=GK.len;have hsl:=z5S GK;refine⟨_,_,_,_,.lst (.inl hS3),.lst (e3.l hl),by rw[y01,y01];exact hkl,?_⟩;rw[zeU];refine z1f (ks.zip rows) _ (λp=>stU (p.1,p.2.2.map λg=>ks.getD g.toNat 0)) (λρ=>∃x y z,ρ=[x,y,z,some (.ref l)]) ⟨_,_,_,rfl⟩ (by rw[y2J];lia) (λS' e=>⟨.inl (e _ _ hS3),(e3.trans e).l hl⟩) ?_ ?_
  .rintro⟨k,r⟩ hp ρ S4 ⟨x,y,z,rfl⟩ e4 Qf qf;have hr:=(y2e hp).2;refine⟨rfl,rfl,.mk l ks r.2 (.inl (e4 _ _ hS3)) (λg hg=>by rw[hkl];exact G.go r hr g hg) (by rw[G.len r hr];lia) λS5 e5=>⟨show 2<=sizeLine by decide,qf [some (.int k),some (uI' r.1),some (uI' r.2),some (.ref l)] S5 ⟨_,_,_,rfl⟩ e5⟩⟩
  rintro ρ S4 ⟨x,y,z,rfl⟩ e4 l5 hl5;have e34:=e3.trans e4;have e5:=Ex.up (o:=.lst ((ks.zip rows).map λp=>stU (p.1,p.2.2.map λg=>ks.getD g.toNat 0))) e34 (e34.no hl5);refine .mk l5 _ (.inl z05) (λx hx=>by obtain⟨r,_,rfl⟩:=y0f.mp hx;exact zjy _) (by rw[y01,y2J];lia) λl6 S6 e6 hl6 hS6=>?_;rw[show((ks.zip rows).map λp=>stU (p.1,p.2.2.map λg=>ks.getD g.toNat 0))=(stepK ks rows).map stU by unfold Gu.stepK;rw[y0U];rfl,z83 stU zis]at hS6;cases m with
  |zero=>lia
  |succ m =>
   exact ag m _ S6 (y1I m) <| .mk m (cnt ks) _ l6 (e5.trans e6) (e5.no hl6) hS6 (zaF GK) (zdM hkl) (.inr (by lia)) (by lia) (by lia) (by rw[<-hk];exact(if_pos cc).symm)
 .have cc:=y0w cc;have hkk:z6b rows=ks:=by
   rw[<-hk];cases m with
   |zero=>rfl
   |succ m=>exact if_neg cc
  exact q (by rw[hkk];lia) l S3 e3 hl3 (by rw[hkk];exact hS3)
end W
namespace W
open PySem L2 PySem.SeqAt PySem.Spec Gu
variable[WW]{Z:Zx}
inductive zdu:Wsp
 |mk {S Q E} (x:Str):x.length<=1000000->(∀S',Ex S S'->Q (.bl (z10 x)) S')->zdu [.str x] S Q E
def zkI:z0N ["text"] (z07 z5i) ["sign"] [none] (csc [(".0",.local),("sign",.local),("SMALL_LETTERS",.globalImplicit)]):={}
def z8J(T:Z.Tx)(D:Z.fd "is_name" z5i ["text"]):Z.f "is_name" 1 zdu:=by
 refine wF ["text"] D (λf cdv A outer s H E hr nd=>z03 (z0l (z6p (z4R (z1g z49) (z1g z49) z06 (sBu T z0V y0j (z00 (z01 0) z02)) (zaz T rfl rfl)) (z5U (sBu T (zh5 rfl) PyProof.Rows.boot_all (z00 (z0C ⟨zkI,rfl,λ_ _ _ _ _=>⟨(z08 0 zkI.nd),.nil,(z1x rfl (z2O zgK (z01 0) (z6z T rfl rfl)))⟩,λg' e=>by cases e⟩ (z0E (z01 0) z0D)) z02)))))) (λus S Q E h=>by cases h<;>rfl) ?_;rintro _ S Q E ⟨x,hx,q⟩;have hz:x.length<=sizeLine:=y0e hx (by decide);unfold z10 at q;refine⟨hz,?_⟩;show cond (decide ((1:Int)<=(x.length:Int))) _ _;refine z0Z (λc1=>?_) (λc1=>?_)
 .show cond (decide ((x.length:Int)<=12)) _ _;have c1:=y0m c1;refine z0Z (λc2=>?_) (λc2=>?_)
  .have c2:=y0m c2;refine z1f (sg x) (λc=>U.str ⟨#[c]⟩) (λc=>U.bl (decide (97<=c/\c<=122))) (λρ=>∃u,ρ=[u]) ⟨_,rfl⟩ (by rw[z0T];lia) (λ_ _=>trivial) ?_ ?_
   .rintro c _ ρ S' ⟨u,rfl⟩ e Qf qf;have w:=qf [some (.str ⟨#[c]⟩)] S' ⟨_,rfl⟩ (.refl _);rw[<-zdt]at w;exact w
   .rintro ρ S' ⟨u,rfl⟩ e l hl;refine⟨(sg x).map λc=>decide (97<=c/\c<=122),.inl (by rw[z05,y0U];rfl),?_⟩;simp only[y1x (show 1<=x.length/\x.length<=12 by lia),Bool.true_and]at q;rw[List.all_map];exact q _ (Ex.up e (e.no hl))
  .have c2:=y0w c2;have w:=q S (.refl S);rw[y0v (show ¬(1<=x.length/\x.length<=12)by lia),y2Z]at w;exact w
 .have c1:=y0w c1;have w:=q S (.refl S);rw[y0v (show ¬(1<=x.length/\x.length<=12)by lia),y2Z]at w;exact w
def txU:U->Str
 |.int i=>zbE i
 |.str x=>x
 |_=>Str.empty
def goP:U->Prop
 |.int i=>i.natAbs<10^60
 |.str x=>x.length<=61
 |_=>False
def goP.len{u:U}(h:goP u):(txU u).length<=61:=by
 cases u<;>simp only[goP]at h
 .exact(z25 h).2
 .exact h
inductive ziD:Wsp
 |mk {S Q E} (u:U):goP u->Q (.str (txU u)) S->ziD [u] S Q E
def z2y(T:Z.Tx)(D:Z.fd "plainly_written" z4M ["part"]):Z.f "plainly_written" 1 ziD:=by
 refine wF ["part"] D (λf cdv A outer s H E hr nd=>z03 (z0l (sTy T zeE y1o (z00 (z01 0) z02)))) (λus S Q E h=>by cases h<;>rfl) ?_;rintro _ S Q E ⟨u,g,q⟩;cases u<;>simp only[goP]at g
 .exact⟨z1R (by lia),q⟩
 .exact q
def OkW(w:List Int):Prop:=w.length<=100000/\∀i∈w,0<=i/\i<10^18
inductive z7F:Wsp
 |mk {S Q E} (w:List Int):OkW w->(∀S',Ex S S'->Q (.str (z1M w)) S')->z7F [uI' w] S Q E
def zhi:z0N ["word"] (z07 z5d) ["letter"] [none] (csc [(".0",.local),("letter",.local),("str",.globalImplicit)]):={}
def z3S(T:Z.Tx)(D:Z.fd "word_written" z5d ["word"]):Z.f "word_written" 1 z7F:=by
 refine wF ["word"] D (λf cdv A outer s H E hr nd=>z03 (z0l (za8 (z0i (z1g zbl) (sBu T z0V y0j (z00 (z01 0) z02)) z06) (zd4 z0e (z00 (z0C ⟨zhi,rfl,λ_ _ _ _ _=>⟨(z08 0 zhi.nd),.nil,(z1x rfl (sTy T zeE y1o (z00 (z01 0) z02)))⟩,λg' e=>by cases e⟩ (z0E (z01 0) z0D)) z02)) (z6z T rfl rfl)))) (λus S Q E h=>by cases h<;>rfl) ?_;rintro _ S Q E ⟨w,hw,q⟩;show cond (decide ((((w.map U.int).length:Nat):Int)>0)) _ _;rw[y01];unfold z1M at q;refine z0Z (λc=>?_) (λc=>?_)
 .have c:=y0m c;rw[if_neg (λz=>by rw[z]at c;simp at c)]at q;refine⟨trivial,z1f w U.int (λi=>.str (zbE i)) (λρ=>∃u,ρ=[u]) ⟨_,rfl⟩ hw.1 (λ_ _=>trivial) ?_ ?_⟩
  .rintro i hi ρ S' ⟨u,rfl⟩ e Qf qf;have:=hw.2 i hi;exact⟨z1R (by lia),qf [some (.int i)] S' ⟨_,rfl⟩ (.refl _)⟩
  .rintro ρ S' ⟨u,rfl⟩ e l hl;refine⟨w.map zbE,.inl (by rw[z05,y0U];rfl),?_,q _ (Ex.up e (e.no hl))⟩;have h:=(z20 (y:=str "") (xs:=w.map zbE) (B:=61) λp hp=>by obtain⟨i,hi,rfl⟩:=y0f.mp hp;have:=hw.2 i hi;exact(z25 (by lia)).2).2;have:=hw.1;refine y0e h ?_;rw[y01];show w.length*(61+0)<=_;lia
 .have c:=y0w c;rw[if_pos (y12.mp (by lia))]at q;exact q S (.refl S)
abbrev z8d:=List Int × List U
def uRG(r:z8d):U:=.tup [uI' r.1,.tup r.2]
structure OkR(r:z8d):Prop where
 fw:r.1.length<=20
 fig:∀i∈r.1,0<=i/\i<10^18
 few:r.2.length<=20
 go:∀g∈r.2,goP g
def zfX(r:z8d):Str:=Str.join (str " ") (z1M r.1::r.2.map txU)
def zbg(rs:List z8d):Str:=Str.join (str " / ") (rs.map zfX)
def z2s{w:List Int}(h:∀i∈w,0<=i/\i<10^18):(z1M w).length<=w.length*61+1:=by
 unfold z1M;split
 .rename_i z;subst z;decide +kernel
 .have h:=(z20 (y:=str "") (xs:=w.map zbE) (B:=61) λp hp=>by obtain⟨i,hi,rfl⟩:=y0f.mp hp;have:=h i hi;exact(z25 (by lia)).2).1;rw[y01]at h;exact y0e h (by show w.length*(61+0)<=_;lia)
def z5a{r:z8d}(h:OkR r):(zfX r).length<=27321/\((z1M r.1::r.2.map txU).map (·.length)).sum+(z1M r.1::r.2.map txU).length*(str " ").length<=27321:=by
 have h1:=z2s h.fig;have f1:=h.fw;have f2:=h.few;have hb:=z20 (y:=str " ") (xs:=z1M r.1::r.2.map txU) (B:=1300) λp hp=>by
  rcases y0k.mp hp with rfl|hp
  .lia
  .obtain⟨g,hg,rfl⟩:=y0f.mp hp;have:=(h.go g hg).len;lia
 have e:(z1M r.1::r.2.map txU).length*(1300+(str " ").length)<=27321:=by rw[y0c,y01];show(r.2.length+1)*1301<=_;lia
 exact⟨y0e hb.1 e,y0e hb.2 e⟩
inductive zcB:Wsp
 |mk {S Q E} (r:z8d):OkR r->(∀S',Ex S S'->Q (.str (zfX r)) S')->zcB [uRG r] S Q E
def ziP:z0N ["row","rearranging","goings"] (z07 z8m) ["going"] [none] (csc [(".0",.local),("going",.local),("plainly_written",.globalImplicit)]):={}
def z42(T:Z.Tx)(Jq:Z.f "word_written" 1 z7F)(Jh:Z.f "plainly_written" 1 ziD)(D:Z.fd "row_written" z8m ["row"]):Z.f "row_written" 2 zcB:=by
 refine wF ["row","rearranging","goings"] D (λf cdv A outer s H E hr nd=>z04 (z1k (z01 0) (z0F rfl (z0b (z08 1 nd) (z0b (z08 2 nd) z0u)))) (z03 (z0l (zd4 z0e (z00 (z0j z12 (z0Y (z00 (z09 Jq (hr.mono (by decide)) z0g (z00 (z01 1) z02)) z02)) (z0C ⟨ziP,rfl,λ_ _ _ _ _=>⟨(z08 0 ziP.nd),.nil,(z1x rfl (z09 Jh (hr.mono (by decide)) zbm (z00 (z01 0) z02)))⟩,λg' e=>by cases e⟩ (z0E (z01 2) z0D))) z02))))) (λus S Q E h=>by cases h<;>rfl) ?_;rintro _ S Q E ⟨r,hr,q⟩;have f1:=hr.fw;have f2:=hr.few;refine⟨rfl,trivial,.mk r.1 ⟨by lia,hr.fig⟩ λS1 e1=>⟨show 1<=sizeLine by decide,λl1 hl1=>?_⟩⟩;have e2:=Ex.up (o:=.lst [.str (z1M r.1)]) e1 (e1.no hl1);have z2:up S1 l1 (.lst [.str (z1M r.1)]) l1=_:=z05;generalize up S1 l1 (.lst [.str (z1M r.1)])=S2 at e2 z2⊢;have:=z1f r.2 id (λg=>.str (txU g)) (λρ=>∃u,ρ=[u]) (ρ:=[none]) (S:=S2) ⟨_,rfl⟩ (by lia) (ck:=λ_=>True) (λ_ _=>trivial) (g:=gN 0) (te:=z8x ziD (z2W (z7n 0) zds)) (k:=λ_ acc S3=>nw (.lst acc) S3 λu S4=>zju (.ref l1) u S4 λu S5=>zaD (.str (str " ")) [u] S5 Q) ?_ ?_
 .rw[List.map_id]at this;exact this
 .rintro g hg ρ S' ⟨u,rfl⟩ e Qf qf;exact .mk g (hr.go g hg) (qf [some g] S' ⟨_,rfl⟩ (.refl _))
 .rintro ρ S' ⟨u,rfl⟩ e l hl;refine⟨_,_,Ex.up (.refl _) hl _ _ (e _ _ z2),z05,y0e (show 1+(r.2.map λg=>U.str (txU g)).length<=21 by rw[y01];lia) (by decide),λl4 hl4=>⟨z1M r.1::r.2.map txU,.inl (by rw[z05,y0o,y0U];rfl),y0e (z5a hr).2 (by decide),q _ ?_⟩⟩;have e3:=Ex.up (o:=.lst (r.2.map λg=>U.str (txU g))) (e2.trans e) ((e2.trans e).no hl);exact Ex.up e3 (e3.no hl4)
def zj3(rs:List z8d):Prop:=rs.length<=400/\∀r∈rs,OkR r
inductive isS(S:Sto):U->List U->Prop
 |lst {a us}:isL S a us->isS S (.ref a) us
 |tup {us}:isS S (.tup us) us
def isS.ex{S S':Sto}{u:U}{us:List U}(h:isS S u us)(e:Ex S S'):isS S' u us:=by
 cases h with
 |lst h=>exact .lst (e.l h)
 |tup=>exact .tup
inductive zae:Wsp
 |mk {S Q E} (u:U) (rs:List z8d):isS S u (rs.map uRG)->zj3 rs->(∀S',Ex S S'->Q (.str (zbg rs)) S')->zae [u] S Q E
def ziC:z0N ["rows"] (z07 z4Q) ["row"] [none] (csc [(".0",.local),("row",.local),("row_written",.globalImplicit)]):={}
def z3k(T:Z.Tx)(JM:Z.f "row_written" 2 zcB)(D:Z.fd "rows_written" z4Q ["rows"]):Z.f "rows_written" 3 zae:=by
 refine wF ["rows"] D (λf cdv A outer s H E hr nd=>z03 (z0l (zd4 z0e (z00 (z0C ⟨ziC,rfl,λ_ _ _ _ _=>⟨(z08 0 ziC.nd),.nil,(z1x rfl (z09 JM (hr.mono (by decide)) zbm (z00 (z01 0) z02)))⟩,λg' e=>by cases e⟩ (z0E (z01 0) z0D)) z02)))) (λus S Q E h=>by cases h<;>rfl) ?_;rintro _ S Q E ⟨u,rs,hu,hr,q⟩;have key:∀ck:Sto->Prop,(∀S',Ex S S'->ck S')->cmL ck (gN 0) [] (em (z8x zcB (z2W (z7n 0) zds))) (rs.map uRG) [none] S [] λ_ acc S3=>nw (.lst acc) S3 λu S4=>zaD (.str (str " / ")) [u] S4 Q:=λck hck=>?_
 .cases hu with
  |lst h=>exact⟨trivial,_,h,key _ λS' e=>e.l h⟩
  |tup=>exact⟨trivial,key _ λ_ _=>trivial⟩
 refine z1f rs uRG (λr=>.str (zfX r)) (λρ=>∃u,ρ=[u]) ⟨_,rfl⟩ (by have:=hr.1;lia) hck ?_ ?_
 .rintro r hm ρ S' ⟨u,rfl⟩ e Qf qf;exact .mk r (hr.2 r hm) λS'' e'=>qf [some (uRG r)] S'' ⟨_,rfl⟩ e'
 .rintro ρ S' ⟨u,rfl⟩ e l hl;refine⟨rs.map zfX,.inl (by rw[z05,y0U];rfl),?_,q _ (Ex.up e (e.no hl))⟩;have h:=(z20 (y:=str " / ") (xs:=rs.map zfX) (B:=27321) λp hp=>by obtain⟨r,hm,rfl⟩:=y0f.mp hp;exact(z5a (hr.2 r hm)).1).2;have:=hr.1;refine y0e h ?_;rw[y01];show rs.length*27324<=_;lia
noncomputable def wrT:List (Str × Str):=[("name","plainly_written"),("number","plainly_written"),("word","word_written"),("ring","word_written"),("rows","rows_written")]
structure Md(Z:Zx)(S:Sto):Prop where
 dd:z1N Z.K (Z.da "DEEDS")=true
 dq:∀p∈z1B,∃t,PySem.W.nsIn Z.K (Z.da "DEEDS") p.1=some (some (.ref t))/\zdF Z.K t p.2=true
 dw:z1N Z.K (Z.da "WRITERS")=true
 wq:∀p∈wrT,PySem.W.nsIn Z.K (Z.da "WRITERS") p.1=some (some (.ref (Z.fa p.2)))
def Md.any{S S':Sto}(h:Md Z S):Md Z S':=⟨h.dd,h.dq,h.dw,h.wq⟩
def Md.ex{S S':Sto}(h:Md Z S)(_:Ex S S'):Md Z S':=h.any
inductive z41(S:Sto):Str->U->Str->Prop
 |pl {k u}:k="name"\/k="number"->goP u->z41 S k u (txU u)
 |wd {k w}:k="word"\/k="ring"->OkW w->z41 S k (uI' w) (z1M w)
 |rs {u rs}:isS S u (rs.map uRG)->zj3 rs->z41 S "rows" u (zbg rs)
theorem z41.ex{S S':Sto}{k:Str}{u:U}{x:Str}(h:z41 S k u x)(e:Ex S S'):z41 S' k u x:=by
 cases h with
 |pl a b=>exact .pl a b
 |wd a b=>exact .wd a b
 |rs a b=>exact .rs (a.ex e) b
theorem z41.len{S:Sto}{k:Str}{u:U}{x:Str}(h:z41 S k u x):x.length<=10930000:=by
 cases h with
 |pl a b=>have:=b.len;lia
 |wd a b=>have:=z2s b.2;have:=b.1;lia
 |@rs u rs a b =>
  have h:=(z20 (y:=str " / ") (xs:=rs.map zfX) (B:=27321) λp hp=>by obtain⟨r,hm,rfl⟩:=y0f.mp hp;exact(z5a (b.2 r hm)).1).1;have:=b.1;refine y0e h ?_;rw[y01];show rs.length*27324<=_;lia
inductive z2P(S:Sto):List Str->List U->List Str->Prop
 |nil:z2P S [] [] []
 |cons {k u x ks us xs}:z41 S k u x->z2P S ks us xs->z2P S (k::ks) (u::us) (x::xs)
def z3y(name:Str)(xs:List Str):Str:=Str.join (str " ") (name::xs)
inductive zcW(Z:Zx):Wsp
 |mk {S Q E} (name:Str) (ks:List Str) (ds:List U) (xs:List Str):Md Z S->(name,ks)∈z1B->z2P S ks ds xs->((name::xs).map (·.length)).sum+(name::xs).length<=16777216->(∀S',Ex S S'->Q (.str (z3y name xs)) S')->zcW Z [.tup (.str name::ds)] S Q E
inductive zhX(Z:Zx):Addr->Wsp->Prop
 |pl:zhX Z (Z.fa "plainly_written") ziD
 |wd:zhX Z (Z.fa "word_written") z7F
 |rs:zhX Z (Z.fa "rows_written") zae
def at0{α:Type}{a:α}{r:List α}:atI (a::r) 0=some a:=by unfold atI ixN;simp
def z2P.at_{S:Sto}{ks:List Str}{us:List U}{xs:List Str}(h:z2P S ks us xs):us.length=ks.length/\xs.length=ks.length/\prs (ks.map U.str) us=List.zipWith (λk u=>U.tup [.str k,u]) ks us:=by
 induction h with
 |nil=>exact⟨rfl,rfl,rfl⟩
 |cons a b ih =>
  obtain⟨h1,h2,h3⟩:=ih;refine⟨by simp[h1],by simp[h2],?_⟩;unfold prs at h3⊢;rw[y0o,List.zipWith_cons_cons,List.zipWith_cons_cons,h3]
inductive iLn(S:Sto)(d:U)(name:Str)(lp:Addr)(all:List Str):List U->En->Sto->Prop
 |mk {S1} (ks:List Str) (us:List U) (dn xs:List Str) (x y z:Option U):z2P S ks us xs->all=dn++xs->Ex S S1->S1 lp=some (.lst ((name::dn).map .str))->dn.length+xs.length<=100->iLn S d name lp all (prs (ks.map U.str) us) [some d,some (.str name),some (.ref lp),x,y,z] S1
def z3j(T:Z.Tx)(hT:Tab Z 6 (zhX Z))(D:Z.fd "line_written" z1V ["deed"]):Z.f "line_written" 7 (zcW Z):=by
 refine wF ["deed","name","parts","kind","part","writer"] D (λf cdv A outer s H E hr nd=>z04 (z0n 1 nd (z0L z2T (z01 0) z06)) (z04 (z0n 2 nd (z0Y (z00 (z01 1) z02))) (z04 (z1U y0x rfl (zbQ T (T.b _ (by decide)) (z00 (zcq T (zi8 T) (z01 1)) (z00 (z14 (z01 0) (z45 z06) z48) z02))) (z0F rfl (z0b (z08 3 nd) (z0b (z08 4 nd) z0u))) (z04 (z0n 5 nd (zcq T (zi8 T) (z01 3))) (z03 (z0d (zik (z01 2) (z00 (z8b 5 hT (hr.mono (by decide)) (z2x λ_ _ _ z=>z) (z00 (z01 4) z02)) z02)))))) (z03 (z0l (zd4 z0e (z00 (z01 2) z02))))))) (λus S Q E h=>by cases h<;>rfl) ?_;rintro _ S Q E ⟨name,ks,ds,xs,M,hm,hp,hz,q⟩;obtain⟨l1,l2,l3⟩:=hp.at_;have hk5:ks.length<=5:=by
  have:∀p∈z1B,p.2.length<=5:=by decide +kernel
  exact this _ hm
 refine opt.of at0 ⟨show 1<=sizeLine by decide,λlp hlp=>?_⟩;have e0:=Ex.up (o:=.lst [.str name]) (.refl S) hlp;have ed:cut (.str name::ds) (some 1) none=ds:=by unfold cut;simp[HT.sIx]
 obtain⟨t,ht1,ht2⟩:=M.dq _ hm;refine⟨_,_,t,rfl,rfl,M.dd,ht1,_,_,_,_,.txt (xs:=ks) ht2 (by lia),.tup,by rw[y01,ed];exact l1.symm,?_⟩;rw[ed];refine z2b (iLn S _ name lp xs) (.mk ks ds [] xs _ _ _ hp rfl e0 z05 (by simp;lia)) ?_ ?_
 .rintro ρ S1 h;generalize e:([]:List U)=L at h;obtain⟨ks,us,dn,xs',x,y,z,hp',hx,e1,hl,_⟩:=h;cases hp' with
  |cons=>cases e
  |nil =>
   rw[y0n]at hx;subst dn;exact⟨⟨trivial,trivial⟩,trivial,name::xs,.inl hl,by show _+_*1<=_;rw[Nat.mul_one];exact hz,q S1 e1⟩
 .rintro g L ρ S1 h ih;generalize e:g::L=L' at h;obtain⟨ks,us,dn,xs',x,y,z,hp',hx,e1,hl,h5⟩:=h;cases hp' with
  |nil=>cases e
  |@cons k u t ks us0 xs'' a b =>
   cases e;have fin:∀(z:U) S2,Ex S1 S2->∃us,S2 lp=some (.lst us)/\us.length<sizeLine/\frL (λ_=>True/\True) _ _ (prs (ks.map U.str) us0) _ (up S2 lp (.lst (us++[.str t]))) _ _:=λz S2 e2=>⟨_,e2 _ _ hl,by rw[y01,y0c];simp at h5;exact y0J (show dn.length+1<=101 by lia) (by decide),ih _ _ (.mk ks us0 (dn++[t]) xs'' (some (.str k)) (some u) (some z) b (by rw[hx];simp) (Ex.up (e1.trans e2) hlp) (by rw[z05];simp) (by simp at h5⊢;lia))⟩;have a:=a.ex e1;have wq:∀x f,(x,f)∈wrT->PySem.W.nsIn Z.K (Z.da "WRITERS") x=some (some (.ref (Z.fa f))):=λx f h=>M.wq _ h;cases a with
   |pl c d=>rcases c with rfl|rfl<;>exact⟨⟨trivial,trivial⟩,rfl,_,_,_,rfl,rfl,M.dw,wq _ "plainly_written" (by simp[wrT]),⟨_,.inl hl⟩,_,_,rfl,.pl,.mk _ d (fin _ S1 (.refl _))⟩
   |wd c d=>rcases c with rfl|rfl<;>exact⟨⟨trivial,trivial⟩,rfl,_,_,_,rfl,rfl,M.dw,wq _ "word_written" (by simp[wrT]),⟨_,.inl hl⟩,_,_,rfl,.wd,.mk _ d (fin _)⟩
   |rs c d=>exact⟨⟨trivial,trivial⟩,rfl,_,_,_,rfl,rfl,M.dw,wq _ "rows_written" (by simp[wrT]),⟨_,.inl hl⟩,_,_,rfl,.rs,.mk _ _ c d (fin _)⟩
end W
namespace W
open PySem L2 PySem.SeqAt PySem.Spec
variable[WW]
def isR(u:U)(k:Nat->Prop):Prop:=isI u λn=>-(2^62)<=n/\n<=2^24/\k n.toNat
def zlY(t:WE):WE:=λρ S Q E=>t ρ S (λu S1=>isR u λn=>nw (.lst (rg 0 n)) S1 Q) E
def zme(t:WE):WE:=λρ S Q E=>t ρ S (λu S1=>isR u λn=>Q (.tup (rg 0 n)) S1) E
def zhY{H:Hp}(n:Nat):UrL H (rg 0 n) (zbC 0 n):=by
 unfold rg zbC;generalize List.range n=L;induction L with
 |nil=>exact .nil
 |cons x L ih=>exact .cons (by simp only[Ur]) ih
section
variable{xa:Nat->Addr}{X:Cx}{xk:St->XK}{e a b c:Expr}{t ta tb tc:WE}{p p' pos pos':Pos}
theorem isR.ex{u:U}{k:Nat->Prop}(h:isR u k):∃n:Int,u=.int n/\(-(2^62)<=n/\n<=2^24)/\k n.toNat:=by obtain⟨n,rfl,h1,h2,h3⟩:=isI.ex h;exact⟨n,rfl,⟨h1,h2⟩,h3⟩
def zhg(ml:X.mg "list"=none)(mr:X.mg "range"=none)(hc:X.calm=true)(he:SE xa X xk e t)(hg:Gl X "list":=by rfl)(hg':Gl X "range":=by rfl)(h1:starEach [e] X.env=(false,eval e X.env)::starEach [] X.env:=by rfl)(h2:starEach [.Call (.Name "range" p') [e] [] pos'] X.env=(false,eval (.Call (.Name "range" p') [e] [] pos') X.env)::starEach [] X.env:=by rfl) : SE xa X xk (.Call (.Name "list" p) [.Call (.Name "range" p') [e] [] pos'] [] pos) (zlY t) :=
 PE.weak (z1Q (z4V hc) hg ml PyProof.Rows.boot_list (z1a (z1Q z8g hg' mr PyProof.Rows.boot_range (z1a he z2z h1) (he:=h1)) z2z h2) (he:=h2)) λσ H Q' h =>
  Lt.bind (f:=λu ρ S1 Q E=>isR u λn=>nw (.lst (rg 0 n)) S1 Q) h λhd ρ S Q E u v H1 e1 r1 u1 q1 c1=>by obtain⟨n,rfl,⟨b1,b2⟩,q⟩:=q1.ex;obtain rfl:=urI u1;refine⟨n,rfl,b1,by lia,λp hp=>⟨p,0,n,rfl,z0a,⟨by decide,by decide,b1,by lia⟩,by lia,λl hl=>?_⟩⟩;have s:=Gu.same_up (o:=.rng 0 n) (Same.refl H1) hp;rw[show(n-0).toNat=n.toNat by lia];exact(c1.ok.mono (Kp.same s)).lst (r1.same s) (zhY _) q hl
def ziu(ml:X.mg "tuple"=none)(mr:X.mg "range"=none)(hc:X.calm=true)(he:SE xa X xk e t)(hg:Gl X "tuple":=by rfl)(hg':Gl X "range":=by rfl)(h1:starEach [e] X.env=(false,eval e X.env)::starEach [] X.env:=by rfl)(h2:starEach [.Call (.Name "range" p') [e] [] pos'] X.env=(false,eval (.Call (.Name "range" p') [e] [] pos') X.env)::starEach [] X.env:=by rfl) : SE xa X xk (.Call (.Name "tuple" p) [.Call (.Name "range" p') [e] [] pos'] [] pos) (zme t) :=
 PE.weak (z1Q (z4b hc) hg ml y0G (z1a (z1Q z8g hg' mr PyProof.Rows.boot_range (z1a he z2z h1) (he:=h1)) z2z h2) (he:=h2)) λσ H Q' h =>
  Lt.bind (f:=λu ρ S1 Q E=>isR u λn=>Q (U.tup (rg 0 n)) S1) h λhd ρ S Q E u v H1 e1 r1 u1 q1 c1=>by obtain⟨n,rfl,⟨b1,b2⟩,q⟩:=q1.ex;obtain rfl:=urI u1;refine⟨n,rfl,b1,by lia,λp hp=>⟨p,0,n,rfl,z0a,⟨by decide,by decide,b1,by lia⟩,by lia,λl hl=>?_⟩⟩;have s:=Gu.same_up (o:=.rng 0 n) (Same.refl H1) hp;rw[show(n-0).toNat=n.toNat by lia];exact(c1.ok.mono (Kp.same s)).tup (r1.same s) (zhY _) q hl
def fmU(u:U)(k:Str->Prop):Prop:=match u with
 |.str y=>y.length<=sizeLine/\k y
 |.int i=>i.natAbs.log2<1920/\k (Str.ofString (toString i))
 |_=>False
def isX(u:U)(k:Str->Prop):Prop:=match u with
 |.str y=>k y
 |_=>False
def isX.ex{u:U}{k:Str->Prop}(h:isX u k):∃b,u=.str b/\k b:=by cases u<;>simp only[isX]at h;exact⟨_,rfl,h⟩
def zmb(t:WE):WE:=λρ S Q E=>t ρ S (λu S1=>fmU u λy=>Q (.str y) S1) E
def zdS(h:SE xa X xk a ta):SE xa X xk (.FormattedValue a (-1) none pos) (zmb ta):=PE.weak (zil h) λσ H Q' h=>Lt.bind (f:=λu ρ S1 Q E=>fmU u λy=>Q (U.str y) S1) h λhd ρ S Q E u v H1 e1 r1 u1 q1 c1=>by
 cases u<;>simp only[fmU]at q1
 .obtain rfl:=urI u1;exact .inr ⟨_,rfl,q1.1,c1.ok.put r1 uS q1.2⟩
 .obtain rfl:=urS u1;exact .inl ⟨_,rfl,q1.1,c1.ok.put r1 uS q1.2⟩
def wJ2(ta tb:WE):WE:=λρ S Q E=>ta ρ S (λu S1=>isX u λx=>x.length<=sizeLine/\tb ρ S1 (λv S2=>isX v λy=>x.length+y.length<=sizeLine/\Q (.str (x++y)) S2) E) E
def wJ3(ta tb tc:WE):WE:=λρ S Q E=>ta ρ S (λu S1=>isX u λx=>x.length<=sizeLine/\tb ρ S1 (λv S2=>isX v λy=>x.length+y.length<=sizeLine/\tc ρ S2 (λw S3=>isX w λz=>x.length+y.length+z.length<=sizeLine/\Q (.str (x++y++z)) S3) E) E) E
def zjF(ha:SE xa X xk a ta)(hb:SE xa X xk b tb)(he:evalEach [a,b] X.env=[eval a X.env,eval b X.env]:=by rfl):SE xa X xk (.JoinedStr [a,b] pos) (wJ2 ta tb):=PE.weak (zdn ha hb he) λσ H Q' h =>
 Lt.bind (f:=λu ρ S1 Q E=>isX u λx=>x.length<=sizeLine/\tb ρ S1 (λv S2=>isX v λy=>x.length+y.length<=sizeLine/\Q (U.str (x++y)) S2) E) h λhd ρ S Q E u v H1 e1 r1 u1 q1 c1=>by obtain⟨x,rfl,l1,q⟩:=q1.ex;obtain rfl:=urS u1;refine⟨x,rfl,l1,hd,ρ,S,_,E,e1,r1,q,λu2 S2 v2 H2 k2 r2 u2' q2=>?_,c1.ex⟩;obtain⟨y,rfl,l2,q⟩:=q2.ex;obtain rfl:=urS u2';exact⟨y,rfl,l2,(c1.mono k2).ok.put r2 uS q⟩
def zkt(ha:SE xa X xk a ta)(hb:SE xa X xk b tb)(hc:SE xa X xk c tc)(he:evalEach [a,b,c] X.env=[eval a X.env,eval b X.env,eval c X.env]:=by rfl):SE xa X xk (.JoinedStr [a,b,c] pos) (wJ3 ta tb tc):=PE.weak (zd7 ha hb hc he) λσ H Q' h =>
 Lt.bind (f:=λu ρ S1 Q E=>isX u λx=>x.length<=sizeLine/\tb ρ S1 (λv S2=>isX v λy=>x.length+y.length<=sizeLine/\tc ρ S2 (λw S3=>isX w λz=>x.length+y.length+z.length<=sizeLine/\Q (U.str (x++y++z)) S3) E) E) h λhd ρ S Q E u v H1 e1 r1 u1 q1 c1=>by obtain⟨x,rfl,l1,q⟩:=q1.ex;obtain rfl:=urS u1;refine⟨x,rfl,l1,hd,ρ,S,_,E,e1,r1,q,λu2 S2 v2 H2 k2 r2 u2' q2=>?_,c1.ex⟩;obtain⟨y,rfl,l2,q⟩:=q2.ex;obtain rfl:=urS u2';refine⟨y,rfl,l2,hd,ρ,S2,_,E,e1.mono k2,r2,q,λu3 S3 v3 H3 k3 r3 u3' q3=>?_,(c1.mono k2).ex⟩;obtain⟨z,rfl,l3,q⟩:=q3.ex;obtain rfl:=urS u3';exact⟨z,rfl,l3,((c1.mono k2).mono k3).ok.put r3 uS q⟩
end
def zdB(us:List U)(S:Sto)(Q:Kq U):Prop:=match us with
 |[.tup us]=>∃ns:List Int,us=ns.map U.int/\ns.length<64/\∀ns':List Int,ns'.Perm ns->ns'.Pairwise (·<=·)->nw (.lst (ns'.map U.int)) S Q
 |_=>False
def zgl{X:Cx}:z0G X (.builtin "sorted") (rC zdB):=by
 rintro pins s σ H vs xs Q' I r1 ⟨hd,us,S,Q,r,u,c,h⟩;unfold zdB at h;split at h
 .obtain⟨v,rfl,g⟩:=z4p u;obtain⟨ns,rfl,hz,q⟩:=h;obtain⟨p,ws,rfl,e,l⟩:=urT g;exact zji X.K rfl pins s σ H _ _ _ I r1 ⟨p,ns,rfl,by rw[<-z7p l];exact .of e,hz,λns' h1 h2 p hp=>c.lst r (z3O ns') (q ns' h1 h2) hp⟩
 .exact h.elim
end W
namespace W
open PySem L2 PySem.SeqAt Gu
variable[WW]{Z:Zx}
def uG(g:List Row):U:=.tup (g.map uR)
def zap{rows:List Row}{ks:List Int}(G:z3B rows ks)(h:1<=rows.length):cnt ks<=(rows.length:Int):=by
 have go:∀(l:List Int)(m:Int),m<(rows.length:Int)->(∀k∈l,k<(rows.length:Int))->l.foldl max m<(rows.length:Int):=by
  intro l;induction l with
  |nil=>exact λ_ h _=>h
  |cons x l ih=>exact λm hm hl=>ih _ (by have:=hl x (.head _);lia) λk hk=>hl k (.tail _ hk)
 have:=go ks 0 (by lia) λk hk=>(G.rg k hk).2;unfold cnt;lia
inductive z7a:Wsp
 |mk {S Q E} (f:Addr) (nm:Int->U) (rows:List Row) (n:Nat):zkO S f nm rows->(∀x y,nm x=nm y->x=y)->(∀r,kok (isT (nm 0)) (nm r)=true)->z1n n rows->n<=60->rows.length<=60->(∀S',Ex S S'->Q (uG (least rows)) S')->z7a [nm 0,.ref f] S Q E
inductive iL'(S:Sto)(fs:List Row)(ks:List Int)(u v:Option U)(lf lk ll:Addr):List U->En->Sto->Prop
 |mk {S1} (i:Nat) (x y z:Option U):Ex S S1->S1 ll=some (.lst ((z16 fs ks i).map uR))->i<=fs.length->iL' S fs ks u v lf lk ll ((prs (fs.map uR) (ks.map U.int)).drop i) [u,v,some (.ref lf),some (.ref lk),some (.ref ll),x,y,z] S1
def zcc(T:Z.Tx)(JG:Z.f "rows_come_to" 5 za0)(Jw:Z.f "kinds_of_rows" 2 z6L)(Jd:Z.f "kinds_gone_to" 1 z8i)(D:Z.fd "least_form" zak ["first","row_at"]):Z.f "least_form" 6 z7a:=by
 refine wF ["first","row_at","found","kinds","least","rearranging","goings","kind"] D (λf cdv A outer s H E hr nd=>z04 (z0n 2 nd (z09 JG (hr.mono (by decide)) z0g (z00 (z01 0) (z00 (z01 1) z02)))) (z04 (z0n 3 nd (z09 Jw (hr.mono (by decide)) z0g (z00 (z01 2) z02))) (z04 (z0n 4 nd (z0Y z02)) (z04 (z1U y0x rfl (zbQ T (T.b _ (by decide)) (z00 (z01 2) (z00 (z01 3) z02))) (z0F rfl (z0b (z0F rfl (z0b (z08 5 nd) (z0b (z08 6 nd) z0u))) (z0b (z08 7 nd) z0u))) (z03 (z0q (z0i (z1w (z1v hr)).1 (z01 7) (sBu T z0V y0j (z00 (z01 4) z02))) (z03 (z0d (z6t y1e y1p y1q z2r (λ_ _ _ _ _=>z8M) (z01 4) (z00 (z0f (z00 (z01 5) (z00 (z09 Jd (hr.mono (by decide)) z0g (z00 (z01 3) (z00 (z01 6) z02))) z02))) z02)))) z0m))) (z03 (z0l (sTy T z1F y0G (z00 (z01 4) z02)))))))) (λus S Q E h=>by cases h;rfl) ?_;rintro _ S Q E ⟨f,nm,rows,n,ht,hi,hk,G,hn,h60,qv⟩;refine .mk f nm rows n ht hi hk G hn λlf S1 e1 hlf hS1=>?_;have GF:=z8T G;have hfl:=zcJ G;have GK:=z93 GF;have hsc:=zap GK GF.some;refine .mk lf (z13 rows) n (.inl hS1) GF hn (λh6 lk S2 e2 hlk hS2=>?_) λh6 S2 e2=>absurd h6 (by lia);clear hsc h6;have hkl:=GK.len;unfold least at qv;generalize z6b (z13 rows)=ks at *;generalize z13 rows=fs at *;have h400:=GF.few;have hS1':=e2 _ _ hS1;have e12:=e1.trans e2;refine⟨show 0<=sizeLine by decide,λll hll=>?_⟩;have e0:=Ex.up (o:=.lst []) (.refl S2) hll;refine⟨_,_,_,_,.lst (.inl (e0 _ _ hS1')),.lst (.inl (e0 _ _ hS2)),by rw[y01,y01];exact hkl.symm,z2b (iL' S2 fs ks _ _ lf lk ll) (.mk 0 _ _ _ e0 z05 (y1r _)) ?_ ?_⟩
 .rintro ρ S3 h;generalize e:([]:List U)=L at h;obtain⟨i,x,y,z,e3,hS3,hi3⟩:=h;have hl:=y1M List.length e;rw[y1g,zaM,y01,y01,y2g]at hl;refine⟨⟨.inl (e3 _ _ hS1'),.inl (e3 _ _ hS2)⟩,_,.inl hS3,?_⟩;rw[show i=fs.length by lia,z8O hkl];exact qv S3 (e12.trans e3)
 .rintro g L ρ S3 h ih;generalize e:g::L=L' at h;obtain⟨i,x,y,z,e3,hS3,hi3⟩:=h;have hp:i<(prs (fs.map uR) (ks.map U.int)).length:=by
   rcases Nat.lt_or_ge i (prs (fs.map uR) (ks.map U.int)).length with h|h
   .exact h
   .rw[y26 h]at e;cases e
  rw[y17 hp]at e;obtain⟨e4,e5⟩:=List.cons.inj e;subst e5;obtain⟨p,q,g1,g2,g3⟩:=z9r (y0a hp);rw[y17 hp];rw[y0l]at g1 g2;obtain⟨r,er,rfl⟩:=y1G.mp g1;obtain⟨k,ek,rfl⟩:=y1G.mp g2;rw[g3];have hrm:=y0M er;have hil:=(y0z.mp er).1;have hst:=z6V er ek;have hll2:=z97 fs ks i;refine⟨⟨.inl (e3 _ _ hS1'),.inl (e3 _ _ hS2)⟩,rfl,rfl,_,.inl hS3,rfl,?_⟩;show cond (false != eqU (.int k) (.int (((z16 fs ks i).map uR).length:Nat))) _ _;rw[y01];by_cases c:k=((z16 fs ks i).length:Int)
  .have c2:(false != eqU (.int k) (.int ((z16 fs ks i).length:Nat)))=true:=by simp[eqU,c]
   rw[c2];have hst2:z16 fs ks (i+1)=z16 fs ks i++[(r.1,r.2.map λg=>ks.getD g.toNat 0)]:=by rw[hst];unfold z5W;exact if_pos c
   refine⟨⟨_,.inl hS3⟩,.mk lk ks r.2 (.inl (e3 _ _ hS2)) (λg hg=>by rw[hkl];exact GF.go r hrm g hg) (by rw[GF.len r hrm];lia) λS4 e4=>⟨show 2<=sizeLine by decide,_,e4 _ _ hS3,by rw[y01];exact y0J (show(z16 fs ks i).length<=4500 by lia) (by decide),ih _ _ (.mk (i+1) _ _ _ (Ex.up (e3.trans e4) hll) ?_ (by lia))⟩⟩;rw[z05,hst2,y0t];rfl
  .have c2:(false != eqU (.int k) (.int ((z16 fs ks i).length:Nat)))=false:=by simp[eqU,c]
   rw[c2];have hst2:z16 fs ks (i+1)=z16 fs ks i:=by rw[hst];unfold z5W;exact if_neg c
   exact ih _ _ (.mk (i+1) _ _ _ e3 (by rw[hst2];exact hS3) (by lia))
inductive z7z:Wsp
 |num {S Q E} (nm:Str) (g:Int):(∀S',Ex S S'->Q (.tup [.str nm,.int g]) S')->z7z [.str nm,.int g] S Q E
 |txt {S Q E} (nm t:Str):(∀S',Ex S S'->Q (.tup [.str t,.int 0]) S')->z7z [.str nm,.str t] S Q E
def zc4(T:Z.Tx)(D:Z.fd "place_gone_to" z22 ["name","going"]):Z.f "place_gone_to" 1 z7z:=by
 refine wF ["name","going"] D (λf cdv A outer s H E hr nd=>z03 (z0l (za8 (z1K (z2U (by decide) (z01 1) (T.b _ (by decide)) (T.b _ (by decide)) y1o)) (z0f (z00 (z01 1) (z00 z06 z02))) (z0f (z00 (z01 0) (z00 (z01 1) z02)))))) (λus S Q E h=>by cases h<;>rfl) ?_;rintro _ S Q E (⟨nm,g,q⟩|⟨nm,t,q⟩)
 .exact⟨show 2<=sizeLine by decide,q S (.refl S)⟩
 .exact⟨show 2<=sizeLine by decide,q S (.refl S)⟩
def pl(i:Int):U:=.tup [.str "",.int i]
inductive z8L:Wsp
 |mk {S Q E} (a d:Addr) (rows:List Row) (i:Int):isL S a (rows.map uR)->0<=i->i<(rows.length:Int)->(row rows i).2.length<=1000->(∀S',Ex S S'->Q (zkJ pl (row rows i)) S')->z8L [.ref a,.ref d,pl i] S Q E
def zll:z0N ["rows","guises","place","name","at","rearranging","goings"] (z07 z7R) ["going","name"] [none,some 3] (csc [(".0",.local),("going",.local),("place_gone_to",.globalImplicit),("name",.free)]):={}
def zch(T:Z.Tx)(Jv:Z.f "place_gone_to" 1 z7z)(D:Z.fd "row_at" z7R ["rows","guises","place"]):Z.f "row_at" 2 z8L:=by
 refine wF ["rows","guises","place","name","at","rearranging","goings"] D (λf cdv A outer s H E hr nd=>z04 (z1k (z01 2) (z0F rfl (z0b (z08 3 nd) (z0b (z08 4 nd) z0u)))) (z04 (z1k (za8 (z1K (z01 3)) (z0L z2T (z0L (z8G (hu9 hr) rfl) (z01 1) (z01 3)) (z01 4)) (z0L z2T (z01 0) (z01 4))) (z0F rfl (z0b (z08 5 nd) (z0b (z08 6 nd) z0u)))) (z03 (z0l (z0f (z00 (z01 5) (z00 (sTy T z1F y0G (z00 (z0C ⟨zll,rfl,λ_ _ _ _ _=>⟨(z08 0 zll.nd),.nil,(z1x rfl (z09 Jv (hr.mono (by decide)) zbm (z00 (z01 1) (z00 (z01 0) z02))))⟩,λg' e=>by cases e⟩ (z0E (z01 6) z0D)) z02)) z02))))))) (λus S Q E h=>by cases h;rfl) ?_;rintro _ S Q E ⟨a,d,rows,i,hl,h0,h1,hz,q⟩;have z:atI (rows.map uR) i=some (uR (row rows i)):=by
  have:=z4w (f:=uR) (z9L h0 h1)
  rwa [show((i.toNat:Nat):Int)=i by lia]at this
 refine⟨rfl,show 0<=sizeLine by decide,_,hl,opt.of z ⟨rfl,z1f (row rows i).2 U.int pl (λρ=>∃x,ρ=[x,some (.str "")]) ⟨_,rfl⟩ (by lia) (λ_ _=>trivial) ?_ ?_⟩⟩
 .rintro g _ ρ S' ⟨x,rfl⟩ e Qf qf;exact .num _ g λS'' e'=>qf [some (.int g),some (.str "")] S'' ⟨_,rfl⟩ e'
 .rintro ρ S' ⟨x,rfl⟩ e l hl2;exact⟨_,.inl z05,show 2<=sizeLine by decide,q _ (Ex.up e (e.no hl2))⟩
end W
namespace W
open PySem L2 PySem.SeqAt Gu
open PyProof.Rows (envOfC)
variable[WW]{Z:Zx}
structure Zx.fdL(Z:Zx)(x:Str)(st:Stmt)(ps:List Str)(c:Addr):Prop where
 ex:∃f fd,Fun Z.K x x st f fd/\fd.code=.ref c/\z19 Z.K fd ps []/\Z.mg x=some (.ref f)
def wFL{x:Str}{st:Stmt}{ps:List Str}{c:Addr}(N:List Str){k:Nat}{sp:Wsp}{t:WS}(D:Z.fdL x st ps c)(hb:∀(f:Addr)(A:Around)(outer:List Env)(s:Shared)(H:Hp)(E:XK),z1o k (A.deeper (envOfC x (z07 st) s.heap.objs.size f (.ref c)))->N.Nodup -> SSs Z.xa (λ_=>E) (z2a (CXw Z.xa Z.P WW.w) Z.P WW.w Z.K Z.mg Z.base N x (z07 st) f (.ref c) A outer s H E) (z0v st) t)(len:∀us S Q E,sp us S Q E->us.length=ps.length)(hp:∀us S Q E,sp us S Q E->t (stt N.length us) S { nx:=λ_ S'=>Q .non S',rt:=Q } λ_=>E)(Sc:z1d N ps (z07 st):=by exact⟨rfl,rfl,rfl,by decide +kernel,rfl,by decide +kernel,by decide +kernel⟩):Z.f x (k+1) sp:=by obtain⟨f,fd,F,hc,B,M⟩:=D.ex;refine⟨f,fd,ps,F.okL hc Sc (λvs H Q' xk ⟨hd,us,S,Q,E,r,u,h,c⟩=>by rw[<-u.len];exact len us S Q E h) λA outer s H vs Q' xk hr ⟨hd,us,S,Q,E,r,u,h,c⟩=>⟨_,hb f A outer s H xk hr Sc.nd,?_⟩,B,F.kp,M⟩;exact⟨hd,_,S,_,_,z63 u,r,hp us S Q E h,λρ S1 σ H1 k1 e1 r1 q1=>c.ok _ S1 _ H1 k1 r1 (by simp only[Ur]) q1,λ_ _ _ _ _ _ _ q=>q.elim,λ_ _ _ _ _ _ _ q=>q.elim,λu S1 v H1 k1 r1 u1 q1=>c.ok u S1 v H1 k1 r1 u1 q1,λea c1 ρ σ S1 H1 k1 e1 r1 q1=>c.ex ea c1 S1 H1 k1 r1 q1⟩
abbrev zk6:Scope:=csc [("place",.local),("guises",.free),("rows",.free),("row_at",.globalImplicit)]
def zfM:List Stmt->Option (Arguments × Expr × Scope × Pos)
 |.Return (some (.Call _ [_,.Lambda ps b sc p] _ _)) _::_=>some (ps,b,sc,p)
 |_::r=>zfM r
 |[]=>none
def zkX(st:Stmt)(qual:Str)(N ps:List Str):zkZ:=match zfM (z0v st)with
 |some (a,b,sc,_)=>⟨a,b,sc,qual,N,ps⟩
 |none=>⟨default,.Constant .none 0 default,zk6,qual,N,ps⟩
def zlS{S:Sto}{a:Addr}{us:List U}(h:isL S a us):isL (nc S) a us:=by
 unfold isL nc at *;rcases h with h|h<;>rw[h]
 .exact .inl rfl
 .exact .inr rfl
def zhe{S S1:Sto}(h:Ex (nc S) S1):Ex S (mgC S S1):=λa o e=>by
 unfold mgC;cases c:oC (S a)with
 |true=>exact e
 |false =>
  have z:=h a o (by unfold nc;rw[c];exact e);rw[e]at c;rw[z,c];rfl
theorem Ex.nc{S S1:Sto}(h:Ex S S1):Ex (nc S) S1:=λa o e=>h a o (zhW e).2
structure zdc(j:Nat)(T0:Tb):Prop where
 lam:WW.lam j=zkX z2D T0.qual ["place","guises","rows"] ["place"]
 rd:∀ρ S Q,WW.rd j ρ S Q↔z8x z8L (z2W (z7n 2) (z2W (z7n 1) (z2W (z7n 0) zds))) ρ (nc S) (λu S1=>Q u (mgC S S1)) noQ
 mem:T0∈WW.Ts
 one:∀T'∈WW.Ts,T'.at_=T0.at_->T'=T0
 pos:some T0.pos=(zfM (z0v z2D)).map (·.2.2.2)
 qual:T0.qual=("sewn.<locals>."++"<lambda>":Str)
def zjR:z0N ["rows","guises"] (z07 z2D) ["place","guises","rows"] [none,some 1,some 0] zk6:={}
inductive zaq:Wsp
 |mk {S Q E} (a d:Addr) (rows:List Row) (n:Nat):isL S a (rows.map uR)->z1n n rows->n<=60->rows.length<=60->(∀S',Ex S S'->Q (uG (least rows)) S')->zaq [.ref a,.ref d] S Q E
def zfI{j:Nat}{T0:Tb}{c:Addr}(T:Z.Tx)(LS:zdc j T0)(hC:PySem.W.CodeHd Z.base c T0.at_)(hB:z44 Z.base Z.mg)(JT:Z.f "least_form" 6 z7a)(D:Z.fdL "sewn" z2D ["rows","guises"] c):Z.f "sewn" 7 zaq:=by refine wFL ["rows","guises"] D (λf A outer s H E hr nd=>z03 (z0l (zcm j LS.lam JT (hr.mono (by decide)) (z2x λ_ _ _ z=>z) (z0f (z00 z0e (z00 z06 z02))) zjR rfl hC hB LS.mem LS.one (y06 LS.pos) LS.qual))) (λus S Q E h=>by cases h;rfl) ?_;rintro _ S Q E ⟨a,d,rows,n,hl,G,hn,h6,qv⟩;refine⟨show 2<=sizeLine by decide,λfa hfa=>?_⟩;have e0:=Ex.up (o:=.clo j [none,some (.ref d),some (.ref a)]) (.refl S) hfa;refine .mk fa pl rows n ⟨j,_,z05,by rw[LS.lam];rfl,λr r0 r1 S' Q' e' q'=>?_⟩ (λx y h=>by simpa[pl]using h) (λr=>rfl) G hn h6 λS' e'=>qv _ (zhe (e0.trans e').nc);rw[LS.rd];exact .mk a d rows r (zlS ((e0.trans e').l hl)) r0 r1 (by have:=G.len _ (z1D r0 r1);lia) λS'' e''=>q' _ (zhe e'')
def zgx{P:Program}{K:yyF}{mg:yyS}{base:Heap}{k j:Nat}(hn:∀ρ S Q,¬WW.rd j ρ S Q)(H:Hp)(f:Addr)(cp:En)(h:ObR H f (.clo j cp)):z5D P WW.w K mg base (CXw xa P WW.w) k H f (lsv j cp):=by obtain⟨fv,⟨_,_,_,_,_,_,_,_,e1,_⟩,_⟩:=h;exact⟨⟨_,_,e1,rfl⟩,λH' s' A outer s us vs Q hr e0 r ⟨_,_,_,_,_,_,_,q,_⟩=>(hn _ _ _ q).elim⟩
def zlZ:zj2 ["place","guises","rows"] ["place"] zk6:={}
def z8s{j:Nat}{T0:Tb}(LS:zdc j T0)(Vb:Z.f "row_at" 2 z8L)(H:Hp)(f:Addr)(cp:En)(h:ObR H f (.clo j cp)):z5D Z.P WW.w Z.K Z.mg Z.base (CXw Z.xa Z.P WW.w) 3 H f (lsv j cp):=by refine zgV (xa:=Z.xa) (k:=2) (t:=z8x z8L (z2W (z7n 2) (z2W (z7n 1) (z2W (z7n 0) zds)))) (by rw[LS.lam];exact zlZ) (by rw[LS.lam];intro cl pm cdv ct us hl;obtain⟨a,rfl⟩:=zjB hl;rfl) ?_ (λρ S Q q=>(LS.rd ρ S Q).mp q) H f cp h;rw[LS.lam];intro f cd clos A outer s H hr;exact z09 Vb hr zbm (z00 (z01 2) (z00 (z01 1) (z00 (z01 0) z02)))
end W
namespace W
open PySem L2 PySem.SeqAt Gu
variable[WW]{Z:Zx}
def zl4{xs:List Int}{i:Int}(h0:0<=i)(h:i.toNat<xs.length):atI (xs.map U.int) i=some (.int (xs.getD i.toNat 0)):=by
 have:=z4w (f:=U.int) (xs:=xs) (i:=i.toNat) (x:=xs.getD i.toNat 0) (by rw[y0a h];simp[h])
 rwa [show((i.toNat:Nat):Int)=i by lia]at this
def zdN{rows:List Row}{i:Int}(h0:0<=i)(h1:i<(rows.length:Int)):atI (rows.map uR) i=some (uR (row rows i)):=by
 have:=z4w (f:=uR) (z9L h0 h1)
 rwa [show((i.toNat:Nat):Int)=i by lia]at this
inductive sBr:Wsp
 |mk {S Q E} (rows:List Row) (n:Nat):z1n n rows->Q (.int n) S->sBr [uG rows] S Q E
def z95(T:Z.Tx)(D:Z.fd "breadth" z58 ["guise"]):Z.f "breadth" 1 sBr:=by
 refine wF ["guise","rearranging","goings"] D (λf cdv A outer s H E hr nd=>z04 (z1k (z0L z2T (z01 0) z06) (z0F rfl (z0b (z08 1 nd) (z0b (z08 2 nd) z0u)))) (z03 (z0l (sBu T z0V y0j (z00 (z01 1) z02))))) (λus S Q E h=>by cases h;rfl) ?_;rintro _ S Q E ⟨rows,n,G,q⟩;have h1:(0:Int)<(rows.length:Int):=by have:=G.some;lia
 refine opt.of (zdN (y2W _) h1) ⟨rfl,?_⟩;have:=(G.perm _ (z1D (y2W _) h1)).len;show Q (.int (((row rows 0).1.map U.int).length:Nat)) S;rw[y01,this];exact q
inductive z71:Wsp
 |mk {S Q E} (rows:List Row) (n:Nat) (w:List Int) (s:Int):z1n n rows->w.length<=100000->LW n w->0<=s->s<(rows.length:Int)->(∀S',Ex S S'->Q (.tup [uI' (z1L rows s w),.int (goW rows s w)]) S')->z71 [uG rows,.int s,uI' w] S Q E
inductive iRd(rows:List Row)(n:Nat)(p:Addr)(S:Sto)(Q:Kq U):List U->En->Sto->Prop
 |mk {S1} (w:List Int) (s:Int) (ms:List Int) (x y x5 x6 x7:Option U):LW n w->0<=s->s<(rows.length:Int)->ms.length+w.length<=100000->Ex S S1->S1 p=some (.lst (ms.map .int)) ->
  (∀S',Ex S S'->Q (.tup [uI' (ms++z1L rows s w),.int (goW rows s w)]) S')->iRd rows n p S Q (w.map .int) [some (uG rows),x,y,some (.ref p),some (.int s),x5,x6,x7] S1
def zhd{xs:List Int}{i:Nat}(h:i<xs.length):xs.getD i 0∈xs:=by simp[h]
def zcC(T:Z.Tx)(D:Z.fd "read_from" zbb ["guise","row","word"]):Z.f "read_from" 1 z71:=by
 refine wF ["guise","row","word","made","at","letter","rearranging","goings"] D (λf cdv A outer s H E hr nd=>z04 (z0n 3 nd (z0Y z02)) (z04 (z0n 4 nd (z01 1)) (z04 (z1U y0x rfl (z0E (z01 2) z0D) (z08 5 nd) (z04 (z1k (z0L z2T (z01 0) (z01 4)) (z0F rfl (z0b (z08 6 nd) (z0b (z08 7 nd) z0u)))) (z04 (z0d (z6t y1e y1p y1q z2r (λ_ _ _ _ _=>z8M) (z01 3) (z00 (z0L z2T (z01 6) (z01 5)) z02))) (z03 (z0n 4 nd (z0L z2T (z01 7) (z01 5))))))) (z03 (z0l (z0f (z00 (sTy T z1F y0G (z00 (z01 3) z02)) (z00 (z01 4) z02)))))))) (λus S Q E h=>by cases h;rfl) ?_;rintro _ S Q E ⟨rows,n,w,s,G,hl,hw,h0,h1,q⟩;refine⟨by decide,λp hp=>?_⟩;refine z2b (iRd rows n p S Q) (.mk w s [] _ _ _ _ _ hw h0 h1 (by simpa using hl) (Ex.up (.refl _) hp) z05 q) ?_ ?_
 .rintro ρ S1 h;generalize e:([]:List U)=L at h;obtain⟨w,s,ms,x,y,x5,x6,x7,hw,h0,h1,hl,ex,hS,q⟩:=h;cases w<;>cases e;refine⟨trivial,_,.inl hS,show 2<=sizeLine by decide,?_⟩;have:=q S1 ex
  rwa [z1L,goW,y0n]at this
 .rintro x L ρ S1 h ih;generalize e:x::L=L' at h;obtain⟨w,s,ms,x0,y,x5,x6,x7,hw,h0,h1,hl,ex,hS,q⟩:=h;cases w<;>cases e;rename_i l w;obtain⟨l0,l1⟩:=hw l (by simp);have R:=z1D h0 h1;have hg:=G.len _ R;have hp1:=(G.perm _ R).len;refine⟨trivial,opt.of (zdN h0 h1) ⟨rfl,⟨_,.inl hS⟩,opt.of (zl4 l0 (by lia)) ⟨_,hS,?_,opt.of (zl4 l0 (by lia)) (ih _ _ (.mk w _ (ms++[(row rows s).1.getD l.toNat 0]) _ _ _ _ _ (λx hx=>hw x (by simp[hx])) ?_ ?_ ?_ (Ex.up ex hp) ?_ λS' e=>?_))⟩⟩⟩
  .rw[y01];rw[y0c]at hl;exact y0J (show ms.length<=100000 by lia) (by decide)
  .exact(G.go _ R _ (zhd (by lia))).1
  .exact(G.go _ R _ (zhd (by lia))).2
  .simp only[y07,y0c,y2g]at hl⊢;lia
  .rw[z05,y0t];rfl
  .have:=q S' e
   rwa [z1L,goW,List.append_cons]at this
inductive zdl:Wsp
 |mk {S Q E} (w:List Int):(w≠[]->Q .non S)->(w=[]->E 3 S)->zdl [uI' w] S Q E
def zg7(T:Z.Tx)(D:Z.fd "check_ring" zfs ["ring"]):Z.f "check_ring" 1 zdl:=by
 refine wF ["ring"] D (λf cdv A outer s H E hr nd=>z03 (z0q (z0i (z1w (z1v hr)).1 (sBu T z0V y0j (z00 (z01 0) z02)) z06) (z03 (z0s T.x rfl z0e)) z0m)) (λus S Q E h=>by cases h;rfl) ?_;rintro _ S Q E ⟨w,q,x⟩;cases w with
 |nil=>exact⟨rfl,x rfl⟩
 |cons l w=>exact⟨rfl,q (by simp)⟩
def zb0{α:Type}(p:α->Bool)(w:List α):(w.map λl=>!p l).any id=!w.all p:=by
 induction w with
 |nil=>rfl
 |cons a w ih=>rw[y0o,y3e,List.all_cons,ih,Bool.not_and];rfl
def lw(n:Int)(w:List Int):Bool:=w.all λl=>decide (0<=l)&&decide (l<n)
inductive zdb:Wsp
 |mk {S Q E} (n:Int) (w:List Int):w.length<=100000->(∀S',Ex S S'->cond (lw n w) (Q .non S') (E 3 S'))->zdb [.int n,uI' w] S Q E
def zkT:z0N ["letters","word"] (z07 z4I) ["letter","letters"] [none,some 0] (csc [(".0",.local),("letter",.local),("letters",.free)]):={}
def zfW(T:Z.Tx)(D:Z.fd "check_word" z4I ["letters","word"]):Z.f "check_word" 1 zdb:=by
 refine wF ["letters","word"] D (λf cdv A outer s H E hr nd=>z03 (z0q (z1K (sBu T (zi9 rfl) PyProof.Rows.boot_any (z00 (z0C ⟨zkT,rfl,λ_ _ _ _ _=>⟨(z08 0 zkT.nd),.nil,(z1x rfl (zbk (z4R (z1g z49) (z1g z7d) z06 (z01 0) (z01 1))))⟩,λg' e=>by cases e⟩ (z0E (z01 1) z0D)) z02))) (z03 (z0s T.x rfl z0e)) z0m)) (λus S Q E h=>by cases h;rfl) ?_;rintro _ S Q E ⟨n,w,hz,q⟩;refine z1f w U.int (λl=>.bl (!(decide (0<=l)&&decide (l<n)))) (λρ=>∃x,ρ=[x,some (.int n)]) ⟨_,rfl⟩ hz (λ_ _=>trivial) ?_ ?_
 .rintro l _ ρ S' ⟨x,rfl⟩ e Qf qf;have w:=qf [some (.int l),some (.int n)] S' ⟨_,rfl⟩ (.refl _);show cond (decide (0<=l)) _ _;cases c:decide (0<=l)<;>rw[c]at w<;>exact w
 .rintro ρ S' ⟨x,rfl⟩ e l hl;refine⟨w.map λl=>!(decide (0<=l)&&decide (l<n)),.inl (by rw[z05,y0U];rfl),?_⟩;have q:=q _ (Ex.up (o:=.lst (w.map λl=>.bl (!(decide (0<=l)&&decide (l<n))))) e (e.no hl));have z:(w.map λl=>!(decide (0<=l)&&decide (l<n))).any id=!lw n w:=zb0 (λl=>decide (0<=l)&&decide (l<n)) w;show cond ((w.map λl=>!(decide (0<=l)&&decide (l<n))).any id) _ _;rw[z];cases c:lw n w<;>rw[c]at q<;>exact q
inductive zd5:Wsp
 |mk {S Q E} (n:Int) (b r:List Int):b.length<=100000->r.length<=100000->(∀S',Ex S S'->cond (!r.isEmpty&&lw n b&&lw n r) (Q .non S') (E 3 S'))->zd5 [.int n,.tup [uI' b,uI' r]] S Q E
def zfJ(T:Z.Tx)(Jk:Z.f "check_ring" 1 zdl)(Je:Z.f "check_word" 1 zdb)(D:Z.fd "check_endless" z51 ["letters","endless"]):Z.f "check_endless" 2 zd5:=by
 refine wF ["letters","endless","beginning","ring"] D (λf cdv A outer s H E hr nd=>z04 (z1k (z01 1) (z0F rfl (z0b (z08 2 nd) (z0b (z08 3 nd) z0u)))) (z04 (z0d (z09 Jk (hr.mono (by decide)) z0g (z00 (z01 3) z02))) (z04 (z0d (z09 Je (hr.mono (by decide)) z0g (z00 (z01 0) (z00 (z01 2) z02)))) (z03 (z0d (z09 Je (hr.mono (by decide)) z0g (z00 (z01 0) (z00 (z01 3) z02)))))))) (λus S Q E h=>by cases h;rfl) ?_;rintro _ S Q E ⟨n,b,r,hb,hr,q⟩;refine⟨rfl,.mk r (λh=>.mk n b hb λS1 e1=>?_) λh=>?_⟩
 .have hr0:(!r.isEmpty)=true:=by cases r with
   |nil=>exact absurd rfl h
   |cons=>rfl
  rw[hr0]at q;cases c:lw n b with
  |false=>have:=q S1 e1;rw[c]at this;exact this
  |true =>
   refine .mk n r hr λS2 e2=>?_;have:=q S2 (e1.trans e2);rw[c]at this;exact this
 .subst h;exact q S (.refl S)
inductive zfx:Wsp
 |mk {S Q E} (a:Addr) (ws:List (List Int)):isL S a (ws.map uI')->ws.flatten.length<=100000->(∀S',Ex S S'->Q (uI' ws.flatten) S')->zfx [.ref a] S Q E
def zjS:z0N ["laps"] (z07 z4z) ["lap","letter"] [none,none] (csc [(".0",.local),("lap",.local),("letter",.local)]):={}
inductive iS1(ws:List (List Int))(S:Sto):List U->List U->En->Sto->Prop
 |mk (dn L:List (List Int)) (x y:Option U):ws=dn++L->iS1 ws S (L.map uI') (dn.flatten.map U.int) [x,y] S
inductive iS2(a0:List Int)(w:List Int)(x:U)(S:Sto):List U->List U->En->Sto->Prop
 |mk (dn L:List Int) (y:Option U):w=dn++L->iS2 a0 w x S (L.map U.int) ((a0++dn).map U.int) [some x,y] S
def z9c(T:Z.Tx)(D:Z.fd "strung" z4z ["laps"]):Z.f "strung" 1 zfx:=by
 refine wF ["laps"] D (λf cdv A outer s H E hr nd=>z03 (z0l (sTy T z1F y0G (z00 (z0C ⟨zjS,rfl,λ_ _ _ _ _=>⟨(z08 0 zjS.nd),.nil,(zhR rfl rfl rfl (λg' e=>by cases e) (z0E (z01 0) z0D) (z08 1 zjS.nd) .nil (z1x rfl (z01 1)))⟩,λg' e=>by cases e;exact⟨rfl,λ_ _=>rfl⟩⟩ (z0E (z01 0) z0D)) z02)))) (λus S Q E h=>by cases h;rfl) ?_;rintro _ S Q E ⟨a,ws,hl,hz,q⟩;refine⟨_,hl,zc7 (iS1 ws S) (.mk [] ws _ _ rfl) ?_ ?_⟩
 .rintro acc ρ S1 h;generalize e:([]:List U)=L at h;obtain⟨dn,L,x,y,hw⟩:=h;cases L<;>cases e;rw[y0n]at hw;subst hw;exact⟨hl,λl hl2=>⟨_,.inl z05,q _ (Ex.up (.refl _) hl2)⟩⟩
 .rintro u L acc ρ S1 h ih;generalize e:u::L=L' at h;obtain⟨dn,L,x,y,hw⟩:=h;cases L<;>cases e;rename_i w L;refine⟨hl,zc7 (iS2 dn.flatten w (uI' w) S) (by have:=iS2.mk (S:=S) (a0:=dn.flatten) (w:=w) (x:=uI' w) [] w y rfl;rwa [y0n]at this) ?_ ?_⟩
  .rintro acc ρ S2 h;generalize e:([]:List U)=L' at h;obtain⟨d2,L',z,hw2⟩:=h;cases L'<;>cases e;rw[y0n]at hw2;subst hw2;refine⟨trivial,?_⟩;have:=ih _ _ S (.mk (dn++[w]) L (some (uI' w)) z (by rw[hw];simp));rw[y22,show[w].flatten=w by simp]at this;exact this
  .rintro g L' acc ρ S2 h ih2;generalize e:g::L'=L'' at h;obtain⟨d2,L'',z,hw2⟩:=h;cases L''<;>cases e;rename_i g L';refine⟨trivial,?_,?_⟩
   .rw[y01];have:(dn.flatten++d2).length<=ws.flatten.length:=by rw[hw,hw2];simp
    exact y0J (show _<=100000 by lia) (by decide)
   .have:=ih2 _ _ S (.mk (d2++[g]) L' (some (.int g)) (by rw[hw2];simp));rw[<-y1a,y0t]at this;exact this
def ze1{r:List Int}{c:Nat}(h:c<r.length):atI (r.map U.int) (-1-(c:Int))=some (.int (r.getD (r.length-1-c) 0)):=by rw[zbo (by rw[y01];exact h),y01,y0l,y0a (by lia),z18 (by lia)];rfl
def eqI{x y:Int}:(false != eqU (.int x) (.int y))=decide (x=y):=by
 by_cases h:x=y
 .subst h;simp[eqU]
 .rw[z1b (λz=>h (by injection z)),y0v h];rfl
inductive zkh:Wsp
 |mk {S Q E} (b r:List Int):r≠[]->(∀c:Nat,z4s b r r.length c->Q (.int c) S)->zkh [uI' b,uI' r] S Q E
inductive iRg(b r:List Int)(S:Sto):Nat->En->Sto->Prop
 |mk (m c:Nat):c<=b.length->(∀j,j<c->b.getD (b.length-1-j) 0=r.getD (r.length-1-j%r.length) 0)->m+c=b.length->iRg b r S m [some (uI' b),some (uI' r),some (.int c)] S
def zaY(T:Z.Tx)(D:Z.fd "count_ringed" z77 ["beginning","ring"]):Z.f "count_ringed" 1 zkh:=by
 refine wF ["beginning","ring","count"] D (λf cdv A outer s H E hr nd=>z04 (z0n 2 nd z06) (z04 (z2B y0x (SW.st (zgA (z0i (z1g z7d) (z01 2) (sBu T z0V y0j (z00 (z01 0) z02))) (zep (z0i (z1w (z1v hr)).1 (z0L z2T (z01 0) (z0j zd3 (z5v z06) (z01 2))) (z0L z2T (z01 1) (z0j zd3 (z5v z06) (z0j z3P (z01 2) (sBu T z0V y0j (z00 (z01 1) z02))))))))) (z03 (zdT 2 nd z06 ze9))) (z03 (z0l (z01 2))))) (λus S Q E h=>by cases h;rfl) ?_;rintro _ S Q E ⟨b,r,hne,q⟩;have hp:0<r.length:=y0r.mpr hne;refine zbu (iRg b r S) b.length (.mk _ 0 (y1r _) (λj hj=>absurd hj (Nat.not_lt_zero _)) (by lia)) ?_;rintro m ρ S1 ⟨c,hc,heq,hm⟩ again ag;have hmr:c%r.length<r.length:=y1K _ hp;have em:((c:Int)%(((r.map U.int).length:Nat):Int))=((c%r.length:Nat):Int):=by rw[y01];exact(y2r _ _).symm
 show cond (decide ((c:Int)<((b.map U.int).length:Nat))) _ _;rw[y01];refine z0Z (λc1=>?_) (λc1=>?_)
 .have hcb:c<b.length:=by have:=y0m c1;lia
  refine opt.of (ze1 hcb) ⟨by rw[y01];lia,?_⟩;rw[em];refine opt.of (ze1 hmr) ⟨rfl,?_⟩;show cond (false != eqU (.int _) (.int _)) _ _;rw[eqI];refine z0Z (λw=>ag (m-1) _ _ (by lia) (.mk (m-1) (c+1) (by lia) (λj hj=>?_) (by lia))) (λw=>q c ⟨hc,heq,.inr (y0w w)⟩);by_cases y:j<c
  .exact heq j y
  .have:j=c:=by lia
   rw[this];exact y0m w
 .have:=y0w c1;exact q c ⟨hc,heq,.inl (by lia)⟩
end W
set_option maxHeartbeats 7000000
namespace W
open PySem L2 PySem.SeqAt Gu
variable[WW]{Z:Zx}
def zjL(a b:List Int):(fl (uI' a)&&fl (uI' b)&&okU (uI' a) (uI' b)&&decide (dep (uI' a)<=40))=true:=by simp only[uI',fl,okU,dep];rw[z8k (z1P a).1,z8k (z1P b).1,z9H (z1P a).1 (z1P b).1,(z1P a).2];rfl
def zgk(a b:List Int):eqU (uI' a) (uI' b)=decide (a=b):=by
 by_cases h:a=b
 .subst h;rw[z0P];simp
 .rw[y0v h,z1b λz=>h (z1y z)]
def zgz(r:List Int)(lo hi:Option Int):cut (r.map U.int) lo hi=(zgt r lo hi).map U.int:=by unfold cut zgt;rw[y01,y3g,List.map_drop]
def z7A{r:List Int}{z:Nat}:cut (r.map U.int) none (some (z:Int))=(r.take z).map U.int:=by rw[zgz,zfo]
def zjt(k:Int)(r:List Int):rep k (r.map U.int)=(List.replicate k.toNat r).flatten.map U.int:=by unfold rep;rw[List.map_flatten,List.map_replicate]
inductive sLR:Wsp
 |mk {S Q E} (r:List Int):r≠[]->r.length<=70000->(∀s:Nat,z5A r s->Q (uI' (r.take s)) S)->sLR [uI' r] S Q E
inductive iLR(r:List Int)(S:Sto):Nat->En->Sto->Prop
 |mk (m z:Nat):0<z->z<=r.length->(∀d,0<d->d<z->¬Per r d)->m+z=r.length->iLR r S m [some (uI' r),some (.int z)] S
def neI{x y:Int}:(true != eqU (.int x) (.int y))=!decide (x=y):=by have:=eqI (x:=x) (y:=y);rw[<-this];cases eqU (.int x) (.int y)<;>rfl
def zcz(T:Z.Tx)(D:Z.fd "least_ring" z70 ["ring"]):Z.f "least_ring" 1 sLR:=by
 refine wF ["ring","size"] D (λf cdv A outer s H E hr nd=>z04 (z0n 1 nd z06) (z04 (z2B y0x (SW.st (zk8 (z0i (z1w (z1v hr)).2 (z0j z3P (sBu T z0V y0j (z00 (z01 0) z02)) (z01 1)) z06) (zh4 (z0i (z1w (z1v hr)).2 (z0j z7j (z14 (z01 0) z48 (z45 (z01 1))) (z0j zk9 (sBu T z0V y0j (z00 (z01 0) z02)) (z01 1))) (z01 0))))) (z03 (zdT 1 nd z06 ze9))) (z03 (z0l (z14 (z01 0) z48 (z45 (z01 1))))))) (λus S Q E h=>by cases h;rfl) ?_;rintro _ S Q E ⟨r,hne,hl,q⟩;have hp:0<r.length:=y0r.mpr hne;refine zbu (iLR r S) (r.length-1) (.mk _ 1 (by lia) (by lia) (λd h0 h1=>by lia) (by lia)) ?_;rintro m ρ S1 ⟨z,hz0,hzl,hno,hm⟩ again ag;have em:((((r.map U.int).length:Nat):Int)%(z:Int))=((r.length%z:Nat):Int):=by rw[y01];exact(y2r _ _).symm
 have ed:((((r.map U.int).length:Nat):Int)/(z:Int))=((r.length/z:Nat):Int):=by rw[y01];exact(Int.natCast_ediv _ _).symm
 have more:¬Per r z->again [some (uI' r),some (.int ((z:Int)+1))] S:=λhn=>by
  have hlt:z<r.length:=by
   rcases Nat.lt_or_ge z r.length with c|c
   .exact c
   .have:z=r.length:=by lia
    subst this;exact absurd zg8 hn
  refine ag (m-1) _ _ (by lia) (.mk (m-1) (z+1) (by lia) (by lia) (λd h0 h1=>?_) (by lia));by_cases c:d<z
  .exact hno d h0 c
  .have:d=z:=by lia
   rw[this];exact hn
 refine⟨by lia,rfl,?_⟩;rw[em];show cond (true != eqU (.int _) (.int 0)) _ _;rw[neI];refine z0Z (λc1=>more λh=>?_) (λc1=>?_)
 .have:=Nat.mod_eq_zero_of_dvd h.1;rw[this]at c1;simp at c1
 .have c1:((r.length%z:Nat):Int)=0:=y0m (by simpa only[Bool.not_eq_false']using c1);have hdv:z ∣ r.length:=Nat.dvd_of_mod_eq_zero (by lia);have hq1:r.length/z<=r.length:=Nat.div_le_self _ _;refine⟨⟨by lia,by lia⟩,?_⟩;rw[ed];show _/\_/\_/\_;rw[z7A];refine⟨Int.le_trans (by decide) (Int.natCast_nonneg _),by lia,?_,?_⟩
  .rw[y01,y0I,y19,y1E hzl];exact z5g (by rw[Nat.mul_comm,Nat.div_mul_cancel hdv];lia)
  rw[zjt,y19];refine⟨zjL _ r,?_⟩;show cond (true != eqU (uI' (List.replicate (r.length/z) (r.take z)).flatten) (uI' r)) _ _;rw[zgk];by_cases c2:(List.replicate (r.length/z) (r.take z)).flatten=r
  .rw[y1x c2];have:=q z ⟨hz0,(z9P hz0 hzl hdv).mp c2,hno⟩;unfold uI' at this;rw[<-z7A]at this;exact this
  .rw[y0v c2];exact more λhp=>c2 ((z9P hz0 hzl hdv).mpr hp)
inductive zje:Wsp
 |mk {S Q E} (n:Nat) (p:List Int):p.length<=60->n<=60->(∀k S',(k=true↔IsP n p)->Ex S S'->Q (.bl k) S')->zje [.int n,uI' p] S Q E
def zfB(n:Nat):rg 0 n=(z27 n).map U.int:=by unfold rg z27;rw[y0U];exact y20 λi _=>by simp
def flI(ns:List Int):flL (ns.map U.int)=true:=by
 induction ns with
 |nil=>rfl
 |cons n ns ih=>simp only[y0o,flL,fl,ih];rfl
theorem okI:∀ns ms:List Int,okL (ns.map U.int) (ms.map U.int)=true
 |[],_=>by cases ‹List Int›<;>rfl
 |_::_,[]=>rfl
 |n::ns,m::ms=>by simp only[y0o,okL,okU,okI ns ms];rfl
def zmf{ns ms:List Int}:eqL (ns.map U.int) (ms.map U.int)=true↔ns=ms:=by have h:=z7v (a:=.tup (ns.map U.int)) (b:=.tup (ms.map U.int));simp only[eqU]at h;rw[h];refine⟨λz=>z1y (by simpa[uI']using z),λz=>by rw[z]⟩
def z4E(T:Z.Tx)(D:Z.fd "rearranges" zaH ["letters","numbers"]):Z.f "rearranges" 1 zje:=by
 refine wF ["letters","numbers"] D (λf cdv A outer s H E hr nd=>z03 (z0l (z2O (z1w (z1v hr)).1 (sBu T zgl PyProof.Rows.boot_sorted (z00 (z01 1) z02)) (zhg (T.b _ (by decide)) (T.b _ (by decide)) rfl (z01 0))))) (λus S Q E h=>by cases h<;>rfl) ?_;rintro _ S Q E ⟨n,p,hp,hn,q⟩;refine⟨p,rfl,by lia,λns hperm hsort l hl=>?_⟩;refine⟨by lia,by lia,λl2 hl2=>?_⟩;have en:((n:Nat):Int).toNat=n:=by lia
 rw[en,zfB];have e1:=Ex.up (o:=.lst (ns.map U.int)) (.refl S) hl;refine⟨_,_,.inl (Ex.up (.refl _) hl2 _ _ z05),.inl z05,?_,?_⟩
 .rw[flI,flI,okI,(z1P ns).2];rfl
 .refine q _ _ ?_ (Ex.up e1 (e1.no hl2));rw[show(false != eqL (ns.map U.int) ((z27 n).map U.int))=eqL (ns.map U.int) ((z27 n).map U.int)by simp,zmf];exact⟨λz=>by rw[z]at hperm;exact hperm.symm,λz=>z7f z hperm hsort⟩
inductive zbX:Wsp
 |mk {S Q E} (n:Nat) (a:Addr) (rows:List Row) (m:Nat):isL S a (rows.map uR)->n<=60->m<=400->rows.length<=5000->(∀r∈rows,r.1.length<=60/\r.2.length<=60)->(z4G n rows m->∀S',Ex S S'->Q .non S')->(¬z4G n rows m->∀S',Ex S S'->E 2 S')->zbX [.int n,.ref a,.int m] S Q E
inductive iCM(S:Sto)(n m:Nat)(a:Addr)(rows:List Row):List U->En->Sto->Prop
 |mk {S1} (dn L:List Row) (x y:Option U):rows=dn++L->Ex S S1->(∀r∈dn,IsP n r.1/\r.2.length=n/\∀g∈r.2,0<=g/\g<(rows.length:Int))->iCM S n m a rows (L.map uR) [some (.int n),some (.ref a),some (.int m),x,y] S1
def zkY:z0N ["letters","rows","most","rearranging","goings"] (z07 z80) ["going","rows"] [none,some 1] (csc [(".0",.local),("going",.local),("len",.globalImplicit),("rows",.free)]):={}
def z2X(T:Z.Tx)(JP:Z.f "rearranges" 1 zje)(D:Z.fd "check_machine" z80 ["letters","rows","most"]):Z.f "check_machine" 2 zbX:=by
 refine wF ["letters","rows","most","rearranging","goings"] D (λf cdv A outer s H E hr nd=>z04 (z0q (z3i (z4K (z1g z49) (z1g z49) z06 (sBu T z0V y0j (z00 (z01 1) z02)) (z01 2))) (z03 (z0s T.x rfl (zkt z0e (zdS (z01 2)) z0e))) z0m) (z03 (z1U y0x rfl (z0E (z01 1) z0D) (z0F rfl (z0b (z08 3 nd) (z0b (z08 4 nd) z0u))) (z04 (z0q (z3i (z1K (z09 JP (hr.mono (by decide)) z0g (z00 (z01 0) (z00 (z01 3) z02))))) (z03 (z0s T.x rfl z0e)) z0m) (z04 (z0q (z0i (z1w (z1v hr)).2 (sBu T z0V y0j (z00 (z01 4) z02)) (z01 0)) (z03 (z0s T.x rfl z0e)) z0m) (z03 (z0q (z1K (sBu T (zi9 rfl) PyProof.Rows.boot_any (z00 (z0C ⟨zkY,rfl,λ_ _ _ _ _=>⟨(z08 0 zkY.nd),.nil,(z1x rfl (zbk (z4R (z1g z49) (z1g z7d) z06 (z01 0) (sBu T z0V y0j (z00 (z01 1) z02)))))⟩,λg' e=>by cases e⟩ (z0E (z01 4) z0D)) z02))) (z03 (z0s T.x rfl z0e)) z0m))))))) (λus S Q E h=>by cases h<;>rfl) ?_;rintro _ S Q E ⟨n,a,rows,m,hl,hn,hm,hz,hs,q,bad⟩;have l1:(Str.ofString "a machine has from 1 to ").length<=40:=by decide +kernel
 have l3:(Str.ofString " rows here").length<=40:=by decide +kernel
 have l2:(Str.ofString (toString ((m:Nat):Int))).length<=61:=(z25 (n:=(m:Int)) (by lia)).2;have z1:∀x:Nat,x<=200->x<=sizeLine:=λx h=>y0e h (by decide);refine⟨_,hl,?_⟩;show cond (decide ((1:Int)<=(((rows.map uR).length:Nat):Int))) _ _;rw[y01];refine z0Z (λc1=>?_) (λc1=>⟨z1 _ (by lia),z1R (by lia),z1 _ (by lia),z1 _ (by lia),bad (λz=>by have:=z.1.some;have:=y0w c1;lia) S (.refl S)⟩);show cond (!decide (((rows.length:Nat):Int)<=(m:Int))) _ _;have c1:=y0m c1;refine z0Z (λc2=>⟨z1 _ (by lia),z1R (by lia),z1 _ (by lia),z1 _ (by lia),bad (λz=>by have:=z.2;simp at c2;lia) S (.refl S)⟩) (λc2=>?_);have c2:(rows.length:Int)<=(m:Int):=by simpa using c2
 refine⟨_,hl,z2b (iCM S n m a rows) (.mk [] rows _ _ rfl (.refl S) (λr hr=>absurd hr (by simp))) ?_ ?_⟩
 .rintro ρ S1 h;generalize e:([]:List U)=L at h;obtain⟨dn,L,x,y,hx,e1,hg⟩:=h;cases L<;>cases e;rw[y0n]at hx;subst hx;exact⟨e1.l hl,q ⟨⟨by lia,by lia,λr hr=>(hg r hr).1,λr hr=>(hg r hr).2.1,λr hr=>(hg r hr).2.2⟩,by lia⟩ S1 e1⟩
 .rintro u L ρ S1 h ih;generalize e:u::L=L' at h;obtain⟨dn,L,x,y,hx,e1,hg⟩:=h;cases L<;>cases e;rename_i r L;have hrm:r∈rows:=by rw[hx];simp
  obtain⟨s1,s2⟩:=hs r hrm;refine⟨e1.l hl,rfl,.mk n r.1 s1 hn λk S2 hk e2=>?_⟩;have e12:=e1.trans e2;cases k with
  |false=>exact bad (λz=>by have:=hk.mpr (z.1.perm r hrm);cases this) S2 e12
  |true =>
   have hperm:=hk.mp rfl;refine⟨rfl,?_⟩;show cond (true != eqU (.int (((r.2.map U.int).length:Nat):Int)) (.int (n:Int))) _ _;rw[y01,neI];refine z0Z (λc=>bad (λz=>by have:=z.1.len r hrm;simp at c;lia) S2 e12) (λc=>?_);have hgl:r.2.length=n:=by simp at c;lia
   refine z1f r.2 U.int (λg=>.bl (!(decide (0<=g)&&decide (g<(rows.length:Int))))) (λρ=>∃x,ρ=[x,some (.ref a)]) ⟨_,rfl⟩ (by lia) (λ_ _=>trivial) ?_ ?_
   .rintro g hg2 ρ S3 ⟨x,rfl⟩ e3 Qf qf;show cond (decide ((0:Int)<=g)) _ _;have w:=λS''=>qf [some (.int g),some (.ref a)] S'' ⟨_,rfl⟩;refine z0Z (λc3=>⟨_,(e12.trans e3).l hl,?_⟩) (λc3=>?_)
    .rw[c3,Bool.true_and]at w;show Qf _ (.bl (!decide (g<(((rows.map uR).length:Nat):Int)))) _;rw[y01];exact w S3 (.refl _)
    .rw[c3,y2Z]at w;exact w S3 (.refl _)
   .rintro ρ S3 ⟨x,rfl⟩ e3 l hl3;have e13:=e12.trans e3;refine⟨_,.inl (z05.trans (by rw[show(r.2.map λg=>U.bl (!(decide (0<=g)&&decide (g<(rows.length:Int)))))=(r.2.map λg=>!(decide (0<=g)&&decide (g<(rows.length:Int)))).map U.bl by rw[y0U];rfl])),?_⟩;show cond ((r.2.map λg=>!(decide (0<=g)&&decide (g<(rows.length:Int)))).any id) _ _;rw[zb0];have e4:=Ex.up (o:=.lst (r.2.map λg=>U.bl (!(decide (0<=g)&&decide (g<(rows.length:Int)))))) e13 (e13.no hl3);refine z0Z (λc=>bad (λz=>?_) _ e4) (λc=>ih _ _ (.mk (dn++[r]) L _ _ (by rw[hx];simp) e4 ?_))
    .have:(r.2.all λg=>decide (0<=g)&&decide (g<(rows.length:Int)))=true:=y0u.mpr λg hg3=>by have:=z.1.go r hrm g hg3;simp;lia
     rw[this]at c;cases c
    .intro r' hr';rcases y1c.mp hr' with h|h
     .exact hg r' h
     .rw[y0q]at h;subst h;refine⟨hperm,hgl,λg hg3=>?_⟩;have c:(r'.2.all λg=>decide (0<=g)&&decide (g<(rows.length:Int)))=true:=by simpa using c
      have:=y0u.mp c g hg3;simpa using this
def z9B{α:Type}{ck:Sto->Prop}{g:WX U}{ts:List WT}{rest:WR}{k:En->List U->Sto->Prop}(L:List α)(f:α->U)(h:α->List U){L':List U}(hL:L'=L.map f){ρ:En}{S:Sto}{acc:List U}(J:En->Prop)(h0:J ρ)(hck:∀S',Ex S S'->ck S')(hs:∀x∈L,∀ρ S' acc',J ρ->Ex S S'->acc'.length+(h x).length<=(acc++L.flatMap h).length->∀K:En->List U->Sto->Prop,(∀ρ' S'',J ρ'->Ex S' S''->K ρ' (acc'++h x) S'')->g (f x) ρ S' λρ1 S1=>wTs ts ρ1 S1 λb S2=>cond b (rest ρ1 S2 acc' K) (K ρ1 acc' S2))(hd:∀ρ S',J ρ->Ex S S'->k ρ (acc++L.flatMap h) S'):cmL ck g ts rest L' ρ S acc k:=by
 subst hL;have go:∀(R dn:List α)(ρ:En)(S':Sto),L=dn++R->J ρ->Ex S S'->cmL ck g ts rest (R.map f) ρ S' (acc++dn.flatMap h) k:=by
  intro R;induction R with
  |nil=>intro dn ρ S' e j x;rw[y0n]at e;subst e;exact⟨hck S' x,hd ρ S' j x⟩
  |cons y R ih =>
   intro dn ρ S' e j x;refine⟨hck S' x,hs y (by rw[e];simp) ρ S' _ j x (by rw[e];simp;lia) (λρ1 acc' S3=>cmL ck g ts rest (R.map f) ρ1 S3 acc' k) λρ' S'' j' x'=>?_⟩;have:=ih (dn++[y]) ρ' S'' (by rw[e];simp) j' (x.trans x');rw[List.flatMap_append,<-y1a]at this;simpa using this
 have:=go L [] ρ S rfl h0 (.refl S);simpa using this
def zeb{ck:Sto->Prop}{g:WX U}{te:WE}{k:En->List U->Sto->Prop}(L:List U)(h:U->U){ρ:En}{S:Sto}(J:En->Prop)(h0:J ρ)(hz:L.length<=100000)(hck:∀S',Ex S S'->ck S')(hs:∀x∈L,∀ρ S',J ρ->Ex S S'->∀Qf:En->U->Sto->Prop,(∀ρ' S'',J ρ'->Ex S' S''->Qf ρ' (h x) S'')->g x ρ S' λρ1 S1=>te ρ1 S1 (λu S3=>Qf ρ1 u S3) noQ)(hd:∀ρ S',J ρ->Ex S S'->k ρ (L.map h) S'):cmL ck g [] (em te) L ρ S [] k:=by
 have:=z1f (ck:=ck) (g:=g) (te:=te) (k:=k) L id h J h0 hz hck hs hd
 rwa [List.map_id]at this
def z1G{x:Nat}(h:x<=1000000):x<sizeLine:=y0J h (by decide)
def zig:U->Bool
 |.int _=>true
 |.str _=>true
 |_=>false
def zcI:U->Bool
 |.str _=>true
 |_=>false
def goN:U->Int
 |.int i=>i
 |_=>0
def bare(r:z8d):Row:=(r.1,r.2.map goN)
inductive zfv:Wsp
 |mk {S Q E} (n:Nat) (a:Addr) (rs:List z8d):isL S a (rs.map uRG)->n<=60->rs.length<=5000->(∀r∈rs,r.1.length<=60/\r.2.length<=60/\∀g∈r.2,zig g=true)->(z4G n (rs.map bare) 60->∀S',Ex S S'->Q .non S')->(¬z4G n (rs.map bare) 60->∀S',Ex S S'->E 2 S')->zfv [.int n,.ref a] S Q E
def zkq:z0N ["letters","rows","numbered"] (z07 z1h) ["rearranging","goings"] [none,none] (csc [(".0",.local),("rearranging",.local),("goings",.local),("tuple",.globalImplicit)]):={}
def zii:z0N ["rearranging","goings"] (csc [(".0",.local),("rearranging",.local),("goings",.local),("tuple",.globalImplicit)]) ["going"] [none] (csc [(".0",.local),("going",.local),("isinstance",.globalImplicit),("str",.globalImplicit)]):={}
def z3N(T:Z.Tx)(Jb:Z.f "check_machine" 2 zbX)(D:Z.fd "check_sewing" z1h ["letters","rows"]):Z.f "check_sewing" 3 zfv:=by
 refine wF ["letters","rows","numbered"] D (λf cdv A outer s H E hr nd=>z04 (zfh 2 nd ⟨zkq,rfl,λ_ _ _ _ _=>⟨(z0F rfl (z0b (z08 0 zkq.nd) (z0b (z08 1 zkq.nd) z0u))),.nil,(z1x rfl (z0f (z00 (z01 0) (z00 (sTy T z1F y0G (z00 (z0C ⟨zii,rfl,λ_ _ _ _ _=>⟨(z08 0 zii.nd),.nil,(z1x rfl (za8 (z1K (z2U (by decide) (z01 0) (T.b _ (by decide)) (T.b _ (by decide)) y1o)) z06 (z01 0)))⟩,λg' e=>by cases e⟩ (z0E (z01 1) z0D)) z02)) z02))))⟩,λg' e=>by cases e⟩ (z0E (z01 1) z0D)) (z03 (z0d (z09 Jb (hr.mono (by decide)) z0g (z00 (z01 0) (z00 (z01 2) (z00 (zaz T rfl rfl) z02))))))) (λus S Q E h=>by cases h<;>rfl) ?_;rintro _ S Q E ⟨n,a,rs,hl,hn,hz,hs,q,bad⟩;refine⟨_,hl,z1f rs uRG (λr=>uR (bare r)) (λρ=>∃x y,ρ=[x,y]) ⟨_,_,rfl⟩ (by lia) (λS' e=>e.l hl) ?_ ?_⟩
 .rintro r hr ρ S' ⟨x,y,rfl⟩ e Qf qf;obtain⟨h1,h2,h3⟩:=hs r hr;refine⟨rfl,zeb r.2 (λg=>.int (goN g)) (λρ=>∃x,ρ=[x]) ⟨_,rfl⟩ (by lia) (λ_ _=>trivial) ?_ ?_⟩
  .rintro g hg ρ S2 ⟨x,rfl⟩ e2 Qg qg;have w:=qg [some g] S2 ⟨_,rfl⟩ (.refl _);have:=h3 g hg;cases g<;>simp only[zig]at this<;>first|exact w|cases this
  .rintro ρ S2 ⟨x,rfl⟩ e2 l hl2;refine⟨_,.inl z05,show 2<=sizeLine by decide,?_⟩;have w:=qf [some (uI' r.1),some (.tup r.2)] (up S2 l (.lst (r.2.map λg=>U.int (goN g)))) ⟨_,_,rfl⟩ (Ex.up e2 (e2.no hl2));unfold uR bare uI' at w;rw[y0U]at w;exact w
 .rintro ρ S' ⟨x,y,rfl⟩ e l hl2;have e1:=Ex.up (o:=.lst (rs.map λr=>uR (bare r))) e (e.no hl2);refine .mk n l (rs.map bare) 60 (.inl (by rw[z05,y0U];rfl)) hn (by decide) (by rw[y01];lia) (λr hr=>?_) (λm S2 e2=>q m S2 (e1.trans e2)) λm S2 e2=>bad m S2 (e1.trans e2);obtain⟨r,hr',rfl⟩:=y0f.mp hr;obtain⟨h1,h2,h3⟩:=hs r hr';exact⟨h1,by show(r.2.map goN).length<=60;rw[y01];exact h2⟩
def z3M(rs:List z8d):List U:=rs.flatMap λr=>r.2.filter zcI
inductive zkg:Wsp
 |mk {S Q E} (a:Addr) (rs:List z8d):isL S a (rs.map uRG)->(z3M rs).length<=1000000->(∀r∈rs,∀g∈r.2,zig g=true)->(∀l S',Ex S S'->S l=none->S' l=some (.lst (z3M rs))->Q (.ref l) S')->zkg [.ref a] S Q E
def zhQ(L:List U):(L.flatMap λg=>cond (zcI g) [g] [])=L.filter zcI:=by
 induction L with
 |nil=>rfl
 |cons g L ih=>rw[List.flatMap_cons,ih,y34];cases zcI g<;>rfl
def ziV:z0N ["rows"] (z07 z1j) ["rearranging","goings","going"] [none,none,none] (csc [(".0",.local),("rearranging",.local),("goings",.local),("going",.local),("isinstance",.globalImplicit),("str",.globalImplicit)]):={}
def z30(T:Z.Tx)(D:Z.fd "names_gone_to" z1j ["rows"]):Z.f "names_gone_to" 1 zkg:=by
 refine wF ["rows"] D (λf cdv A outer s H E hr nd=>z03 (z0l (z0C ⟨ziV,rfl,λ_ _ _ _ _=>⟨(z0F rfl (z0b (z08 0 ziV.nd) (z0b (z08 1 ziV.nd) z0u))),.nil,(zhR rfl rfl rfl (λg' e=>by cases e) (z0E (z01 1) z0D) (z08 2 ziV.nd) (.cons (z1K (z2U (by decide) (z01 2) (T.b _ (by decide)) (T.b _ (by decide)) y1o)) .nil) (z1x rfl (z01 2)))⟩,λg' e=>by cases e;exact⟨rfl,λ_ _=>rfl⟩⟩ (z0E (z01 0) z0D)))) (λus S Q E h=>by cases h<;>rfl) ?_;rintro _ S Q E ⟨a,rs,hl,hz,hg,q⟩;refine⟨_,hl,z9B rs uRG (λr=>r.2.filter zcI) rfl (λρ=>∃x y z,ρ=[x,y,z]) ⟨_,_,_,rfl⟩ (λS' e=>e.l hl) ?_ ?_⟩
 .rintro r hr ρ S' acc ⟨x,y,z,rfl⟩ e hb K qK;rw[show([]:List U)++rs.flatMap (λr=>r.2.filter zcI)=z3M rs from rfl]at hb;refine⟨rfl,z9B r.2 id (λg=>cond (zcI g) [g] []) (List.map_id _).symm (λρ=>∃x,ρ=[some (uI' r.1),some (.tup r.2),x]) ⟨_,rfl⟩ (λ_ _=>trivial) ?_ ?_⟩
  .rintro g hg2 ρ S2 acc2 ⟨x,rfl⟩ e2 hb2 K2 qK2;have w:=qK2 [some (uI' r.1),some (.tup r.2),some g] S2 ⟨_,rfl⟩ (.refl _);rw[zhQ,y07]at hb2;have:=hg r hr g hg2;cases g<;>simp only[zig]at this<;>first|(cases this;done)|skip
   .rw[show acc2++cond (zcI (U.int _)) [U.int _] []=acc2 from y0n _]at w;exact w
   .exact⟨z1G (by lia),w⟩
  .rintro ρ S2 ⟨x,rfl⟩ e2;rw[zhQ];exact qK _ S2 ⟨_,_,_,rfl⟩ e2
 .rintro ρ S' ⟨x,y,z,rfl⟩ e l hl2;exact q l _ (Ex.up e (e.no hl2)) (e.no hl2) z05
end W
set_option maxHeartbeats 7000000
namespace W
open PySem L2 PySem.SeqAt Gu
variable[WW]{Z:Zx}
def zca{r:List Int}{z:Nat}:cut (r.map U.int) (some (z:Int)) none=(r.drop z).map U.int:=by rw[zgz,zba]
inductive sPW:Wsp
 |mk {S Q E} (b r:List Int):b.length<=70000->r.length<=70000->(r≠[]->∀e:Row,z0R e->(∀i,lat e i=lat (b,r) i)->e.1.length<=b.length->e.2.length<=r.length->Q (uR e) S)->(r=[]->E 3 S)->sPW [uI' b,uI' r] S Q E
def z9h(T:Z.Tx)(Jk:Z.f "check_ring" 1 zdl)(JU:Z.f "least_ring" 1 sLR)(JE:Z.f "count_ringed" 1 zkh)(D:Z.fd "plain_word" z6K ["beginning","ring"]):Z.f "plain_word" 2 sPW:=by
 refine wF ["beginning","ring","least","ringed","cut"] D (λf cdv A outer s H E hr nd=>z04 (z0d (z09 Jk (hr.mono (by decide)) z0g (z00 (z01 1) z02))) (z04 (z0n 2 nd (z09 JU (hr.mono (by decide)) z0g (z00 (z01 1) z02))) (z04 (z0n 3 nd (z09 JE (hr.mono (by decide)) z0g (z00 (z01 0) (z00 (z01 2) z02)))) (z04 (z0n 4 nd (z0j zd3 (sBu T z0V y0j (z00 (z01 2) z02)) (z0j z3P (z01 3) (sBu T z0V y0j (z00 (z01 2) z02))))) (z03 (z0l (z0f (z00 (z14 (z01 0) z48 (z45 (z0j zd3 (sBu T z0V y0j (z00 (z01 0) z02)) (z01 3)))) (z00 (z0j z12 (z14 (z01 2) (z45 (z01 4)) z48) (z14 (z01 2) z48 (z45 (z01 4)))) z02))))))))) (λus S Q E h=>by cases h;rfl) ?_;rintro _ S Q E ⟨b,r,hb,hr,q,x⟩;refine .mk r (λhne=>.mk r hne hr λz L=>?_) x;have q:=q hne;have hz:=L.pos;have hzl:=L.le hne;have ltz:(r.take z).length=z:=by rw[y0I];lia
 refine .mk b (r.take z) (λw=>by rw[w]at ltz;simp at ltz;lia) λc R=>?_;rw[ltz]at R;have R':=z76 hz R;have hcb:=R.le;have hm:c%z<z:=y1K _ hz;have ltm:(((r.take z).map U.int).length:Int)=z:=by rw[y01,ltz]
 have ecut:((((r.take z).map U.int).length:Int)-(c:Int)%(((r.take z).map U.int).length:Int))=((z-c%z:Nat):Int):=by rw[ltm,<-y2r];lia
 have elb:(((b.map U.int).length:Int)-(c:Int))=((b.length-c:Nat):Int):=by rw[y01];lia
 obtain⟨l1,l2⟩:=z2h (e:=(b,r)) (s:=z) (c:=c);have fin:=q (z2F (b,r) z c) (z5b (e:=(b,r)) hne L R') (z3x (e:=(b,r)) hne L R') (by rw[l1];exact Nat.sub_le _ _) (by rw[l2];exact hzl);refine⟨by rw[ltm];lia,?_⟩;show(cut ((r.take z).map U.int) (some ((((r.take z).map U.int).length:Int)-(c:Int)%(((r.take z).map U.int).length:Int))) none).length+(cut ((r.take z).map U.int) none (some ((((r.take z).map U.int).length:Int)-(c:Int)%(((r.take z).map U.int).length:Int)))).length<=sizeLine/\2<=sizeLine/\Q (.tup [.tup (cut (b.map U.int) none (some (((b.map U.int).length:Int)-(c:Int)))),.tup (cut ((r.take z).map U.int) (some ((((r.take z).map U.int).length:Int)-(c:Int)%(((r.take z).map U.int).length:Int))) none++cut ((r.take z).map U.int) none (some ((((r.take z).map U.int).length:Int)-(c:Int)%(((r.take z).map U.int).length:Int))))]) S;rw[ecut,elb,z7A,zca,z7A,<-y0t,zdg hz hzl];exact⟨by simp only[y01,y1g,y0I];exact z5g (by lia),by decide,fin⟩
def zfi{us:List U}{k:Nat}:cut us none (some (k:Int))=us.take k:=by
 unfold cut;rw[HT.sIx_none,HT.sIx_nat,List.drop_zero,Nat.sub_zero];rcases y3r k us.length with h|h
 .rw[y1E h]
 .rw[y35 h,y0D (y09 _),y0D h]
def z9n{us:List U}{k:Nat}:cut us (some (k:Int)) none=us.drop k:=by
 unfold cut;rw[HT.sIx_none,HT.sIx_nat];rcases y3r k us.length with h|h
 .rw[y1E h,y0D (by rw[y1g];lia)]
 .rw[y35 h,y1h (y09 _),y1h h];simp
def ze3{n:Nat}{w:List Int}:lw (n:Int) w=true↔LW n w:=by unfold lw LW;rw[y0u];refine⟨λh l hl=>by simpa using h l hl,λh l hl=>by simpa using h l hl⟩
def z6w{n:Nat}{e:Row}:(!e.2.isEmpty&&lw (n:Int) e.1&&lw (n:Int) e.2)=true↔z8K n e:=by unfold z8K;rw[y0b,y0b,ze3,ze3,and_assoc];simp
inductive zfl:Wsp
 |mk {S Q E} (one:List Row) (e:Row) (n:Nat):z1n n one->n<=60->e.1.length<=4900->e.2.length<=4900->e.1.length+one.length*e.2.length<=70000->(z8K n e->∀e':Row,z0R e'->(∀i,lat e' i=oS one e i)->e'.1.length<=70000->e'.2.length<=70000->∀S',Ex S S'->Q (uR e') S')->(¬z8K n e->∀S',Ex S S'->E 3 S')->zfl [uG one,uR e] S Q E
inductive iWE(S:Sto)(one:List Row)(e:Row)(ll ld:Addr):Nat->En->Sto->Prop
 |mk {S1} (t:Nat) (x8:Option U):Ex S S1->S1 ll=some (.lst ((z1J one e t).map uI'))->S1 ld=some (.dic false (prU 0 ((seen one e t).map U.int)))->(seen one e t).Nodup->iWE S one e ll ld (one.length+1-t) [some (uG one),some (uR e),some (uI' e.1),some (uI' e.2),some (uI' (z1L one 0 e.1)),some (.int (z32 one e t)),some (.ref ll),some (.ref ld),x8,none] S1
def z3G(T:Z.Tx)(Jc:Z.f "check_endless" 2 zd5)(Jf:Z.f "breadth" 1 sBr)(JI:Z.f "read_from" 1 z71)(Jj:Z.f "plain_word" 2 sPW)(Vc:Z.f "strung" 1 zfx)(D:Z.fd "worn_endless" zaZ ["guise","endless"]):Z.f "worn_endless" 3 zfl:=by
 refine wF ["guise","endless","beginning","ring","made","at","laps","laps_ahead","lap","first"] D (λf cdv A outer s H E hr nd=>z04 (z0d (z09 Jc (hr.mono (by decide)) z0g (z00 (z09 Jf (hr.mono (by decide)) z0g (z00 (z01 0) z02)) (z00 (z01 1) z02)))) (z04 (z1k (z01 1) (z0F rfl (z0b (z08 2 nd) (z0b (z08 3 nd) z0u)))) (z04 (z1k (z09 JI (hr.mono (by decide)) z0g (z00 (z01 0) (z00 z06 (z00 (z01 2) z02)))) (z0F rfl (z0b (z08 4 nd) (z0b (z08 5 nd) z0u)))) (z04 (z0n 6 nd (z0Y z02)) (z04 (z0n 7 nd (z6N false)) (z04 (z2B y0x (z0i (z8Y (hu9 hr) rfl).2 (z01 5) (z01 7)) (z04 (z7P (hu9 hr) rfl (z01 7) (z01 5) (sBu T z0V y0j (z00 (z01 6) z02))) (z04 (z1k (z09 JI (hr.mono (by decide)) z0g (z00 (z01 0) (z00 (z01 5) (z00 (z01 3) z02)))) (z0F rfl (z0b (z08 8 nd) (z0b (z08 5 nd) z0u)))) (z03 (z0d (zik (z01 6) (z00 (z01 8) z02))))))) (z04 (z0n 9 nd (z0L (z8G (hu9 hr) rfl) (z01 7) (z01 5))) (z03 (z0l (z09 Jj (hr.mono (by decide)) z0g (z00 (z0j z12 (z01 4) (z09 Vc (hr.mono (by decide)) z0g (z00 (z14 (z01 6) z48 (z45 (z01 9))) z02))) (z00 (z09 Vc (hr.mono (by decide)) z0g (z00 (z14 (z01 6) (z45 (z01 9)) z48) z02)) z02)))))))))))) (λus S Q E h=>by cases h<;>rfl) ?_;rintro _ S Q E ⟨one,e,n,G,hn,he1,he2,hz,q,bad⟩;refine .mk one n G (.mk n e.1 e.2 (by lia) (by lia) λS1 e1=>z0Z (λhg=>?_) λhg=>bad (λz=>by rw[z6w.mpr z]at hg;cases hg) S1 e1);have hg:=z6w.mp hg;obtain⟨hne,l1,l2⟩:=id hg;have q:=q hg;have hL:0<e.2.length:=y0r.mpr hne;have h1:=G.some;refine⟨rfl,.mk one n e.1 0 G (by lia) l1 (y2W 0) (by lia) λS2 e2=>⟨rfl,by decide,λll hll ld hld=>?_⟩⟩;have e12:=e1.trans e2;have e3:=Ex.up (o:=.lst []) e12 (e12.no hll);have e4:=Ex.up (o:=.dic false []) e3 (e3.no hld);have nld:ll≠ld:=by rintro rfl;rw[z05]at hld;cases hld
 have hl0:=e12.no hll;have hd0:=e3.no hld;refine zbu (iWE S one e ll ld) (one.length+1) (.mk 0 _ e4 ((z0k nld).trans z05) z05 List.nodup_nil) ?_;rintro m ρ S5 ⟨t,x8,e5,el,ed,nd⟩ again ag;have ht:t<=one.length:=by have:=z5R nd (λx hx=>by obtain⟨j,_,rfl⟩:=y0f.mp hx;exact z6X G l1 l2 j);rw[z3a]at this;exact this
 obtain⟨a0,a1⟩:=z6X G l1 l2 t;have h4000:=G.few;have inj:∀x y,U.int x=U.int y->x=y:=λx y h=>by injection h
 refine⟨_,_,ed,rfl,?_⟩;show cond ((z0t (prU 0 ((seen one e t).map U.int)) (.int (z32 one e t))).isSome != true) _ _;have hv:=z2e (.int (z32 one e t)) ((seen one e t).map U.int) 0;rw[z7i inj,y2A]at hv;by_cases hm:z32 one e t∈seen one e t
 .rw[if_pos ((z0S inj).mpr hm)]at hv;rw[hv];obtain⟨first,hf⟩:∃first,first=(seen one e t).idxOf (z32 one e t):=⟨_,rfl⟩;have hfl:first<t:=by rw[hf];have:=y10 hm;rwa [z3a]at this
  have hfa:z32 one e t=z32 one e first:=by
   have h':(seen one e t)[first]?=some (z32 one e t):=by rw[hf,y0a (y10 hm),List.getElem_idxOf]
   unfold seen at h';rw[y0l,List.getElem?_range hfl]at h';exact(y06 h').symm
  have hlat:=zdw one hne hfl hfa;rw[<-hf]at hv;have hmk:t*e.2.length<=one.length*e.2.length:=y3b _ ht;have hmf:first*e.2.length<=t*e.2.length:=y3b _ (y0Y hfl);have lt1:((z1J one e t).take first).flatten.length=first*e.2.length:=by
   have:(z1J one e t).take first=z1J one e first:=by unfold z1J;rw[<-y3g,List.take_range,y1E (y0Y hfl)]
   rw[this,z2A]
  have lt2:((z1J one e t).take first).flatten.length+((z1J one e t).drop first).flatten.length=t*e.2.length:=by rw[<-y07,<-y22,y2j,z2A]
  have hrne:((z1J one e t).drop first).flatten≠[]:=λz=>by rw[z,lt1,y2g,y2B]at lt2;have:=Nat.eq_of_mul_eq_mul_right hL lt2;lia
  refine⟨_,_,ed,rfl,opt.of hv ⟨_,.inl el,λp1 hp1=>?_⟩⟩;rw[zfi,<-y3g];have e6:=Ex.up (o:=.lst (((z1J one e t).take first).map uI')) (.refl S5) hp1;refine .mk p1 _ (.inl z05) (by lia) λS7 e7=>⟨?_,_,.inl (e7 _ _ (e6 _ _ el)),λp2 hp2=>?_⟩
  .rw[y01,y01,z0X,lt1];exact z5g (by lia)
  rw[z9n,<-List.map_drop];have e8:=Ex.up (o:=.lst (((z1J one e t).drop first).map uI')) (.refl S7) hp2;refine .mk p2 _ (.inl z05) (by lia) λS9 e9=>?_;rw[show U.tup ((z1L one 0 e.1).map U.int++(((z1J one e t).take first).flatten).map U.int)=uI' (z1L one 0 e.1++((z1J one e t).take first).flatten)by unfold uI';rw[y0t]];refine .mk _ _ (by rw[y07,z0X,lt1];lia) (by lia) (λ_ e' p' la le1 le2=>q e' p' (λi=>(la i).trans (hlat i)) ?_ (by lia) S9 (e5.trans (e6.trans (e7.trans (e8.trans e9))))) λz=>absurd z hrne;rw[y07,z0X,lt1]at le1;lia
 .rw[if_neg (λz=>hm ((z0S inj).mp z))]at hv;rw[hv];refine⟨_,.inl el,_,_,ed,rfl,?_,?_⟩
  .rw[z3t,y01,z3a];exact y0J (show t<=4000 by lia) (by decide)
  have e6:Ex S (up S5 ld (.dic false (z40 (prU 0 ((seen one e t).map U.int)) (.int (z32 one e t)) (.int ((((z1J one e t).map uI').length:Nat):Int))))):=Ex.up e5 hd0;have d6:up S5 ld (.dic false (z40 (prU 0 ((seen one e t).map U.int)) (.int (z32 one e t)) (.int ((((z1J one e t).map uI').length:Nat):Int)))) ld=some (.dic false (prU 0 ((seen one e (t+1)).map U.int))):=by rw[z05,y01,z8r,show((t:Nat):Int)=(((seen one e t).map U.int).length:Int)by rw[y01,z3a],z6M (λz=>hm ((z0S inj).mp z)),z5u,y0t];rfl
  have el6:=(z0k nld (o:=.dic false (z40 (prU 0 ((seen one e t).map U.int)) (.int (z32 one e t)) (.int ((((z1J one e t).map uI').length:Nat):Int))))).trans el;generalize up S5 ld (.dic false (z40 (prU 0 ((seen one e t).map U.int)) (.int (z32 one e t)) (.int ((((z1J one e t).map uI').length:Nat):Int))))=S6 at e6 d6 el6⊢;refine .mk one n e.2 (z32 one e t) G (by lia) l2 a0 a1 λS7 e7=>⟨rfl,⟨_,.inl (e7 _ _ el6)⟩,_,e7 _ _ el6,?_,ag (one.length+1-(t+1)) _ _ (by lia) (.mk (t+1) _ (Ex.up (e6.trans e7) hl0) ?_ ((z0k nld.symm).trans (e7 _ _ d6)) ?_)⟩
  .rw[y01,z8r];exact y0J (show t<=4000 by lia) (by decide)
  .rw[z05,z3H,y0t];rfl
  .rw[z5u];exact List.nodup_append.mpr ⟨nd,by simp,λx hx y hy z=>hm (by rw[<-(show y=z32 one e t by simpa using hy),<-z];exact hx)⟩
inductive Hs(Z:Zx)(S:Sto)(p d x y:Addr)(n:Int)(th:List (U × U))(dn tb:List U):Prop
 |mk:S p=some (.ins Z.C [("many_letters",.int n),("things",.ref d),("done",.ref x),("taken_back",.ref y)])->S d=some (.dic true th)->S x=some (.lst dn)->S y=some (.lst tb)->x≠y->Md Z S->Hs Z S p d x y n th dn tb
def But(d x y:Addr)(S S':Sto):Prop:=∀a o,S a=some o->a≠d->a≠x->a≠y->S' a=some o
section
variable{S S':Sto}{p d x y:Addr}{n:Int}{th:List (U × U)}{dn tb:List U}
def Hs.nDX(h:Hs Z S p d x y n th dn tb):p≠d/\p≠x/\p≠y/\d≠x/\d≠y:=by obtain⟨h1,h2,h3,h4,h5,_⟩:=h;refine⟨?_,?_,?_,?_,?_⟩<;>rintro rfl<;>simp_all
theorem Hs.ex(h:Hs Z S p d x y n th dn tb)(e:Ex S S'):Hs Z S' p d x y n th dn tb:=by obtain⟨h1,h2,h3,h4,h5,h6⟩:=h;exact⟨e _ _ h1,e _ _ h2,e _ _ h3,e _ _ h4,h5,h6.ex e⟩
def Hs.md(h:Hs Z S p d x y n th dn tb):Md Z S:=by obtain⟨_,_,_,_,_,h⟩:=h;exact h
def Hs.nM(h:Hs Z S p d x y n th dn tb)(b:But d x y S S'):Md Z S':=by exact h.md.any
end
def Ex.but{d x y:Addr}{S S':Sto}(e:Ex S S'):But d x y S S':=λa o h _ _ _=>e a o h
def But.trans{d x y:Addr}{S S1 S2:Sto}(a:But d x y S S1)(b:But d x y S1 S2):But d x y S S2:=λc o h h1 h2 h3=>b c o (a c o h h1 h2 h3) h1 h2 h3
def at1{α:Type}{a b:α}{r:List α}:atI (a::b::r) 1=some b:=by unfold atI ixN;simp;rw[if_pos (by lia)];simp
def sz2:2<=sizeLine:=by decide
def sz4:4<=sizeLine:=by decide
inductive zjo(Z:Zx):Wsp
 |mk {S Q E} {p d x y n th dn tb} (k v:U):Hs Z S p d x y n th dn tb->tk k=true->cond (isN v) ((z0t th k).isSome=true) (th.length<sizeLine)->Q .non (up S d (.dic true (cond (isN v) (z90 th k) (z40 th k v))))->zjo Z [.ref p,k,v] S Q E
def z5Z(T:Z.Tx)(D:Z.md "put" "House.put" zk1 ["self","key","thing"]):Z.m "put" 1 (zjo Z):=by
 refine wM ["self","key","thing"] D (λf cdv A outer s H E hr nd=>z03 (z0q (z0i zjD (z01 2) z4m) (z03 (zib (hu9 hr) rfl (sFl T (z01 0)) (z01 1))) (z03 (z7P (hu9 hr) rfl (sFl T (z01 0)) (z01 1) (z01 2))))) (λus S Q E h=>by cases h<;>rfl) ?_;rintro _ S Q E ⟨k,v,⟨h1,h2,h3,h4,h5,_⟩,hk,hv,q⟩;cases e:isN v<;>rw[e]at hv q<;>show cond (false != isN v) _ _<;>rw[e]
 .exact⟨_,h1,opt.of rfl ⟨_,_,h2,hk,hv,q⟩⟩
 .exact⟨_,h1,opt.of rfl ⟨_,_,h2,hk,hv,q⟩⟩
def ks(k n:Str):U:=.tup [.str k,.str n]
inductive z2S(Z:Zx)(kind:Str)(c:Nat):Wsp
 |mk {S Q E} {p d x y n th dn tb} (nm:Str):Hs Z S p d x y n th dn tb->(∀v,z0t th (ks kind nm)=some v->Q v S)->(z0t th (ks kind nm)=none->E c S)->z2S Z kind c [.ref p,.str nm] S Q E
def z47(T:Z.Tx)(D:Z.md "guise" "House.guise" z9Y ["self","name"]):Z.m "guise" 1 (z2S Z "guise" 9):=by
 refine wM ["self","name"] D (λf cdv A outer s H E hr nd=>z04 (z0q (z0i (z8Y (hu9 hr) rfl).2 (z0f (z00 (z6z T rfl rfl) (z00 (z01 1) z02))) (sFl T (z01 0))) (z03 (z0s T.x rfl z0e)) z0m) (z03 (z0l (z0L (z8G (hu9 hr) rfl) (sFl T (z01 0)) (z0f (z00 (z6z T rfl rfl) (z00 (z01 1) z02))))))) (λus S Q E h=>by cases h<;>rfl) ?_;rintro _ S Q E ⟨nm,⟨h1,h2,h3,h4,h5,_⟩,q1,q2⟩;refine⟨sz2,_,h1,opt.of rfl ⟨_,_,h2,rfl,?_⟩⟩;show cond ((z0t _ (ks "guise" nm)).isSome != true) _ _;cases e:z0t _ (ks "guise" nm)
 .exact q2 e
 .exact⟨_,h1,opt.of rfl ⟨sz2,_,_,h2,rfl,opt.of e (q1 _ e)⟩⟩
def z2Y(T:Z.Tx)(D:Z.md "held_by" "House.held_by" z7r ["self","peg"]):Z.m "held_by" 1 (z2S Z "peg" 10):=by
 refine wM ["self","peg"] D (λf cdv A outer s H E hr nd=>z04 (z0q (z0i (z8Y (hu9 hr) rfl).2 (z0f (z00 (z6z T rfl rfl) (z00 (z01 1) z02))) (sFl T (z01 0))) (z03 (z0s T.x rfl z0e)) z0m) (z03 (z0l (z0L (z8G (hu9 hr) rfl) (sFl T (z01 0)) (z0f (z00 (z6z T rfl rfl) (z00 (z01 1) z02))))))) (λus S Q E h=>by cases h<;>rfl) ?_;rintro _ S Q E ⟨nm,⟨h1,h2,h3,h4,h5,_⟩,q1,q2⟩;refine⟨sz2,_,h1,opt.of rfl ⟨_,_,h2,rfl,?_⟩⟩;show cond ((z0t _ (ks "peg" nm)).isSome != true) _ _;cases e:z0t _ (ks "peg" nm)
 .exact q2 e
 .exact⟨_,h1,opt.of rfl ⟨sz2,_,_,h2,rfl,opt.of e (q1 _ e)⟩⟩
inductive z6c(S:Sto):List U->Str->Prop
 |mk {name ks ds xs}:(name,ks)∈z1B->z2P S ks ds xs->((name::xs).map (·.length)).sum+(name::xs).length<=16777216->z6c S (.str name::ds) (z3y name xs)
def z6c.line{S:Sto}{ds:List U}{l:Str}{Q:Kq U}{E:Xq}(h:z6c S ds l)(M:Md Z S)(q:∀S',Ex S S'->Q (.str l) S'):zcW Z [.tup ds] S Q E:=by obtain⟨h1,h2,h3⟩:=h;exact .mk _ _ _ _ M h1 h2 h3 q
def z2f(th:List (U × U))(k v:U):List (U × U):=cond (isN v) (z90 th k) (z40 th k v)
def chg(l:Str)(th:List (U × U))(k v:U):U:=.tup [.str l,k,(z0t th k).getD .non,v]
inductive z5X(Z:Zx):Wsp
 |mk {S Q E} {p d x y n th dn tb} (kind nm:Str) (dd v:U) (r:List U) (l:Str):Hs Z S p d x y n th dn tb->z6c S (dd::.str nm::r) l->dn.length<sizeLine->cond (isN v) ((z0t th (ks kind nm)).isSome=true) (th.length<sizeLine) ->
  (∀S',Hs Z S' p d x y n (z2f th (ks kind nm) v) (dn++[chg l th (ks kind nm) v]) []->But d x y S S'->Q .non S')->z5X Z [.ref p,.str kind,v,.tup (dd::.str nm::r)] S Q E
def z55(T:Z.Tx)(Jz:Z.f "line_written" 7 (zcW Z))(m_put:Z.m "put" 1 (zjo Z))(D:Z.md "keep" "House.keep" zgf ["self","kind","thing","deed"]):Z.m "keep" 8 (z5X Z):=by refine wM ["self","kind","thing","deed","key"] D (λf cdv A outer s H E hr nd=>z04 (z0n 4 nd (z0f (z00 (z01 1) (z00 (z0L z2T (z01 3) z06) z02)))) (z04 (z0d (zik (sFl T (z01 0)) (z00 (z0f (z00 (z09 Jz (hr.mono (by decide)) z0g (z00 (z01 3) z02)) (z00 (z01 4) (z00 (zfb (hu9 hr) rfl (sFl T (z01 0)) (z01 4) ⟨rfl,rfl,rfl,rfl⟩) (z00 (z01 2) z02))))) z02))) (z04 (z0d (zm4 (sFl T (z01 0)))) (z03 (z0d (z0p m_put (hr.mono (by decide)) z0g (z01 0) (z00 (z01 4) (z00 (z01 2) z02)))))))) (λus S Q E h=>by cases h<;>rfl) ?_;rintro _ S Q E @⟨_,_,_,p,d,x,y,n,th,dn,tb,kind,nm,dd,v,r,l,hs,hl,hz,hv,q⟩;obtain⟨n1,n2,n3,n4,n5⟩:=hs.nDX;have M:=hs.md;have hs0:=hs;obtain⟨h1,h2,h3,h4,h5,_⟩:=hs;refine opt.of at1 ⟨sz2,_,h1,opt.of rfl ⟨⟨_,.inl h3⟩,hl.line M λS1 e1=>?_⟩⟩;have g1:=e1 _ _ h1;have g2:=e1 _ _ h2;have g4:=e1 _ _ h4;refine⟨_,g1,opt.of rfl ⟨_,_,g2,_,_,g2,rfl,sz4,_,e1 _ _ h3,hz,_,(z0k n2).trans g1,opt.of rfl ⟨⟨_,.inl ((z0k h5.symm).trans g4)⟩,_,(z0k h5.symm).trans g4,_,(z0k n3).trans ((z0k n2).trans g1),rfl,?_⟩⟩⟩;have b1:But d x y S (up (up S1 x (.lst (dn++[chg l th (ks kind nm) v]))) y (.lst [])):=λa o e a1 a2 a3=>(z0k a3).trans ((z0k a2).trans (e1 _ _ e));refine .mk _ v ⟨(z0k n3).trans ((z0k n2).trans g1),(z0k n5).trans ((z0k n4).trans g2),(z0k h5).trans z05,z05,h5,hs0.nM b1⟩ rfl hv (q _ ⟨(z0k n1).trans ((z0k n3).trans ((z0k n2).trans g1)),z05,(z0k n4.symm).trans ((z0k h5).trans z05),(z0k n5.symm).trans z05,h5,hs0.nM (b1.trans λa o e a1 a2 a3=>(z0k a1).trans e)⟩ (b1.trans λa o e a1 a2 a3=>(z0k a1).trans e))
inductive zcA(Z:Zx):Wsp
 |mk {S Q E} {p d x y n th dn tb} (kind nm:Str):Hs Z S p d x y n th dn tb->nm.length<=1000000->(z10 nm=true->z0t th (ks kind nm)=none->∀S',Ex S S'->Q .non S')->(z10 nm=false->∀S',Ex S S'->E 5 S')->(z10 nm=true->(z0t th (ks kind nm)).isSome=true->∀S',Ex S S'->E 8 S')->zcA Z [.ref p,.str kind,.str nm] S Q E
def z2w(T:Z.Tx)(Js:Z.f "is_name" 1 zdu)(D:Z.md "check_new" "House.check_new" z3f ["self","kind","name"]):Z.m "check_new" 2 (zcA Z):=by
 refine wM ["self","kind","name"] D (λf cdv A outer s H E hr nd=>z04 (z0q (z3i (z1K (z09 Js (hr.mono (by decide)) z0g (z00 (z01 2) z02)))) (z03 (z0s T.x rfl z0e)) z0m) (z03 (z0q (z0i (z8Y (hu9 hr) rfl).1 (z0f (z00 (z01 1) (z00 (z01 2) z02))) (sFl T (z01 0))) (z03 (z0s T.x rfl z0e)) z0m))) (λus S Q E h=>by cases h<;>rfl) ?_;rintro _ S Q E ⟨kind,nm,hs,hz,q,x1,x2⟩;refine .mk nm hz λS1 e1=>?_;show cond (Bool.not (z10 nm)) _ _;cases hb:z10 nm
 .exact x1 hb S1 e1
 .obtain⟨h1,h2,_⟩:=hs.ex e1;refine⟨sz2,_,h1,opt.of rfl ⟨_,_,h2,rfl,?_⟩⟩;show cond ((z0t _ (ks kind nm)).isSome != false) _ _;cases e:z0t _ (ks kind nm)
  .exact q hb e S1 e1
  .exact x2 hb (by rw[e];rfl) S1 e1
def pgU(ws ls:List U):U:=.tup [.tup ws,.tup ls]
def zeH{us:List U}{u:U}:atI (us++[u]) (-1)=some u:=by rw[show(-1:Int)=-1-((0:Nat):Int)by lia,zbo (by simp)];simp
abbrev z68(Z:Zx)(S:Sto)(p d x y:Addr)(n:Int)(th:List (U × U))(dn:List U)(k v:U)(l:Str)(Q:Kq U):Prop:=∀S',Hs Z S' p d x y n (z2f th k v) (dn++[chg l th k v]) []->But d x y S S'->Q .non S'
def zee{S:Sto}{dd nm:Str}(h:(dd,[str "name"])∈z1B)(hn:nm.length<=61):z6c S [.str dd,.str nm] (z3y dd [nm]):=by
 refine .mk h (.cons (.pl (.inl rfl) hn) .nil) ?_;have:∀p∈z1B,p.1.length<=20:=by decide +kernel
 have:dd.length<=20:=this _ h;simp;lia
inductive sGo(Z:Zx)(kind dd:Str)(c:Nat):Wsp
 |mk {S Q E} {p d x y n th dn tb} (nm:Str):Hs Z S p d x y n th dn tb->nm.length<=61->dn.length<=1000000->(z0t th (ks kind nm)=none->E c S)->((z0t th (ks kind nm)).isSome=true->z68 Z S p d x y n th dn (ks kind nm) .non (z3y dd [nm]) Q)->sGo Z kind dd c [.ref p,.str nm] S Q E
def z5p(T:Z.Tx)(JO:Z.m "guise" 1 (z2S Z "guise" 9))(Ja:Z.m "keep" 8 (z5X Z))(D:Z.md "drop" "House.drop" zgd ["self","name"]):Z.m "drop" 9 (sGo Z "guise" "drop" 9):=by
 refine wM ["self","name"] D (λf cdv A outer s H E hr nd=>z04 (z0d (z0p JO (hr.mono (by decide)) z0g (z01 0) (z00 (z01 1) z02))) (z03 (z0d (z0p Ja (hr.mono (by decide)) z0g (z01 0) (z00 (z6z T rfl rfl) (z00 z4m (z00 (z0f (z00 z0e (z00 (z01 1) z02))) z02))))))) (λus S Q E h=>by cases h<;>rfl) ?_;rintro _ S Q E @⟨_,_,_,p,d,x,y,n,th,dn,tb,nm,hs,hn,hz,q1,q2⟩;have hs0:=hs;obtain⟨h1,h2,_⟩:=hs;refine⟨_,h1,rfl,.mk nm hs0 (λv hv=>⟨_,h1,rfl,sz2,?_⟩) q1⟩;have hv':(z0t th (ks "guise" nm)).isSome=true:=by rw[hv];rfl
 exact .mk "guise" nm _ .non [] _ hs0 (zee (by simp[z1B]) hn) (z1G hz) hv' (q2 hv')
def zk7{S:Sto}{nm:Str}{b r:List Int}(hn:nm.length<=61)(hb:OkW b)(hr:OkW r):z6c S [.str "hang",.str nm,uI' b,uI' r] (z3y "hang" [nm,z1M b,z1M r]):=by
 refine .mk (ks:=[str "name",str "word",str "ring"]) (by simp[z1B]) (.cons (.pl (.inl rfl) hn) (.cons (.wd (.inl rfl) hb) (.cons (.wd (.inr rfl) hr) .nil))) ?_;have h1:=z2s hb.2;have h2:=z2s hr.2;have h3:=hb.1;have h4:=hr.1;have h0:(Str.ofString "hang").length<=20:=by decide +kernel
 simp;lia
def ziG{n:Int}{w:List Int}(h:lw n w=true)(hn:n<=1000)(hz:w.length<=100000):OkW w:=⟨hz,λi hi=>by have:=y0u.mp h i hi;simp at this;lia⟩
def z7V{nm:Str}(h:z10 nm=true):nm.length<=61:=by unfold z10 at h;rw[y0b,y1A]at h;lia
inductive z5G(Z:Zx):Wsp
 |mk {S Q E} {p d x y n th dn tb} (nm:Str) (b r:List Int):Hs Z S p d x y n th dn tb->nm.length<=1000000->n<=1000->b.length<=70000->r.length<=70000->dn.length<=1000000->th.length<=1000000 ->
  (z10 nm=false->∀S',Ex S S'->E 5 S')->(z10 nm=true->(z0t th (ks "peg" nm)).isSome=true->∀S',Ex S S'->E 8 S') ->
  (z10 nm=true->z0t th (ks "peg" nm)=none->(!r.isEmpty&&lw n b&&lw n r)=false->∀S',Ex S S'->E 3 S') ->
  (z10 nm=true->z0t th (ks "peg" nm)=none->(!r.isEmpty&&lw n b&&lw n r)=true->∀e:Row,z0R e->(∀i,lat e i=lat (b,r) i)->e.1.length<=b.length->e.2.length<=r.length->z68 Z S p d x y n th dn (ks "peg" nm) (pgU [uR e] []) (z3y "hang" [nm,z1M b,z1M r]) Q)->z5G Z [.ref p,.str nm,uI' b,uI' r] S Q E
def z4T(T:Z.Tx)(Jm:Z.m "check_new" 2 (zcA Z))(Jc:Z.f "check_endless" 2 zd5)(Ja:Z.m "keep" 8 (z5X Z))(Jj:Z.f "plain_word" 2 sPW)(D:Z.md "hang" "House.hang" zeN ["self","peg","beginning","ring"]):Z.m "hang" 9 (z5G Z):=by refine wM ["self","peg","beginning","ring"] D (λf cdv A outer s H E hr nd=>z04 (z0d (z0p Jm (hr.mono (by decide)) z0g (z01 0) (z00 (z6z T rfl rfl) (z00 (z01 1) z02)))) (z04 (z0d (z09 Jc (hr.mono (by decide)) z0g (z00 (sFl T (z01 0)) (z00 (z0f (z00 (z01 2) (z00 (z01 3) z02))) z02)))) (z03 (z0d (z0p Ja (hr.mono (by decide)) z0g (z01 0) (z00 (z6z T rfl rfl) (z00 (z0f (z00 (z0f (z00 (z09 Jj (hr.mono (by decide)) z0g (z00 (z01 2) (z00 (z01 3) z02))) z02)) (z00 (z0f z02) z02))) (z00 (z0f (z00 z0e (z00 (z01 1) (z00 (z01 2) (z00 (z01 3) z02))))) z02)))))))) (λus S Q E h=>by cases h<;>rfl) ?_;rintro _ S Q E @⟨_,_,_,p,d,x,y,n,th,dn,tb,nm,b,r,hs,hz,hn,hb,hr,hdn,hth,x1,x2,x3,q⟩;have hs0:=hs;obtain⟨h1,h2,_⟩:=hs;refine⟨_,h1,rfl,.mk "peg" nm hs0 hz (λg1 g2 S1 e1=>?_) x1 x2⟩;have k1:=hs0.ex e1;refine⟨_,e1 _ _ h1,opt.of rfl ⟨sz2,.mk n b r (by lia) (by lia) λS2 e2=>z0Z (λc=>?_) (λc=>x3 g1 g2 c S2 (e1.trans e2))⟩⟩;have k2:=k1.ex e2;have e12:=e1.trans e2;have c':=c;rw[y0b,y0b]at c;refine⟨_,e12 _ _ h1,rfl,.mk b r hb hr (λ_ e pe le l1 l2=>⟨show 1<=sizeLine by decide,show 0<=sizeLine by decide,sz2,sz4,?_⟩) λz=>by rw[z]at c;simp at c⟩;exact .mk "peg" nm _ _ _ _ k2 (zk7 (z7V g1) (ziG c.1.2 hn (by lia)) (ziG c.2 hn (by lia))) (z1G hdn) (z1G hth) λS3 k3 b3=>q g1 g2 c' e pe le l1 l2 S3 k3 (e12.but.trans b3)
def zjl{S:Sto}{dd nm n2:Str}(h:(dd,[str "name",str "name"])∈z1B)(hn:nm.length<=61)(hm:n2.length<=61):z6c S [.str dd,.str nm,.str n2] (z3y dd [nm,n2]):=by
 refine .mk h (.cons (.pl (.inl rfl) hn) (.cons (.pl (.inl rfl) hm) .nil)) ?_;have:∀p∈z1B,p.1.length<=20:=by decide +kernel
 have:dd.length<=20:=this _ h;simp;lia
def zml(n:Nat)(u:U):Prop:=∃rows,u=uG rows/\z1n n rows/\rows.length<=60
def zlw(n:Nat)(e:Row):Prop:=z8K n e/\e.1.length+e.2.length<=1000
inductive z9F(Z:Zx):Wsp
 |mk {S Q E} {p d x y th dn tb} (n:Nat) (pg nm:Str):Hs Z S p d x y n th dn tb->pg.length<=61->nm.length<=61->n<=60->dn.length<=1000000->th.length<=1000000->(∀v,z0t th (ks "peg" pg)=some v->∃ws e ls,v=pgU (ws++[uR e]) ls/\ws.length<=100000/\ls.length<=100000/\zlw n e)->(∀u,z0t th (ks "guise" nm)=some u->zml n u) ->
  (z0t th (ks "peg" pg)=none->E 10 S)->((z0t th (ks "peg" pg)).isSome=true->z0t th (ks "guise" nm)=none->E 9 S) ->
  (∀ws e ls rows e',z0t th (ks "peg" pg)=some (pgU (ws++[uR e]) ls)->z0t th (ks "guise" nm)=some (uG rows)->z0R e'->(∀i,lat e' i=oS rows e i)->cond (decide (e'.1.length+e'.2.length>1000)) (∀S',Ex S S'->E 12 S') (z68 Z S p d x y n th dn (ks "peg" pg) (pgU (ws++[uR e]++[uR e']) (ls++[.str nm])) (z3y "wear" [pg,nm]) Q))->z9F Z [.ref p,.str pg,.str nm] S Q E
def z4N(T:Z.Tx)(Jg:Z.m "held_by" 1 (z2S Z "peg" 10))(JD:Z.f "worn_endless" 3 zfl)(JO:Z.m "guise" 1 (z2S Z "guise" 9))(Ja:Z.m "keep" 8 (z5X Z))(D:Z.md "wear" "House.wear" zeh ["self","peg","name"]):Z.m "wear" 9 (z9F Z):=by
 refine wM ["self","peg","name","words","layers","made"] D (λf cdv A outer s H E hr nd=>z04 (z1k (z0p Jg (hr.mono (by decide)) z0g (z01 0) (z00 (z01 1) z02)) (z0F rfl (z0b (z08 3 nd) (z0b (z08 4 nd) z0u)))) (z04 (z0n 5 nd (z09 JD (hr.mono (by decide)) z0g (z00 (z0p JO (hr.mono (by decide)) z0g (z01 0) (z00 (z01 2) z02)) (z00 (z0L z2T (z01 3) (z5v z06)) z02)))) (z04 (z0q (z0i (z1g zbl) (z0j z12 (sBu T z0V y0j (z00 (z0L z2T (z01 5) z06) z02)) (sBu T z0V y0j (z00 (z0L z2T (z01 5) z06) z02))) (zaz T rfl rfl)) (z03 (z0s T.x rfl z0e)) z0m) (z03 (z0d (z0p Ja (hr.mono (by decide)) z0g (z01 0) (z00 (z6z T rfl rfl) (z00 (z0f (z00 (z0j z12 (z01 3) (z0f (z00 (z01 5) z02))) (z00 (z0j z12 (z01 4) (z0f (z00 (z01 2) z02))) z02))) (z00 (z0f (z00 z0e (z00 (z01 1) (z00 (z01 2) z02)))) z02))))))))) (λus S Q E h=>by cases h<;>rfl) ?_;rintro _ S Q E @⟨_,_,_,p,d,x,y,th,dn,tb,n,pg,nm,hs,hp,hn,hn6,hdn,hth,hP,hG,x1,x2,q⟩;have hs0:=hs;obtain⟨h1,h2,_⟩:=hs;refine⟨_,h1,rfl,.mk pg hs0 (λv hv=>?_) x1⟩;obtain⟨ws,e,ls,rfl,w1,w2,⟨ge,w3⟩⟩:=hP v hv;refine⟨rfl,_,h1,rfl,.mk nm hs0 (λu hu=>?_) (x2 (by rw[hv];rfl))⟩;obtain⟨rows,rfl,G,hr6⟩:=hG u hu;have hm:rows.length*e.2.length<=60*e.2.length:=y3b _ hr6;refine opt.of zeH (.mk rows e n G hn6 (by lia) (by lia) (by lia) (λ_ e' pe le l1 l2 S1 e1=>?_) λz=>absurd ge z);have q:=q ws e ls rows e' hv hu pe le;have k1:=hs0.ex e1;show cond (decide ((((e'.1.map U.int).length:Nat):Int)+(((e'.2.map U.int).length:Nat):Int)>1000)) _ _;rw[y01,y01,show decide ((e'.1.length:Int)+(e'.2.length:Int)>1000)=decide (e'.1.length+e'.2.length>1000)from y36.mpr (by lia)];cases c:decide (e'.1.length+e'.2.length>1000)<;>rw[c]at q
 .refine⟨_,e1 _ _ h1,rfl,show 1<=sizeLine by decide,?_,show 1<=sizeLine by decide,?_,sz2,show 3<=sizeLine by decide,?_⟩
  .exact y0Y (z1G (by simp;lia))
  .exact y0Y (z1G (by simp;lia))
  exact .mk "peg" pg _ _ _ _ k1 (zjl (by simp[z1B]) hp hn) (z1G hdn) (z1G hth) λS3 k3 b3=>q S3 k3 (e1.but.trans b3)
 .exact q S1 e1
def z87{us:List U}{u:U}:cut (us++[u]) none (some (-1))=us:=by
 unfold cut;rw[HT.sIx_none];have:HT.sIx (us++[u]).length (us++[u]).length (some (-1))=us.length:=by simp[HT.sIx];lia
 rw[this];simp
inductive zft(Z:Zx):Wsp
 |mk {S Q E} {p d x y n th dn tb} (pg:Str):Hs Z S p d x y n th dn tb->pg.length<=61->dn.length<=1000000->th.length<=1000000->(z0t th (ks "peg" pg)=none->E 10 S) ->
  (∀v,z0t th (ks "peg" pg)=some v->∃ws w ls,v=pgU (ws++[w]) ls/\(ls=[]->E 13 S)/\(∀ls' l,ls=ls'++[l]->z68 Z S p d x y n th dn (ks "peg" pg) (pgU ws ls') (z3y "doff" [pg]) Q))->zft Z [.ref p,.str pg] S Q E
def z56(T:Z.Tx)(Jg:Z.m "held_by" 1 (z2S Z "peg" 10))(Ja:Z.m "keep" 8 (z5X Z))(D:Z.md "doff" "House.doff" zf0 ["self","peg"]):Z.m "doff" 9 (zft Z):=by
 refine wM ["self","peg","words","layers"] D (λf cdv A outer s H E hr nd=>z04 (z1k (z0p Jg (hr.mono (by decide)) z0g (z01 0) (z00 (z01 1) z02)) (z0F rfl (z0b (z08 2 nd) (z0b (z08 3 nd) z0u)))) (z04 (z0q (z0i (z1w (z1v hr)).1 (sBu T z0V y0j (z00 (z01 3) z02)) z06) (z03 (z0s T.x rfl z0e)) z0m) (z03 (z0d (z0p Ja (hr.mono (by decide)) z0g (z01 0) (z00 (z6z T rfl rfl) (z00 (z0f (z00 (z14 (z01 2) z48 (z45 (z5v z06))) (z00 (z14 (z01 3) z48 (z45 (z5v z06))) z02))) (z00 (z0f (z00 z0e (z00 (z01 1) z02))) z02)))))))) (λus S Q E h=>by cases h<;>rfl) ?_;rintro _ S Q E @⟨_,_,_,p,d,x,y,n,th,dn,tb,pg,hs,hp,hdn,hth,x1,q⟩;have hs0:=hs;obtain⟨h1,h2,_⟩:=hs;refine⟨_,h1,rfl,.mk pg hs0 (λv hv=>?_) x1⟩;obtain⟨ws,w,ls,rfl,x2,q⟩:=q v hv;refine⟨rfl,rfl,?_⟩;show cond (false != eqU (.int ((ls.length:Nat):Int)) (.int 0)) _ _;rw[eqI];refine z0Z (λc=>x2 ?_) (λc=>?_)
 .have:=y0m c;exact y12.mp (by lia)
 .have c:=y0w c;have hne:ls≠[]:=by rintro rfl;simp at c
  obtain⟨ls',l,rfl⟩:∃ls' l,ls=ls'++[l]:=⟨_,_,(List.dropLast_concat_getLast hne).symm⟩;refine⟨_,h1,rfl,sz2,sz2,?_⟩;rw[z87,z87];exact .mk "peg" pg _ _ _ _ hs0 (zee (by simp[z1B]) hp) (z1G hdn) (z1G hth) (q ls' l rfl)
def gR(r:Row):z8d:=(r.1,r.2.map U.int)
def zeT(rows:List Row):(rows.map gR).map uRG=rows.map uR:=by rw[y0U];rfl
def z9V(rows:List Row):(rows.map gR).map bare=rows:=by
 rw[y0U];conv=>rhs;rw[<-List.map_id rows]
 refine y20 λr _=>?_;show(r.1,(r.2.map U.int).map goN)=r;rw[y0U];show(r.1,r.2.map λi=>i)=r;rw[List.map_id']
def z7Y(rows:List Row):z3M (rows.map gR)=[]:=by unfold z3M;rw[List.flatMap_eq_nil_iff];intro r hr;obtain⟨r,_,rfl⟩:=y0f.mp hr;rw[List.filter_eq_nil_iff];intro g hg;obtain⟨i,_,rfl⟩:=y0f.mp hg;simp[zcI]
def ziq{rows:List Row}:∀r∈rows.map gR,∀g∈r.2,zig g=true:=λr hr g hg=>by obtain⟨r,_,rfl⟩:=y0f.mp hr;obtain⟨i,_,rfl⟩:=y0f.mp hg;rfl
def zir{n:Nat}{p:List Int}(h:IsP n p):∀i∈p,0<=i/\i<(n:Int):=λi hi=>by have:=(h.mem_iff).mp hi;unfold z27 at this;obtain⟨k,hk,rfl⟩:=y0f.mp this;have:=y2Y.mp hk;lia
def zkn{n:Nat}{rows:List Row}(G:z1n n rows)(hn:n<=20)(h6:rows.length<=60):zj3 (rows.map gR):=by refine⟨by rw[y01];lia,λr hr=>?_⟩;obtain⟨r,hr',rfl⟩:=y0f.mp hr;clear hr;have hr:=hr';have h1:=G.perm r hr;have h2:=h1.len;have h3:=G.len r hr;refine⟨by show r.1.length<=20;lia,λi hi=>by have:=zir h1 i hi;lia,by show(r.2.map U.int).length<=20;rw[y01];lia,λg hg=>?_⟩;obtain⟨i,hi,rfl⟩:=y0f.mp hg;have:=G.go r hr i hi;show i.natAbs<10^60;lia
def zjO{S:Sto}{nm:Str}{a:Addr}{rs:List z8d}(hn:nm.length<=61)(h:isL S a (rs.map uRG))(ho:zj3 rs):z6c S [.str "sew",.str nm,.ref a] (z3y "sew" [nm,zbg rs]):=by
 have p:z41 S (str "rows") (.ref a) (zbg rs):=.rs (.lst h) ho;refine .mk (ks:=[str "name",str "rows"]) (by simp[z1B]) (.cons (.pl (.inl rfl) hn) (.cons p .nil)) ?_;have h1:=p.len;have h0:(Str.ofString "sew").length<=20:=by decide +kernel
 simp;lia
inductive zcr(Z:Zx):Wsp
 |mk {S Q E} {p d x y th dn tb} (n:Nat) (nm:Str) (a:Addr) (rows:List Row):Hs Z S p d x y n th dn tb->nm.length<=1000000->n<=20->isL S a (rows.map uR)->rows.length<=5000->(∀r∈rows,r.1.length<=60/\r.2.length<=60)->dn.length<=1000000->th.length<=1000000 ->
  (z10 nm=false->∀S',Ex S S'->E 5 S')->(z10 nm=true->(z0t th (ks "guise" nm)).isSome=true->∀S',Ex S S'->E 8 S') ->
  (z10 nm=true->z0t th (ks "guise" nm)=none->¬z4G n rows 60->∀S',Ex S S'->E 2 S') ->
  (z10 nm=true->z0t th (ks "guise" nm)=none->z4G n rows 60->z68 Z S p d x y n th dn (ks "guise" nm) (uG (least rows)) (z3y "sew" [nm,zbg (rows.map gR)]) Q)->zcr Z [.ref p,.str nm,.ref a] S Q E
def zlK:z0N ["self","name","rows","guises"] (z07 zj8) ["called","self"] [none,some 0] (csc [(".0",.local),("called",.local),("self",.free)]):={}
def z5L(T:Z.Tx)(Jm:Z.m "check_new" 2 (zcA Z))(Jy:Z.f "check_sewing" 3 zfv)(Ju:Z.f "names_gone_to" 1 zkg)(Ja:Z.m "keep" 8 (z5X Z))(Vf:Z.f "sewn" 7 zaq)(D:Z.md "sew" "House.sew" zj8 ["self","name","rows"]):Z.m "sew" 9 (zcr Z):=by
 refine wM ["self","name","rows","guises"] D (λf cdv A outer s H E hr nd=>z04 (z0d (z0p Jm (hr.mono (by decide)) z0g (z01 0) (z00 (z6z T rfl rfl) (z00 (z01 1) z02)))) (z04 (z0d (z09 Jy (hr.mono (by decide)) z0g (z00 (sFl T (z01 0)) (z00 (z01 2) z02)))) (z04 (z9u 3 nd rfl zlK (z0E (z09 Ju (hr.mono (by decide)) z0g (z00 (z01 2) z02)) z0D)) (z03 (z0d (z0p Ja (hr.mono (by decide)) z0g (z01 0) (z00 (z6z T rfl rfl) (z00 (z09 Vf (hr.mono (by decide)) z0g (z00 (z01 2) (z00 (z01 3) z02))) (z00 (z0f (z00 z0e (z00 (z01 1) (z00 (z01 2) z02)))) z02))))))))) (λus S Q E h=>by cases h<;>rfl) ?_;rintro _ S Q E @⟨_,_,_,p,d,x,y,th,dn,tb,n,nm,a,rows,hs,hz,hn,hl,hrl,hrs,hdn,hth,x1,x2,x3,q⟩;have hs0:=hs;obtain⟨h1,h2,_⟩:=hs;refine⟨_,h1,rfl,.mk "guise" nm hs0 hz (λg1 g2 S1 e1=>?_) x1 x2⟩;have k1:=hs0.ex e1;rw[<-zeT]at hl;refine⟨_,e1 _ _ h1,opt.of rfl (.mk n a (rows.map gR) (e1.l hl) (by lia) (by rw[y01];lia) (λr hr=>?_) (λm S2 e2=>?_) λm S2 e2=>x3 g1 g2 (by rw[z9V]at m;exact m) S2 (e1.trans e2))⟩
 .refine⟨?_,?_,ziq r hr⟩<;>obtain⟨r,hr',rfl⟩:=y0f.mp hr<;>obtain⟨z1,z2⟩:=hrs r hr'
  .exact z1
  .show(r.2.map U.int).length<=60;rw[y01];exact z2
 rw[z9V]at m;have e12:=e1.trans e2;refine .mk a (rows.map gR) (e12.l hl) (by rw[z7Y];simp) ziq λl S3 e3 hl3 hS3=>?_;rw[z7Y]at hS3;have e13:=e12.trans e3;refine⟨_,.inl hS3,rfl,λdd hdd=>⟨.inl (Ex.up (.refl _) hdd _ _ hS3),?_⟩⟩;have e4:=Ex.up (o:=.dic false []) e13 (e13.no hdd);have G:=m.1;have h6:=m.2;rw[zeT]at hl;refine⟨_,e4 _ _ h1,rfl,.mk a dd rows n (e4.l hl) G (by lia) h6 λS5 e5=>⟨show 3<=sizeLine by decide,?_⟩⟩;have e5':=e4.trans e5;rw[<-zeT]at hl;exact .mk "guise" nm _ _ _ _ (hs0.ex e5') (zjO (z7V g1) (e5'.l hl) (zkn G hn h6)) (z1G hdn) (z1G hth) λS6 k6 b6=>q g1 g2 m S6 k6 (e5'.but.trans b6)
def z29{S:Sto}{a b:Addr}{o:Ob}(h:S a=some o)(h':S b=none):a≠b:=by rintro rfl;rw[h]at h';cases h'
inductive zgu(Z:Zx):Wsp
 |mk {S Q E} (p:Addr) (n:Int):S p=some (.ins Z.C [])->Md Z S->(2<=n/\n<=5->∀d x y S',S d=none/\S x=none/\S y=none->Hs Z S' p d x y n [] [] []->(∀a o,S a=some o->a≠p->S' a=some o)->Q .non S')->(¬(2<=n/\n<=5)->E 1 S)->zgu Z [.ref p,.int n] S Q E
def z2L(T:Z.Tx)(D:Z.md "__init__" "House.__init__" zf1 ["self","letters"]):Z.m "__init__" 1 (zgu Z):=by
 refine wM ["self","letters"] D (λf cdv A outer s H E hr nd=>z04 (z0q (z3i (z4K (z1g z49) (z1g z49) (zaz T rfl rfl) (z01 1) (zaz T rfl rfl))) (z03 (z0s T.x rfl z0e)) z0m) (z04 (z7Q T.cl (T.n _ (by decide)) (z01 0) (z01 1)) (z04 (z7Q T.cl (T.n _ (by decide)) (z01 0) (z6N true)) (z04 (z7Q T.cl (T.n _ (by decide)) (z01 0) (z0Y z02)) (z03 (z7Q T.cl (T.n _ (by decide)) (z01 0) (z0Y z02))))))) (λus S Q E h=>by cases h<;>rfl) ?_;rintro _ S Q E ⟨p,n,hp,M,q,bad⟩;show cond (decide ((2:Int)<=n)) _ _;refine z0Z (λc1=>?_) (λc1=>bad λz=>by have:=y0w c1;lia);show cond (!decide (n<=(5:Int))) _ _;refine z0Z (λc2=>bad λz=>by simp at c2;lia) (λc2=>?_);have c1:=y0m c1;have c2:n<=5:=by simpa using c2
 have z3:∀k,k<=10->k<1000:=λk h=>by lia
 refine⟨_,hp,z3 _ (by decide),λd hd=>?_⟩;have n1:p≠d:=z29 z05 hd;refine⟨_,(z0k n1).trans z05,z3 _ (by show 1<=10;decide),show 0<=sizeLine by decide,λx hx=>?_⟩;have n2:p≠x:=z29 z05 hx;have n3:d≠x:=z29 ((z0k n1.symm).trans z05) hx;refine⟨_,(z0k n2).trans z05,z3 _ (by show 2<=10;decide),show 0<=sizeLine by decide,λy hy=>?_⟩;have n4:p≠y:=z29 z05 hy;have n5:x≠y:=z29 ((z0k n2.symm).trans z05) hy;have n6:d≠y:=z29 ((z0k n1.symm).trans ((z0k n3).trans ((z0k n1.symm).trans z05))) hy;have hd0:S d=none:=(z0k n1.symm).symm.trans hd;have hx0:S x=none:=by simpa[up,n2.symm,n3.symm]using hx
 have hy0:S y=none:=by simpa[up,n4.symm,n5.symm,n6.symm]using hy
 have kp:∀a o,S a=some o->a≠p->(up (up (up (up (up (up (up S p (.ins Z.C [("many_letters",.int n)])) d (.dic true [])) p (.ins Z.C [("many_letters",.int n),("things",.ref d)])) x (.lst [])) p (.ins Z.C [("many_letters",.int n),("things",.ref d),("done",.ref x)])) y (.lst [])) p (.ins Z.C [("many_letters",.int n),("things",.ref d),("done",.ref x),("taken_back",.ref y)])) a=some o:=λa o h hap=>by rw[z0k hap,z0k (z29 h hy0),z0k hap,z0k (z29 h hx0),z0k hap,z0k (z29 h hd0),z0k hap];exact h
 have hm:∀a k,S a=some (.dic false k)->a≠p:=λa k h=>by rintro rfl;rw[hp]at h;cases h
 refine⟨_,(z0k n4).trans z05,z3 _ (by show 3<=10;decide),q ⟨c1,c2⟩ d x y _ ⟨hd0,hx0,hy0⟩ ⟨z05,?_,?_,?_,n5,M.any⟩ kp⟩
 .exact(z0k n1.symm).trans ((z0k n6).trans ((z0k n1.symm).trans ((z0k n3).trans ((z0k n1.symm).trans z05))))
 .exact(z0k n2.symm).trans ((z0k n5).trans ((z0k n2.symm).trans z05))
 .exact(z0k n4.symm).trans z05
def z8P(n:Nat):List Row:=[((List.range n).map λ(i:Nat)=>(i:Int),List.replicate n 0)]
inductive zb1:Wsp
 |mk {S Q E} (n:Nat):n<=1000->Q (.tup (rg 0 n)) S->zb1 [.int n] S Q E
def z3D(T:Z.Tx)(D:Z.fd "same_letters" zgo ["letters"]):Z.f "same_letters" 1 zb1:=by refine wF ["letters"] D (λf cdv A outer s H E hr nd=>z03 (z0l (ziu (T.b _ (by decide)) (T.b _ (by decide)) rfl (z01 0)))) (λus S Q E h=>by cases h<;>rfl) ?_;rintro _ S Q E ⟨n,hn,q⟩;exact⟨by lia,by lia,q⟩
inductive z4y:Wsp
 |two {S Q E}:Q (uG (z8P 2)) S->z4y [.int 2] S Q E
 |three {S Q E}:Q (uG (z8P 3)) S->z4y [.int 3] S Q E
def zdp(T:Z.Tx)(JB:Z.f "same_letters" 1 zb1)(D:Z.fd "still" zax ["letters"]):Z.f "still" 2 z4y:=by
 refine wF ["letters"] D (λf cdv A outer s H E hr nd=>z03 (z0l (z0f (z00 (z0f (z00 (z09 JB (hr.mono (by decide)) z0g (z00 (z01 0) z02)) (z00 (z0j z7j (z0f (z00 z06 z02)) (z01 0)) z02))) z02)))) (λus S Q E h=>by cases h<;>rfl) ?_;rintro _ S Q E (q|q)
 .exact .mk 2 (by decide) ⟨show 1<=sizeLine by decide,by decide,by decide,show 1*2<=sizeLine by decide,show 2<=sizeLine by decide,show 1<=sizeLine by decide,q⟩
 .exact .mk 3 (by decide) ⟨show 1<=sizeLine by decide,by decide,by decide,show 1*3<=sizeLine by decide,show 2<=sizeLine by decide,show 1<=sizeLine by decide,q⟩
inductive zaB:Wsp
 |mk {S Q E} (rows:List Row) (n:Nat) (w:List Int):z1n n rows->w.length<=1000->lw n w=false->(∀S',Ex S S'->E 3 S')->zaB [uG rows,uI' w] S Q E
def zeZ(T:Z.Tx)(Je:Z.f "check_word" 1 zdb)(Jf:Z.f "breadth" 1 sBr)(D:Z.fd "worn" zei ["guise","word"]):Z.f "worn" 2 zaB:=by refine wF ["guise","word","made","at"] D (λf cdv A outer s H E hr nd=>z04 (z0d (z09 Je (hr.mono (by decide)) z0g (z00 (z09 Jf (hr.mono (by decide)) z0g (z00 (z01 0) z02)) (z00 (z01 1) z02)))) z0I) (λus S Q E h=>by cases h<;>rfl) ?_;rintro _ S Q E ⟨rows,n,w,G,hz,hw,x⟩;refine .mk rows n G (.mk n w (by lia) λS' e=>?_);rw[hw];exact x S' e
inductive z78:Wsp
 |mk {S Q E} (g:U) (m:Int):64<m->m<=10^15->E 4 S->z78 [g,.int m] S Q E
def zbJ(T:Z.Tx)(D:Z.fd "order" z9p ["guise","most"]):Z.f "order" 1 z78:=by refine wF ["guise","most","leaves","told","count"] D (λf cdv A outer s H E hr nd=>z04 (z0q (z3i (z4K (z1g z49) (z1g z49) z06 (z01 1) (zaz T rfl rfl))) (z03 (z0s T.x rfl z0e)) z0m) z0I) (λus S Q E h=>by cases h<;>rfl) ?_;rintro _ S Q E ⟨g,m,h1,h2,x⟩;show cond (decide ((1:Int)<=m)) _ _;refine z0Z (λ_=>?_) (λc=>absurd (y0w c) (by lia));show cond (!decide (m<=64)) _ _;refine z0Z (λ_=>x) (λc=>?_);simp at c;lia
inductive zaR:Wsp
 |mk {S Q E} (n:Nat) (a:Addr) (rows:List Row):isL S a (rows.map uR)->n<=60->rows.length<=5000->(∀r∈rows,r.1.length<=60/\r.2.length<=60)->¬z4G n rows 400->(∀S',Ex S S'->E 2 S')->zaR [.int n,.ref a] S Q E
inductive zeY:Wsp
 |mk {S Q E} (n:Nat) (m:Int):2<=n->n<=5->11<=m->m<=1000000->E 11 S->zeY [.int n,.int m] S Q E
def zcY{n:Nat}(h2:2<=n):1024<n^11:=y0h (by decide) (Nat.pow_le_pow_left h2 11)
inductive zl2(n:Nat)(m:Int)(S:Sto):List U->En->Sto->Prop
 |mk (k:Nat) (L:List U) (x:Option U):n^k<=1024->k+L.length=m.toNat->(∀u∈L,∃i:Int,u=.int i)->zl2 n m S L [some (.int n),some (.int m),some (.int ((n^k:Nat):Int)),x] S
def z2I(T:Z.Tx)(D:Z.fd "words_on_floor" z4X ["letters","many"]):Z.f "words_on_floor" 1 zeY:=by
 refine wF ["letters","many","count","place"] D (λf cdv A outer s H E hr nd=>z04 (z0q (z0i (z1g z7d) (z01 1) z06) (z03 (z0s T.x rfl z0e)) z0m) (z04 (z0n 2 nd z06) (z04 (z1U y0x rfl (zbj rfl (T.b _ (by decide)) (z00 (z01 1) z02)) (z08 3 nd) (z04 (z0n 2 nd (z0j z7j (z01 2) (z01 0))) (z03 (z0q (z0i (z1g zbl) (z01 2) (zaz T rfl rfl)) (z03 (z0s T.x rfl z0e)) z0m)))) (z03 (z0l (z01 2)))))) (λus S Q E h=>by cases h<;>rfl) ?_;rintro _ S Q E ⟨n,m,h2,h5,h11,hm,x⟩;show cond (decide (m<(0:Int))) _ _;refine z0Z (λc=>absurd (y0m c) (by lia)) (λ_=>⟨by lia,by lia,z2b (zl2 n m S) (.mk 0 _ _ (by simp) (by unfold rg;simp) (λu hu=>?_)) ?_ ?_⟩)
 .unfold rg at hu;obtain⟨i,_,rfl⟩:=y0f.mp hu;exact⟨_,rfl⟩
 .rintro ρ S1 h;generalize e:([]:List U)=L at h;obtain⟨k,L,y,hk,hl,_⟩:=h;subst e;have h1:=zcY h2;have h3:=Nat.pow_le_pow_right (show 0<n by lia) (show 11<=k by simp at hl;lia);lia
 .rintro u L ρ S1 h ih;generalize e:u::L=L' at h;obtain⟨k,L',y,hk,hl,hu⟩:=h;subst e;have hp:n^(k+1)<=5120:=by rw[Nat.pow_succ];exact Nat.mul_le_mul hk h5
  have e1:((n^k:Nat):Int)*(n:Int)=((n^(k+1):Nat):Int):=by rw[Nat.pow_succ];lia
  refine⟨trivial,.inl ⟨by lia,by lia⟩,?_⟩;rw[e1];show cond (decide ((1024:Int)<((n^(k+1):Nat):Int))) _ _;refine z0Z (λ_=>x) (λc=>ih _ _ (.mk (k+1) L _ (by have:=y0w c;lia) (by rw[y0c]at hl;lia) λv hv=>hu v (by simp[hv])))
end W
namespace W
open PySem L2 PySem.SeqAt PySem.Spec
open Builtin.Str (tooLong)
variable[WW]
theorem z7o{H:Hp}:∀xs:List Str,UrL H (xs.map U.str) (xs.map V.str)
 |[]=>.nil
 |x::xs=>.cons (by simp only[Ur]) (z7o xs)
def z8h(x:U)(us:List U)(S:Sto)(Q:Kq U):Prop:=match x,us with
 |.str y,[.str z]=>1<=z.length/\y.length+2<=sizeLine/\nw (.lst ((Txt.split y z).map U.str)) S Q
 |.str y,[.str z,.int k]=>1<=z.length/\y.length+2<=sizeLine/\0<=k/\k<1000/\nw (.lst ((Txt.splitMax y z k).map U.str)) S Q
 |_,_=>False
section
variable{X:Cx}
def zbv:MtR X "str.split" (rM z8h):=by
 rintro pins s σ H v vs x xs Q' I r1 r2 ⟨hd,y,us,S,Q,r,u1,u2,c,h⟩;unfold z8h at h;split at h
 .obtain rfl:=urS u1;obtain⟨z,rfl,g⟩:=z4p u2;obtain rfl:=urS g;exact zbS pins s σ H _ _ _ _ _ I r1 r2 ⟨_,_,rfl,rfl,h.1,h.2.1,λa ha=>c.lst r (z7o _) h.2.2 ha⟩
 .obtain rfl:=urS u1;obtain⟨z,k,rfl,g,g2⟩:=ziU u2;obtain rfl:=urS g;obtain rfl:=urI g2;obtain⟨h1,h2,h3,h4,q⟩:=h;exact z7t pins s σ H _ _ _ _ _ I r1 r2 ⟨_,_,_,rfl,rfl,h1,h2,h3,h4,λa ha=>c.lst r (z7o _) q ha⟩
 .exact h.elim
def zbV(z:Str)(k:Int):Str:=if k<1 then Str.empty else if(k==1||z.length==0)=true then z else⟨(List.replicate k.toNat z.cps).foldl (·++·) #[]⟩
def zhT:WF
 |.str z,.int k,S,Q=>0<=k/\k<=1000/\z.length<=1000/\Q (.str (zbV z k)) S
 |_,_,_,_=>False
def zaO:OpR X (binaryOp .Mult) (rW zhT):=by
 rintro pins s σ H v1 v2 x1 x2 Q' I r1 r2 ⟨hd,x,y,S,Q,r,u1,u2,c,h⟩;cases x<;>cases y<;>simp only[zhT]at h;rename_i z k;obtain rfl:=urS u1;obtain rfl:=urI u2;obtain⟨h0,h1,h2,q⟩:=h;obtain⟨t,rfl⟩:=r1;obtain⟨t',rfl⟩:=r2;have hk:k.toNat<=1000:=by lia
 have hm:z.length*k.toNat<=1000*1000:=Nat.mul_le_mul h2 hk;unfold zbV at q;refine P.mul_str ?_ (λ_ _=>?_) (λ_ _=>?_) ?_
 .rw[y0v (by lia),y0v (by lia)];rfl
 .have:(2^63-1:Int)/1000<=(2^63-1)/k:=by
   refine Int.le_ediv_of_mul_le (by lia) ?_;have:(2^63-1:Int)/1000*k<=(2^63-1:Int)/1000*1000:=Int.mul_le_mul_of_nonneg_left h1 (by decide);lia
  lia
 .unfold tooLong;exact y0v (Nat.not_lt.mpr (y0e hm (by decide)))
 .by_cases c1:k<1
  .rw[if_pos c1]at q⊢;exact⟨by decide,⟨.str _,H,I.tok _,⟨_,rfl⟩,c.put r uS q⟩⟩
  .rw[if_neg c1]at q⊢;by_cases c2:(k==1||z.length==0)=true
   .rw[if_pos c2]at q⊢;exact⟨.str _,H,I.tok _,⟨_,rfl⟩,c.put r uS q⟩
   .rw[if_neg c2]at q⊢;refine⟨?_,⟨.str _,H,I.tok _,⟨_,rfl⟩,c.put r uS q⟩⟩;show((List.replicate k.toNat z.cps).foldl (·++·) #[]).size<=_;rw[z8f];exact y0e (by show 0+z.cps.size*k.toNat<=_;rw[y2A];exact hm) (by decide)
end
def gSt(gs:WX (List U)):WX U:=λu ρ S Q=>match u with
 |.ref a=>∃x xs,isL S a (x::xs)/\∀D,S D=none->gs [x,.ref D] ρ (up S D (.lst xs)) Q
 |_=>False
section
variable{X:Cx}{pos p:Pos}{e:Expr}
def z7H{es:List Expr}{g:WX U}{gs:WX (List U)}(h1:SG X e g)(h2:SGs X es gs):SGs X (.Starred e p::es) (z6O g gs) :=
 PGs.weak (zbO h1 h2) λv σ H Q' ⟨hd,u,ρ,S,Q,e,r,k,h,c⟩=>by
  unfold z6O at h;split at h
  .rename_i u ur;simp only[UrL]at k;obtain⟨v,vr,rfl,k1,k2⟩:=k;exact⟨v,vr,rfl,hd,u,ρ,S,_,e,r,k1,h,λρ1 S1 σ1 H1 kp e1 r1 q1=>⟨hd,ur,ρ1,S1,Q,e1,r1,k2.mono kp,q1,c.mono kp⟩⟩
  .exact h.elim
def za2{es:List Expr}{k:Nat}{gs:WX (List U)}(hc:X.calm=true)(h:SGs X es gs)(hn:(assignEach es X.env).length=2:=by rfl)(hst:(assignEach es X.env).findIdx? (·.1)=some 1:=by rfl):SG X (.Tuple es k pos) (gSt gs):=by rintro pins s σ H v y Q' I r1 ⟨hd,u,ρ,S,Q,e,r,k,q,c⟩;cases u<;>simp only[gSt]at q;obtain rfl:=urR k;obtain⟨x,xs,hl,q⟩:=q;obtain⟨vs,e1,l1⟩:=hl.of (K:=X.K) r;simp only[UrL]at l1;obtain⟨v,vr,rfl,k1,k2⟩:=l1;refine zf3 hc h hn hst pins s σ H _ _ _ I r1 ⟨_,v,vr,rfl,e1,λD hD=>?_⟩;have kn:Kp H (upd H D (.lst vr)):=.new hD;exact⟨hd,[x,.ref D],ρ,up S D (.lst xs),Q,e.mono kn,r.up (o:=.lst xs) (.new hD) (.inl hD) ⟨vr,z0a,k2.mono (.new hD)⟩,.cons (k1.mono kn) (.cons (by simp only[Ur]) .nil),q D (r.none hD),c.mono kn⟩
end
end W
namespace W
open PySem L2 PySem.SeqAt Gu
variable[WW]{Z:Zx}
inductive z7e:Wsp
 |mk {S Q E} (rows:List Row) (n:Nat) (m:Int):z1n n rows->2<=n->n<=5->11<=m->m<=1000000->E 11 S->z7e [uG rows,.int m] S Q E
def zda(T:Z.Tx)(Jf:Z.f "breadth" 1 sBr)(Jr:Z.f "words_on_floor" 1 zeY)(D:Z.fd "floor" za1 ["guise","many"]):Z.f "floor" 2 z7e:=by refine wF ["guise","many","letters","count"] D (λf cdv A outer s H E hr nd=>z04 (z0n 2 nd (z09 Jf (hr.mono (by decide)) z0g (z00 (z01 0) z02))) (z04 (z0n 3 nd (z09 Jr (hr.mono (by decide)) z0g (z00 (z01 2) (z00 (z01 1) z02)))) z0I)) (λus S Q E h=>by cases h<;>rfl) ?_;rintro _ S Q E ⟨rows,n,m,G,h2,h5,h11,hm,x⟩;exact .mk rows n G (.mk n m h2 h5 h11 hm x)
def zeq(T:Z.Tx)(Jb:Z.f "check_machine" 2 zbX)(D:Z.fd "form" zet ["letters","rows"]):Z.f "form" 3 zaR:=by refine wF ["letters","rows"] D (λf cdv A outer s H E hr nd=>z04 (z0d (z09 Jb (hr.mono (by decide)) z0g (z00 (z01 0) (z00 (z01 1) (z00 (zaz T rfl rfl) z02))))) z0I) (λus S Q E h=>by cases h<;>rfl) ?_;rintro _ S Q E ⟨n,a,rows,hl,hn,hr,hs,hm,x⟩;exact .mk n a rows 400 hl hn (by decide) hr hs (λz=>absurd z hm) λ_ S' e=>x S' e
inductive zaU(Z:Zx):Wsp
 |mk {S Q E} {p d x y n th tb}:Hs Z S p d x y n th [] tb->E 14 S->zaU Z [.ref p] S Q E
def z4P(T:Z.Tx)(D:Z.md "undo" "House.undo" zg0 ["self"]):Z.m "undo" 1 (zaU Z):=by refine wM ["self","change","line","key","before","after"] D (λf cdv A outer s H E hr nd=>z04 (z0q (z0i (z1w (z1v hr)).1 (sBu T z0V y0j (z00 (sFl T (z01 0)) z02)) z06) (z03 (z0s T.x rfl z0e)) z0m) z0I) (λus S Q E h=>by cases h<;>rfl) ?_;rintro _ S Q E ⟨⟨h1,h2,h3,h4,h5,_⟩,q⟩;refine⟨_,h1,opt.of rfl ⟨_,.inl h3,?_⟩⟩;first|exact⟨rfl,q⟩|exact⟨⟨rfl,by decide⟩,q⟩|exact⟨⟨rfl,rfl⟩,q⟩|exact⟨by decide,q⟩
def z3K(T:Z.Tx)(Jg:Z.m "held_by" 1 (z2S Z "peg" 10))(Ja:Z.m "keep" 8 (z5X Z))(D:Z.md "unhang" "House.unhang" z7w ["self","peg"]):Z.m "unhang" 9 (sGo Z "peg" "unhang" 10):=by
 refine wM ["self","peg"] D (λf cdv A outer s H E hr nd=>z04 (z0d (z0p Jg (hr.mono (by decide)) z0g (z01 0) (z00 (z01 1) z02))) (z03 (z0d (z0p Ja (hr.mono (by decide)) z0g (z01 0) (z00 (z6z T rfl rfl) (z00 z4m (z00 (z0f (z00 z0e (z00 (z01 1) z02))) z02))))))) (λus S Q E h=>by cases h<;>rfl) ?_;rintro _ S Q E @⟨_,_,_,p,d,x,y,n,th,dn,tb,nm,hs,hn,hz,q1,q2⟩;have hs0:=hs;obtain⟨h1,h2,_⟩:=hs;refine⟨_,h1,rfl,.mk nm hs0 (λv hv=>⟨_,h1,rfl,sz2,?_⟩) q1⟩;have hv':(z0t th (ks "peg" nm)).isSome=true:=by rw[hv];rfl
 exact .mk "peg" nm _ .non [] _ hs0 (zee (by simp[z1B]) hn) (z1G hz) hv' (q2 hv')
end W
namespace W
open PySem L2 PySem.SeqAt PySem.Spec Gu
variable[WW]{Z:Zx}
inductive zf9:Wsp
 |mk {S Q E} (x:Str):x.length<=100000->(∀S',Ex S S'->Q (.bl (z8V x)) S')->zf9 [.str x] S Q E
def zkN:z0N ["text"] (z07 z5l) ["sign"] [none] (csc [(".0",.local),("sign",.local),("FIGURES",.globalImplicit)]):={}
def z4a(T:Z.Tx)(D:Z.fd "are_figures" z5l ["text"]):Z.f "are_figures" 1 zf9:=by
 refine wF ["text"] D (λf cdv A outer s H E hr nd=>z03 (z0l (z6p (z2O (z1g zbl) (sBu T z0V y0j (z00 (z01 0) z02)) z06) (z5U (sBu T (zh5 rfl) PyProof.Rows.boot_all (z00 (z0C ⟨zkN,rfl,λ_ _ _ _ _=>⟨(z08 0 zkN.nd),.nil,(z1x rfl (z2O zgK (z01 0) (z6z T rfl rfl)))⟩,λg' e=>by cases e⟩ (z0E (z01 0) z0D)) z02)))))) (λus S Q E h=>by cases h<;>rfl) ?_;rintro _ S Q E ⟨x,hx,q⟩;have hz:x.length<=sizeLine:=y0e hx (by decide);unfold z8V at q;refine⟨hz,?_⟩;show cond (decide ((0:Int)<(x.length:Int))) _ _;refine z0Z (λc1=>?_) (λc1=>?_)
 .have c1:=y0m c1;refine z1f (sg x) (λc=>U.str ⟨#[c]⟩) (λc=>U.bl (decide (48<=c/\c<=57))) (λρ=>∃u,ρ=[u]) ⟨_,rfl⟩ (by rw[z0T];lia) (λ_ _=>trivial) ?_ ?_
  .rintro c _ ρ S' ⟨u,rfl⟩ e Qf qf;have w:=qf [some (.str ⟨#[c]⟩)] S' ⟨_,rfl⟩ (.refl _);rw[<-zej]at w;exact w
  .rintro ρ S' ⟨u,rfl⟩ e l hl;refine⟨(sg x).map λc=>decide (48<=c/\c<=57),.inl (by rw[z05,y0U];rfl),?_⟩;simp only[y1x (show 0<x.length by lia),Bool.true_and]at q;rw[List.all_map];exact q _ (Ex.up e (e.no hl))
 .have c1:=y0w c1;have w:=q S (.refl S);rw[y0v (show ¬(0<x.length)by lia),y2Z]at w;exact w
inductive zkp:Wsp
 |mk {S Q E} (x:Str):x.length<=1000000->(z10 x=true->∀S',Ex S S'->Q (.str x) S')->(z10 x=false->∀S',Ex S S'->E 6 S')->zkp [.str x] S Q E
def z5y(T:Z.Tx)(Js:Z.f "is_name" 1 zdu)(D:Z.fd "read_name" z6J ["text"]):Z.f "read_name" 2 zkp:=by
 refine wF ["text"] D (λf cdv A outer s H E hr nd=>z04 (z0q (z3i (z1K (z09 Js (hr.mono (by decide)) z0g (z00 (z01 0) z02)))) (z03 (z0s T.x rfl z0e)) z0m) (z03 (z0l (z01 0)))) (λus S Q E h=>by cases h<;>rfl) ?_;rintro _ S Q E ⟨x,hx,q1,q2⟩;refine .mk x hx λS' e=>?_;show cond (Bool.not (z10 x)) _ _;cases h:z10 x
 .exact q2 h S' e
 .exact q1 h S' e
end W
namespace W
open PySem L2 PySem.SeqAt PySem.Spec
variable[WW]{Z:Zx}
def zko(x:U)(us:List U)(S:Sto)(Q:Kq U):Prop:=match x,us with
 |.str y,[.str z]=>Q (.bl (Txt.startswith y z)) S
 |_,_=>False
def zgD(us:List U)(S:Sto)(Q:Kq U):Prop:=match us with
 |[.str x]=>∃n,intText? x=some n/\x.length<=640/\Q (.int n) S
 |_=>False
section
variable{X:Cx}
def zgR:z0G X (.type "int") (rC zgD):=by
 rintro pins s σ H vs xs Q' I r1 ⟨hd,us,S,Q,r,u,c,h⟩;unfold zgD at h;split at h
 .obtain⟨v,rfl,g⟩:=z4p u;obtain⟨n,h1,h2,q⟩:=h;exact z4D pins s σ H _ _ _ I r1 ⟨_,_,by rw[urS g],h1,h2,c.put r uI q⟩
 .exact h.elim
def zhb(K:yyF)(us:List U)(S:Sto)(Q:Kq U):Prop:=match us with
 |[.ref t]=>∃xs:List Str,zdF K t xs=true/\xs.length<=1000/\Q (.int xs.length) S
 |_=>False
def ze8(hK:X.K=Z.K:=by rfl):z0G X (.builtin "len") (rC (zhb Z.K)):=by
 rw[<-hK];rintro pins s σ H vs xs Q' I r1 ⟨hd,us,S,Q,r,u,c,h⟩;unfold zhb at h;split at h
 .obtain⟨v,rfl,g⟩:=z4p u;obtain rfl:=urR g;obtain⟨ys,h1,h2,q⟩:=h;exact z1X pins s σ H _ _ _ I r1 ⟨_,_,rfl,.inr (z6E h1 h2 H),by rw[y01];exact c.put r uI q⟩
 .exact h.elim
end
section
variable{xa:Nat->Addr}{X:Cx}{xk:St->XK}{o e e2:Expr}{t:WE}{ts:WA}{apos cpos:Pos}
def zea(ho:SE xa X xk o t)(ha:SA xa X xk [e] ts)(hbase:attributeBase o "split" X.env (eval o X.env)=eval o X.env:=by rfl)(hfew:((backTo cpos (starEach [e] X.env)).all (λx=>!x.1)&&(backToKw cpos (keywordEach [] X.env)).all (λx=>x.1.isSome)&&decide ([e].length+([]:List Keyword).length+(if([]:List Keyword).isEmpty then 0 else 1)<30))=true:=by rfl)(hline:(apos.endLine==cpos.line)=true:=by rfl)(hs:starEach [e] X.env=(false,eval e X.env)::starEach [] X.env:=by rfl)(hplain:(backTo cpos (starEach [] X.env)).any (·.1)=false:=by rfl):SE xa X xk (.Call (.Attribute o "split" apos) [e] [] cpos) (wBM tyT z8h t ts) :=
 z6t y2T PySem.F.slot_str_split PySem.F.type_str_split zbv (λ_ _ _ _ _=>zgm) ho ha hbase hfew hline hs hplain
def zfY(ho:SE xa X xk o t)(ha:SA xa X xk [e,e2] ts)(hbase:attributeBase o "split" X.env (eval o X.env)=eval o X.env:=by rfl)(hfew:((backTo cpos (starEach [e,e2] X.env)).all (λx=>!x.1)&&(backToKw cpos (keywordEach [] X.env)).all (λx=>x.1.isSome)&&decide ([e,e2].length+([]:List Keyword).length+(if([]:List Keyword).isEmpty then 0 else 1)<30))=true:=by rfl)(hline:(apos.endLine==cpos.line)=true:=by rfl)(hs:starEach [e,e2] X.env=(false,eval e X.env)::starEach [e2] X.env:=by rfl)(hplain:(backTo cpos (starEach [e2] X.env)).any (·.1)=false:=by rfl):SE xa X xk (.Call (.Attribute o "split" apos) [e,e2] [] cpos) (wBM tyT z8h t ts) :=
 z6t y2T PySem.F.slot_str_split PySem.F.type_str_split zbv (λ_ _ _ _ _=>zgm) ho ha hbase hfew hline hs hplain
end
end W
namespace W
open PySem L2 PySem.SeqAt PySem.Spec Gu
variable[WW]{Z:Zx}
inductive zeP:Wsp
 |mk {S Q E} (x y:Str) (ys:List Str):x.length<=1000000->Txt.split x " "=y::ys->(∀S',Ex S S'->Q (.str y) S')->zeP [.str x] S Q E
def z3V(T:Z.Tx)(D:Z.fd "head_of_line" z9U ["line"]):Z.f "head_of_line" 1 zeP:=by
 refine wF ["line"] D (λf cdv A outer s H E hr nd=>z03 (z0l (z0L z2T (zea (z01 0) (z00 z0e z02)) z06))) (λus S Q E h=>by cases h<;>rfl) ?_;rintro _ S Q E ⟨x,y,ys,hx,e,q⟩;have hz:x.length+2<=sizeLine:=y0e (y3c hx 2) (by decide);have k:nw (.lst ((Txt.split x " ").map U.str)) S (λu S1=>fIx u (.int 0) S1 Q):=λD hD =>
  ⟨_,.inl z05,by rw[e];exact opt.of at0 (q _ (Ex.up (.refl S) hD))⟩
 exact⟨trivial,by decide,hz,k⟩
inductive zj9:Wsp
 |mk {S Q E} (x:Str):x.length<=600->z8V x=true->(∀S',Ex S S'->Q (.tup ((sg x).map λc:Nat=>U.int ((c:Int)-48))) S')->zj9 [.str x] S Q E
def zlh:z0N ["text"] (z07 z8o) ["sign"] [none] (csc [(".0",.local),("sign",.local),("int",.globalImplicit)]):={}
def z3F(T:Z.Tx)(JJ:Z.f "are_figures" 1 zf9)(D:Z.fd "read_figures" z8o ["text"]):Z.f "read_figures" 2 zj9:=by
 refine wF ["text"] D (λf cdv A outer s H E hr nd=>z04 (z0q (z3i (z1K (z09 JJ (hr.mono (by decide)) z0g (z00 (z01 0) z02)))) (z03 (z0s T.x rfl z0e)) z0m) (z03 (z0l (sTy T z1F y0G (z00 (z0C ⟨zlh,rfl,λ_ _ _ _ _=>⟨(z08 0 zlh.nd),.nil,(z1x rfl (sTy T zgR y33 (z00 (z01 0) z02)))⟩,λg' e=>by cases e⟩ (z0E (z01 0) z0D)) z02))))) (λus S Q E h=>by cases h<;>rfl) ?_;rintro _ S Q E ⟨x,hx,hf,q⟩;refine .mk x (by lia) λS' e=>?_;rw[hf];have hf':decide (0<x.length)&&(sg x).all (λc=>decide (48<=c/\c<=57)):=hf;simp only[y0b,y0u,y1A]at hf';refine z1f (sg x) (λc=>U.str ⟨#[c]⟩) (λc:Nat=>U.int ((c:Int)-48)) (λρ=>∃u,ρ=[u]) ⟨_,rfl⟩ (by rw[z0T];lia) (λ_ _=>trivial) ?_ ?_
 .rintro c hc ρ S' ⟨u,rfl⟩ e Qf qf;have g:=hf'.2 c hc;have w:=zcf (i:=(c:Int)-48) (by lia) (by lia);rw[show 48+((c:Int)-48).toNat=c by lia]at w;exact⟨_,w,by show 1<=640;decide,qf [some (.str ⟨#[c]⟩)] S' ⟨_,rfl⟩ (.refl _)⟩
 .rintro ρ S1 ⟨u,rfl⟩ e1 l hl;exact⟨_,.inl z05,q _ (e.trans (Ex.up e1 (e1.no hl)))⟩
inductive ziW:Wsp
 |none {S Q E}:Q (.tup []) S->ziW [.str "-"] S Q E
 |figs {S Q E} (x:Str):x.length<=600->z8V x=true->(∀S',Ex S S'->Q (.tup ((sg x).map λc:Nat=>U.int ((c:Int)-48))) S')->ziW [.str x] S Q E
def z65(T:Z.Tx)(Jp:Z.f "read_figures" 2 zj9)(D:Z.fd "read_word" z6S ["text"]):Z.f "read_word" 3 ziW:=by
 refine wF ["text"] D (λf cdv A outer s H E hr nd=>z03 (z0l (za8 (z0i (z1w (z1v hr)).1 (z01 0) (z6z T rfl rfl)) (z0f z02) (z09 Jp (hr.mono (by decide)) z0g (z00 (z01 0) z02))))) (λus S Q E h=>by cases h<;>rfl) ?_;intro us S Q E h;cases h with
 |none q =>
  refine⟨rfl,?_⟩;have k:eqU (.str "-") (.str "-")=true:=by simp[eqU]
  revert k;generalize eqU (.str "-") (.str "-")=b;rintro rfl;show _/\_;exact⟨by decide,q⟩
 |figs x hx hf q =>
  have hn:eqU (.str x) (.str "-")=false:=by
   cases c:eqU (.str x) (.str "-")
   .rfl
   .have:x="-":=by simpa[eqU]using c
    subst this;exact absurd hf (by decide)
  refine⟨rfl,?_⟩;show cond (false != eqU (.str x) (.str "-")) _ _;rw[hn];exact .mk x hx hf q
noncomputable def rdT:List (Str × Str):=[("name","read_name"),("number","read_number"),("word","read_word"),("ring","read_figures"),("rows","read_rows")]
structure MdR(Z:Zx):Prop where
 dr:z1N Z.K (Z.da "READERS")=true
 rq:∀p∈rdT,PySem.W.nsIn Z.K (Z.da "READERS") p.1=some (some (.ref (Z.fa p.2)))
inductive zia(Z:Zx):Addr->Wsp->Prop
 |nm:zia Z (Z.fa "read_name") zkp
 |wd:zia Z (Z.fa "read_word") ziW
 |rg:zia Z (Z.fa "read_figures") zj9
inductive RdR:Str->Str->Option U->Prop
 |nm {y}:y.length<=600->z10 y=true->RdR "name" y (some (.str y))
 |bad {y}:y.length<=600->z10 y=false->RdR "name" y none
 |wd0:RdR "word" "-" (some (.tup []))
 |wd {y}:y.length<=600->z8V y=true->RdR "word" y (some (.tup ((sg y).map λc:Nat=>U.int ((c:Int)-48))))
 |rg {y}:y.length<=600->z8V y=true->RdR "ring" y (some (.tup ((sg y).map λc:Nat=>U.int ((c:Int)-48))))
inductive zcH:List Str->List Str->Option (List U)->Prop
 |nil:zcH [] [] (some [])
 |bad {k y ks ys}:RdR k y none->ks.length=ys.length->zcH (k::ks) (y::ys) none
 |cons {k y u ks ys r}:RdR k y (some u)->zcH ks ys r->zcH (k::ks) (y::ys) (r.map (u::·))
def zcH.len{ks ys:List Str}{r:Option (List U)}(h:zcH ks ys r):ks.length=ys.length:=by
 induction h with
 |nil=>rfl
 |bad _ e=>simp[e]
 |cons _ _ ih=>simp[ih]
inductive zlf(S:Sto)(x:Str)(t:Addr)(hd:Str)(pp rp:Addr)(L0:List U)(fin:Option (List U)):List U->En->Sto->Prop
 |mk {S1} (ks ys:List Str) (us:List U) (r:Option (List U)) (k y z:Option U):zcH ks ys r->fin=r.map (us++·)->Ex S S1->isL S1 pp L0->S1 rp=some (.lst (.str hd::us))->us.length+ks.length<=5 ->
  zlf S x t hd pp rp L0 fin (prs (ks.map U.str) (ys.map U.str)) [some (.str x),some (.ref t),some (.str hd),some (.ref pp),some (.ref rp),k,y,z] S1
inductive zjM(Z:Zx):Wsp
 |mk {S Q E} (x:Str) (t:Addr) (ks ys:List Str) (hd:Str) (fin:Option (List U)):MdR Z->zdF Z.K t ks=true->ks.length<=5->x.length<=100000->Txt.splitMax x " " (if(ks.length:Int)>1 then(ks.length:Int)else 1)=hd::ys->zcH ks ys fin ->
  (∀us,fin=some us->∀S',Ex S S'->Q (.tup (.str hd::us)) S')->(fin=none->∀S',Ex S S'->E 6 S')->zjM Z [.str x,.ref t] S Q E
def z4A(T:Z.Tx)(hT:Tab Z 3 (zia Z))(D:Z.fd "read_parts" z4O ["line","kinds"]):Z.f "read_parts" 4 (zjM Z):=by
 refine wF ["line","kinds","head","parts","read","kind","part","reader"] D (λf cdv A outer s H E hr nd=>z04 (z1k (zfY (z01 0) (z00 z0e (z00 (sBu T (zfU rfl) y32 (z00 z06 (z00 (sBu T (ze8 (Z:=Z)) y0j (z00 (z01 1) z02)) z02))) z02))) (za2 rfl (z0b (z08 2 nd) (z7H (z08 3 nd) z0u)))) (z04 (z0q (z0i (z1w (z1v hr)).2 (sBu T z0V y0j (z00 (z01 3) z02)) (sBu T (ze8 (Z:=Z)) y0j (z00 (z01 1) z02))) (z03 (z0s T.x rfl z0e)) z0m) (z04 (z0n 4 nd (z0Y (z00 (z01 2) z02))) (z04 (z1U y0x rfl (zbQ T (T.b _ (by decide)) (z00 (z01 1) (z00 (z01 3) z02))) (z0F rfl (z0b (z08 5 nd) (z0b (z08 6 nd) z0u))) (z04 (z0n 7 nd (zcq T (zi8 T) (z01 5))) (z03 (z0d (zik (z01 4) (z00 (z8b 7 hT (hr.mono (by decide)) (z2x λ_ _ _ z=>z) (z00 (z01 6) z02)) z02)))))) (z03 (z0l (sTy T z1F y0G (z00 (z01 4) z02)))))))) (λus S Q E h=>by cases h<;>rfl) ?_;rintro _ S Q E ⟨x,t,ks,ys,hd,fin,M,ht,h5,hx,hsp,hr,q1,q2⟩;have hl:=hr.len;have hz:x.length+2<=sizeLine:=y0e (y3c hx 2) (by decide);refine⟨trivial,ks,ht,by lia,show 1<=_ by decide,hz,by split<;>lia,by split<;>lia,λp0 hp0=>⟨.str hd,ys.map .str,.inl (by rw[z05,hsp];rfl),λpp hpp=>?_⟩⟩;refine⟨_,.inl z05,ks,ht,by lia,rfl,?_⟩;have k:(true != eqU (.int ((ys.map U.str).length:Int)) (.int (ks.length:Int)))=false:=by simp[eqU,hl]
 show cond (true != eqU (.int ((ys.map U.str).length:Int)) (.int (ks.length:Int))) _ _;rw[k];refine⟨show 1<=sizeLine by decide,λrp hrp=>?_⟩;have e0:=Ex.up (o:=.lst ((Txt.splitMax x " " (if(ks.length:Int)>1 then(ks.length:Int)else 1)).map .str)) (.refl S) hp0;have e1:=Ex.up (o:=.lst (ys.map U.str)) e0 (e0.no hpp);have hrS:=e1.no hrp;have e2:=Ex.up (o:=.lst [.str hd]) e1 hrS;have e3:=Ex.up (o:=.lst [.str hd]) (.refl _) hrp;have hne:pp≠rp:=by rintro rfl;rw[z05]at hrp;cases hrp
 refine⟨_,_,_,_,.txt ht (by lia),.lst (.inl (e3 _ _ z05)),by simp[hl],?_⟩;refine z2b (zlf S x t hd pp rp (ys.map U.str) fin) (.mk ks ys [] fin _ _ _ hr (by simp) e2 (.inl (e3 _ _ z05)) z05 (by simp;lia)) ?_ ?_
 .rintro ρ S1 h;generalize e:([]:List U)=L at h;obtain⟨ks',ys',us,r,k1,y1,z1,hp',hx',ee,hpl,hrl,_⟩:=h;cases hp' with
  |nil=>exact⟨⟨trivial,hpl⟩,_,.inl hrl,q1 us (by simp[hx']) S1 ee⟩
  |bad=>cases e
  |cons=>cases e
 .rintro g L ρ S1 h ih;generalize e:g::L=L' at h;obtain⟨ks',ys',us,r,k1,y1,z1,hp',hx',ee,hpl,hrl,h5'⟩:=h;cases hp' with
  |nil=>cases e
  |bad a b =>
   cases e;cases a with
   |bad h1 h2=>exact⟨⟨trivial,hpl⟩,rfl,_,_,_,rfl,rfl,M.dr,M.rq ("name","read_name") (by simp[rdT]),⟨_,.inl hrl⟩,_,_,rfl,.nm,.mk _ (by lia) (λh=>absurd (h2.symm.trans h) (by decide)) (λ_ S2 e2=>q2 hx' S2 (ee.trans e2))⟩
  |@cons k y u ks0 ys0 r0 a b =>
   cases e;have fin':∀(z:U) S2,Ex S1 S2->∃vs,S2 rp=some (.lst vs)/\vs.length<sizeLine/\frL (λS=>True/\isL S pp (ys.map U.str)) _ _ (prs (ks0.map U.str) (ys0.map U.str)) _ (up S2 rp (.lst (vs++[u]))) _ _:=λz S2 e2 =>
    ⟨_,e2 _ _ hrl,by simp at h5'⊢;exact y0J (show us.length+1<=6 by lia) (by decide),ih _ _ (.mk ks0 ys0 (us++[u]) r0 (some (.str k)) (some (.str y)) (some z) b (by rw[hx'];cases r0<;>simp) (Ex.up (ee.trans e2) hrS) (by rcases hpl with h|h;exact .inl ((show up S2 rp _ pp=S2 pp from if_neg hne).trans (e2 _ _ h));exact .inr ((show up S2 rp _ pp=S2 pp from if_neg hne).trans (e2 _ _ h))) (by rw[z05];simp) (by simp at h5'⊢;lia))⟩
   cases a with
   |nm h1 h2=>exact⟨⟨trivial,hpl⟩,rfl,_,_,_,rfl,rfl,M.dr,M.rq ("name","read_name") (by simp[rdT]),⟨_,.inl hrl⟩,_,_,rfl,.nm,.mk _ (by lia) (λ_ S2 e2=>fin' _ S2 e2) (λh=>absurd (h2.symm.trans h) (by decide))⟩
   |wd0=>exact⟨⟨trivial,hpl⟩,rfl,_,_,_,rfl,rfl,M.dr,M.rq ("word","read_word") (by simp[rdT]),⟨_,.inl hrl⟩,_,_,rfl,.wd,.none (fin' _ S1 (.refl _))⟩
   |wd h1 h2=>exact⟨⟨trivial,hpl⟩,rfl,_,_,_,rfl,rfl,M.dr,M.rq ("word","read_word") (by simp[rdT]),⟨_,.inl hrl⟩,_,_,rfl,.wd,.figs _ h1 h2 (fin' _)⟩
   |rg h1 h2=>exact⟨⟨trivial,hpl⟩,rfl,_,_,_,rfl,rfl,M.dr,M.rq ("ring","read_figures") (by simp[rdT]),⟨_,.inl hrl⟩,_,_,rfl,.rg,.mk _ h1 h2 (fin' _)⟩
end W
namespace W
open PySem L2 PySem.SeqAt PySem.Spec
variable[WW]{Z:Zx}
def zfj(K:yyF):WF:=λx y S Q=>∃z a r,x=.str z/\y=.ref a/\z1N K a=true/\PySem.W.nsIn K a z=some r/\Q (.bl (!r.isSome)) S
def zd6{X:Cx}(hK:X.K=Z.K:=by rfl):OpR X (compareOp .NotIn) (rW (zfj Z.K)):=by rw[<-hK];rintro pins s σ H v1 v2 x1 x2 Q' I r1 r2 ⟨hd,x,y,S,Q,r,u1,u2,c,z,a,n,rfl,rfl,hdm,hn,q⟩;obtain rfl:=urS u1;obtain rfl:=urR u2;cases(show x2=Value.ref a from r2);obtain⟨t,rfl⟩:=r1;exact zew hdm I.inK hn ⟨.bl _,H,I.tok _,rfl,c.put r uB q⟩
end W
namespace W
open PySem L2 PySem.SeqAt PySem.Spec Gu
variable[WW]{Z:Zx}
inductive z2G(Z:Zx)(x:Str):Option (List U)->Prop
 |no {y ys}:Txt.split x " "=y::ys->PySem.W.nsIn Z.K (Z.da "DEEDS") y=some none->z2G Z x none
 |mk {name ys zs ks fin}:Txt.split x " "=name::ys->(name,ks)∈z1B->Txt.splitMax x " " (if(ks.length:Int)>1 then(ks.length:Int)else 1)=name::zs->zcH ks zs fin->z2G Z x (fin.map (.str name::·))
inductive zj6(Z:Zx):Wsp
 |mk {S Q E} (x:Str) (r:Option (List U)):MdR Z->Md Z S->x.length<=100000->z2G Z x r->(∀us,r=some us->∀S',Ex S S'->Q (.tup us) S')->(r=none->∀S',Ex S S'->E 6 S')->zj6 Z [.str x] S Q E
def z5O(T:Z.Tx)(JA:Z.f "head_of_line" 1 zeP)(JQ:Z.f "read_parts" 4 (zjM Z))(D:Z.fd "read_line" z6R ["line"]):Z.f "read_line" 5 (zj6 Z):=by
 refine wF ["line","name"] D (λf cdv A outer s H E hr nd=>z04 (z0n 1 nd (z09 JA (hr.mono (by decide)) z0g (z00 (z01 0) z02))) (z04 (z0q (z0i (zd6 (Z:=Z)) (z01 1) (zi8 T)) (z03 (z0s T.x rfl z0e)) z0m) (z03 (z0l (z09 JQ (hr.mono (by decide)) z0g (z00 (z01 0) (z00 (zcq T (zi8 T) (z01 1)) z02))))))) (λus S Q E h=>by cases h<;>rfl) ?_;rintro _ S Q E ⟨x,r,M,D,hx,hr,q1,q2⟩;cases hr with
 |no h1 h2 =>
  refine .mk x _ _ (by lia) h1 λS' e=>?_;refine⟨_,_,_,rfl,rfl,D.dd,h2,?_⟩;exact q2 rfl S' e
 |mk h1 h2 h3 h4 =>
  rename_i name ys zs ks fin;refine .mk x _ _ (by lia) h1 λS' e=>?_;obtain⟨t,g1,g2⟩:=D.dq _ h2;have hk5:ks.length<=5:=by
   have:∀p∈z1B,p.2.length<=5:=by decide +kernel
   exact this _ h2
  refine⟨_,_,_,rfl,rfl,D.dd,g1,?_⟩;refine⟨_,_,t,rfl,rfl,D.dd,g1,.mk x t ks zs name fin M g2 hk5 hx h3 h4 (λus h S2 e2=>q1 _ (by rw[h];rfl) S2 (e.trans e2)) (λh S2 e2=>q2 (by rw[h];rfl) S2 (e.trans e2))⟩
def eqS{a b:Str}:eqU (.str a) (.str b)=(a==b):=by simp[eqU]
inductive zgs(Z:Zx):Wsp
 |drop {S Q E} (p:Addr) (nm:Str):sGo Z "guise" "drop" 9 [.ref p,.str nm] S (λ_ S'=>Q .non S') E->zgs Z [.ref p,.tup [.str "drop",.str nm]] S Q E
 |unhang {S Q E} (p:Addr) (nm:Str):sGo Z "peg" "unhang" 10 [.ref p,.str nm] S (λ_ S'=>Q .non S') E->zgs Z [.ref p,.tup [.str "unhang",.str nm]] S Q E
 |hang {S Q E} (p:Addr) (nm u v:U):z5G Z [.ref p,nm,u,v] S (λ_ S'=>Q .non S') E->zgs Z [.ref p,.tup [.str "hang",nm,u,v]] S Q E
 |wear {S Q E} (p:Addr) (a b:U):z9F Z [.ref p,a,b] S (λ_ S'=>Q .non S') E->zgs Z [.ref p,.tup [.str "wear",a,b]] S Q E
def z94(T:Z.Tx)(JZ:Z.m "drop" 9 (sGo Z "guise" "drop" 9))(Jl:Z.m "hang" 9 (z5G Z))(JV:Z.m "wear" 9 (z9F Z))(JF:Z.m "unhang" 9 (sGo Z "peg" "unhang" 10))(D:Z.fd "do_deed" z6D ["house","deed"]):Z.f "do_deed" 10 (zgs Z):=by
 refine wF ["house","deed","name"] D (λf cdv A outer s H E hr nd=>z04 (z0n 2 nd (z0L z2T (z01 1) z06)) (z03 (z0q (z0i (z1w (z1v hr)).1 (z01 2) z0e) z0I (z03 (z0q (z0i (z1w (z1v hr)).1 (z01 2) z0e) z0I (z03 (z0q (z0i (z1w (z1v hr)).1 (z01 2) z0e) z0I (z03 (z0q (z0i (z1w (z1v hr)).1 (z01 2) z0e) z0I (z03 (z0q (z0i (z1w (z1v hr)).1 (z01 2) z0e) z0I (z03 (z0q (z0i (z1w (z1v hr)).1 (z01 2) z0e) (z03 (z0d (z0p JZ (hr.mono (by decide)) z0g (z01 0) (z00 (z0L z2T (z01 1) z06) z02)))) (z03 (z0q (z0i (z1w (z1v hr)).1 (z01 2) z0e) (z03 (z0d (z0p Jl (hr.mono (by decide)) z0g (z01 0) (z00 (z0L z2T (z01 1) z06) (z00 (z0L z2T (z01 1) z06) (z00 (z0L z2T (z01 1) z06) z02)))))) (z03 (z0q (z0i (z1w (z1v hr)).1 (z01 2) z0e) (z03 (z0d (z0p JV (hr.mono (by decide)) z0g (z01 0) (z00 (z0L z2T (z01 1) z06) (z00 (z0L z2T (z01 1) z06) z02))))) (z03 (z0q (z0i (z1w (z1v hr)).1 (z01 2) z0e) z0I (z03 (z0q (z0i (z1w (z1v hr)).1 (z01 2) z0e) (z03 (z0d (z0p JF (hr.mono (by decide)) z0g (z01 0) (z00 (z0L z2T (z01 1) z06) z02)))) z0m))))))))))))))))))))) (λus S Q E h=>by cases h<;>rfl) ?_;rintro _ S Q E h;cases h with
 |drop p nm h =>
  refine⟨rfl,?_⟩;rw[eqS,show(("drop":Str)==("sew":Str))=false by decide +kernel];refine⟨rfl,?_⟩;rw[eqS,show(("drop":Str)==("join":Str))=false by decide +kernel];refine⟨rfl,?_⟩;rw[eqS,show(("drop":Str)==("turn":Str))=false by decide +kernel];refine⟨rfl,?_⟩;rw[eqS,show(("drop":Str)==("look":Str))=false by decide +kernel];refine⟨rfl,?_⟩;rw[eqS,show(("drop":Str)==("power":Str))=false by decide +kernel];refine⟨rfl,?_⟩;rw[eqS,show(("drop":Str)==("drop":Str))=true by decide +kernel];cases h with
  |mk _ hs a b c d=>exact⟨_,hs.1,rfl,.mk nm hs a b c d⟩
 |unhang p nm h =>
  refine⟨rfl,?_⟩;rw[eqS,show(("unhang":Str)==("sew":Str))=false by decide +kernel];refine⟨rfl,?_⟩;rw[eqS,show(("unhang":Str)==("join":Str))=false by decide +kernel];refine⟨rfl,?_⟩;rw[eqS,show(("unhang":Str)==("turn":Str))=false by decide +kernel];refine⟨rfl,?_⟩;rw[eqS,show(("unhang":Str)==("look":Str))=false by decide +kernel];refine⟨rfl,?_⟩;rw[eqS,show(("unhang":Str)==("power":Str))=false by decide +kernel];refine⟨rfl,?_⟩;rw[eqS,show(("unhang":Str)==("drop":Str))=false by decide +kernel];refine⟨rfl,?_⟩;rw[eqS,show(("unhang":Str)==("hang":Str))=false by decide +kernel];refine⟨rfl,?_⟩;rw[eqS,show(("unhang":Str)==("wear":Str))=false by decide +kernel];refine⟨rfl,?_⟩;rw[eqS,show(("unhang":Str)==("doff":Str))=false by decide +kernel];refine⟨rfl,?_⟩;rw[eqS,show(("unhang":Str)==("unhang":Str))=true by decide +kernel];cases h with
  |mk _ hs a b c d=>exact⟨_,hs.1,rfl,.mk nm hs a b c d⟩
 |hang p nm u v h =>
  refine⟨rfl,?_⟩;rw[eqS,show(("hang":Str)==("sew":Str))=false by decide +kernel];refine⟨rfl,?_⟩;rw[eqS,show(("hang":Str)==("join":Str))=false by decide +kernel];refine⟨rfl,?_⟩;rw[eqS,show(("hang":Str)==("turn":Str))=false by decide +kernel];refine⟨rfl,?_⟩;rw[eqS,show(("hang":Str)==("look":Str))=false by decide +kernel];refine⟨rfl,?_⟩;rw[eqS,show(("hang":Str)==("power":Str))=false by decide +kernel];refine⟨rfl,?_⟩;rw[eqS,show(("hang":Str)==("drop":Str))=false by decide +kernel];refine⟨rfl,?_⟩;rw[eqS,show(("hang":Str)==("hang":Str))=true by decide +kernel];have h0:=h;cases h with
  |mk nm b r hs=>exact⟨_,hs.1,rfl,h0⟩
 |wear p a b h =>
  refine⟨rfl,?_⟩;rw[eqS,show(("wear":Str)==("sew":Str))=false by decide +kernel];refine⟨rfl,?_⟩;rw[eqS,show(("wear":Str)==("join":Str))=false by decide +kernel];refine⟨rfl,?_⟩;rw[eqS,show(("wear":Str)==("turn":Str))=false by decide +kernel];refine⟨rfl,?_⟩;rw[eqS,show(("wear":Str)==("look":Str))=false by decide +kernel];refine⟨rfl,?_⟩;rw[eqS,show(("wear":Str)==("power":Str))=false by decide +kernel];refine⟨rfl,?_⟩;rw[eqS,show(("wear":Str)==("drop":Str))=false by decide +kernel];refine⟨rfl,?_⟩;rw[eqS,show(("wear":Str)==("hang":Str))=false by decide +kernel];refine⟨rfl,?_⟩;rw[eqS,show(("wear":Str)==("wear":Str))=true by decide +kernel];have h0:=h;cases h with
  |mk n pg nm hs=>exact⟨_,hs.1,rfl,h0⟩
inductive sFR:Wsp
 |mk {S Q E}:Q (.str "letters 2") S->sFR [.int 2] S Q E
def z69(T:Z.Tx)(D:Z.fd "first_row" z3X ["letters"]):Z.f "first_row" 1 sFR:=by
 refine wF ["letters"] D (λf cdv A outer s H E hr nd=>z03 (z0l (zjF z0e (zdS (z01 0))))) (λus S Q E h=>by cases h<;>rfl) ?_;rintro _ S Q E ⟨q⟩;have k:("letters ":Str)++Str.ofString (toString (2:Int))="letters 2":=by decide +kernel
 refine⟨by decide,by decide +kernel,by decide +kernel,?_⟩;rw[<-k]at q;exact q
end W
namespace W
open PySem L2 PySem.SeqAt Gu
variable[WW]{Z:Zx}
def Zx.k(Z:Zx)(x:Str)(k:Nat)(sp:Wsp):Prop:=Fk Z.P WW.w Z.K Z.mg Z.base Z.xa x Z.C k sp
end W
namespace W
open PySem L2 PySem.SeqAt PySem.Spec Gu
variable[WW]{Z:Zx}
inductive sHB(Z:Zx):Wsp
 |mk {S Q E}:Md Z S->(∀p d x y S',Hs Z S' p d x y 2 [] [] []->(∀a o,S a=some o->S' a=some o)->Q (.ref p) S')->sHB Z [.str "letters 2"] S Q E
def z4c(T:Z.Tx)(JX:Z.f "first_row" 1 sFR)(Ji:Z.k "House" 1 (zgu Z))(D:Z.fd "house_begun" z2k ["row"]):Z.f "house_begun" 3 (sHB Z):=by
 refine wF ["row","letters"] D (λf cdv A outer s H E hr nd=>z04 (z1U y0x rfl (zhy rfl (T.b _ (by decide)) (z00 (zaz T rfl rfl) (z00 (z0j z12 (zaz T rfl rfl) z06) z02))) (z08 1 nd) (z03 (z0q (z0i (z1w (z1v hr)).1 (z01 0) (z09 JX (hr.mono (by decide)) z0g (z00 (z01 1) z02))) (z03 (z0l (z3p Ji (hr.mono (by decide)) (z2x λ_ _ _ z=>z) (z00 (z01 1) z02)))) z0m))) z0I) (λus S Q E h=>by cases h<;>rfl) ?_;rintro _ S Q E ⟨M,q⟩;have k:eqU (.str "letters 2") (.str "letters 2")=true:=by rw[eqS];decide +kernel
 refine⟨by decide,?_⟩;refine⟨trivial,.mk ?_⟩;refine⟨rfl,?_⟩;rw[k];intro p hp;have hS:∀{a o},S a=some o->a≠p:=λh e=>by rw[e,hp]at h;cases h
 refine .mk p 2 z05 M.any (λ_ d x y S' hn hs hk=>⟨rfl,q p d x y S' hs λa o h=>hk a o ?_ (hS h)⟩) (λh=>absurd ⟨by decide,by decide⟩ h);exact(show up S p _ a=S a from if_neg (hS h)).trans h
end W
namespace W
open PySem L2 Gu
def mM:List Row:=[([1,0],[1,0]),([0,1],[1,1])]
def nM:List Row:=[([0,1],[0,1]),([1,0],[1,0])]
def f0(L i:Nat):Int:=if i%(L+1)=L then 1 else 0
def f1(L i:Nat):Int:=if i=0 then 1 else f0 L i
def zck(L i:Nat):f0 L i=0\/f0 L i=1:=by unfold f0;split<;>simp
variable{L:Nat}
theorem sM{e:Row}(hL:0<L)(he:∀i,lat e i=f0 L i):∀i,stS mM e (i+1)=1
 |0=>by
  rw[z1E,he,show f0 L 0=0 by unfold f0;rw[Nat.zero_mod,if_neg (by lia)]];rfl
 |i+1=>by rw[z1E,sM hL he i,he];rcases zck L (i+1)with h|h<;>rw[h]<;>rfl
def oM{e:Row}(hL:0<L)(he:∀i,lat e i=f0 L i):∀i,oS mM e i=f1 L i
 |0=>by
  unfold oS;rw[he,show f0 L 0=0 by unfold f0;rw[Nat.zero_mod,if_neg (by lia)]];rfl
 |i+1=>by unfold oS;rw[sM hL he i,he,show f1 L (i+1)=f0 L (i+1)from if_neg (y37 i)];rcases zck L (i+1)with h|h<;>rw[h]<;>rfl
def cL(L:Nat):Row:=([1],List.replicate (L-1) 0++[1,0])
def z3u(hL:0<L)(i:Nat):lat (cL L) i=f1 L i:=by
 have hl:(cL L).2.length=L+1:=by unfold cL;simp;lia
 by_cases h:i=0
 .subst h;rfl
 .rw[z1m (show 1<=i by lia),show f1 L i=f0 L i from if_neg h,hl];show(List.replicate (L-1) (0:Int)++[1,0]).getD ((i-1)%(L+1)) 0=f0 L i;have hm:=y1K (i-1) (show 0<L+1 by lia);have hd:=Nat.div_add_mod (i-1) (L+1);have em:i%(L+1)=if(i-1)%(L+1)=L then 0 else(i-1)%(L+1)+1:=by
   generalize(i-1)%(L+1)=r at hm hd⊢;generalize(i-1)/(L+1)=q at hd;rw[show i=r+1+(L+1)*q by lia,Nat.add_mul_mod_self_left];split
   .rename_i h;rw[h,Nat.mod_self]
   .exact y0W (by lia)
  unfold f0;rw[em];generalize(i-1)%(L+1)=r at hm;rw[y08];by_cases c:r<L-1
  .rw[y0A (by simpa using c),y2F,if_pos c,if_neg (by split<;>lia)];rfl
  .rw[y0E (by simpa using c),y2f];rcases(show r=L-1\/r=L by lia)with z|z
   .rw[z,Nat.sub_self,if_pos (by rw[if_neg (by lia)];lia)];rfl
   .rw[z,show L-(L-1)=1 by lia,if_neg (by rw[if_pos rfl];lia)];rfl
def z86(hL:0<L):z0R (cL L):=by
 have hl:(cL L).2.length=L+1:=by unfold cL;simp;lia
 refine⟨(λz=>by rw[z]at hl;cases hl),λd h0 h1 p=>?_,.inr ?_⟩
 .rw[hl]at h1;have:=p L (show 1<=L by lia);rw[z3u hL,z3u hL,show f1 L L=f0 L L from if_neg (by lia),show f1 L (L+d)=f0 L (L+d)from if_neg (by lia)]at this;unfold f0 at this;rw[show L+d=d-1+(L+1)by lia,y2m,y0W (show d-1<L+1 by lia),y0W (y1I L),if_neg (by lia),if_pos rfl]at this;cases this
 .rw[z3u hL,z3u hL,hl];show f1 L 0≠f1 L (0+(L+1));rw[y2A,show f1 L (L+1)=f0 L (L+1)from if_neg (by lia)];unfold f0;rw[Nat.mod_self,if_neg (by lia)];exact λz=>by cases z
def oN0(e:Row)(i:Nat)(h:stS nM e i=0\/stS nM e i=1):oS nM e i=stS nM e (i+1):=by unfold oS;rw[z1E];rcases h with h|h<;>rw[h]<;>rfl
theorem sN{e:Row}(hL:0<L)(he:∀i,lat e i=f1 L i):∀i,stS nM e (i+1)=(((1+(i+1)/(L+1))%2:Nat):Int)
 |0=>by
  rw[z1E,he,Nat.div_eq_of_lt (show 0+1<L+1 by lia)];rfl
 |i+1=>by
  rw[z1E,sN hL he i,he,show f1 L (i+1)=f0 L (i+1)from if_neg (y37 i)];have hd:=Nat.div_add_mod (i+1) (L+1);have hm:=y1K (i+1) (show 0<L+1 by lia);unfold f0;generalize(i+1)%(L+1)=r at hd hm⊢;have e2:(i+1+1)/(L+1)=(i+1)/(L+1)+(r+1)/(L+1):=by rw[show i+1+1=(L+1)*((i+1)/(L+1))+(r+1)by lia,Nat.mul_add_div (by lia)]
  generalize(i+1)/(L+1)=q at e2⊢;rw[e2];by_cases c:r=L
  .rw[if_pos c,c,Nat.div_self (by lia)];rcases Nat.mod_two_eq_zero_or_one (1+q)with z|z
   .rw[z,show(1+(q+1))%2=1 by lia];rfl
   .rw[z,show(1+(q+1))%2=0 by lia];rfl
  .rw[if_neg c,Nat.div_eq_of_lt (by lia),y2B];rcases Nat.mod_two_eq_zero_or_one (1+q)with z|z<;>rw[z]<;>rfl
def oN{e:Row}(hL:0<L)(he:∀i,lat e i=f1 L i)(i:Nat):oS nM e i=(((1+(i+1)/(L+1))%2:Nat):Int):=by
 rw[oN0 e i ?_,sN hL he];cases i with
 |zero=>exact .inl rfl
 |succ i=>rw[sN hL he];lia
def zd2{e:Row}(hL:600<=L)(hr:e.2≠[])(he:∀i,lat e i=(((1+(i+1)/(L+1))%2:Nat):Int)):e.1.length+e.2.length>1000:=by
 refine Classical.byContradiction λc=>?_;have p0:=y0r.mpr hr;have P:=z5Y hr;generalize e.1.length=b at c P;generalize e.2.length=p at c P p0;by_cases h:p<=L+1
 .have:=P (3*(L+1)-2) (by lia);rw[he,he,y2x (k:=3) (n:=L+1) (m:=3*(L+1)-2+p+1) (by lia) (by lia),y2x (k:=2) (n:=L+1) (m:=3*(L+1)-2+1) (by lia) (by lia)]at this;cases this
 .have:=P (3*(L+1)-1) (by lia);rw[he,he,y2x (k:=4) (n:=L+1) (m:=3*(L+1)-1+p+1) (by lia) (by lia),y2x (k:=3) (n:=L+1) (m:=3*(L+1)-1+1) (by lia) (by lia)]at this;cases this
end W
namespace W
open PySem L2 PySem.SeqAt PySem.Spec Gu
variable[WW]{Z:Zx}
inductive zek:Wsp
 |mk {S Q E} (a:Addr) (ns:List Int) (i:Int):isL S a (ns.map U.int)->0<=i->i<=1000000->(∀x:Int,Q (.int x) S)->zek [.ref a,.int i] S Q E
def zbM{us:List U}{i:Int}(h0:0<=i)(h1:i<(us.length:Int)):∃u,atI us i=some u/\u∈us:=by
 obtain⟨n,rfl⟩:=y23 h0;have hn:n<us.length:=by lia
 exact⟨us[n],by have:=z4w (f:=id) (xs:=us) (i:=n) (y0a hn);simpa using this,y1J hn⟩
def z9C{ns:List Int}{i:Int}(h0:0<=i)(h1:i<(ns.length:Int)):∃x∈ns,atI (ns.map U.int) i=some (.int x):=by obtain⟨u,e,hu⟩:=zbM (us:=ns.map U.int) h0 (by rw[y01];exact h1);obtain⟨x,hx,rfl⟩:=y0f.mp hu;exact⟨x,hx,e⟩
def z5N(T:Z.Tx)(D:Z.fd "_law_cell" zeD ["_law_script","_law_at"]):Z.f "_law_cell" 1 zek:=by
 refine wF ["_law_script","_law_at"] D (λf cdv A outer s H E hr nd=>z04 (z0q (z0i (z1g z7d) (z01 1) (sBu T z0V y0j (z00 (z01 0) z02))) (z03 (z0l (z0L z2T (z01 0) (z01 1)))) z0m) (z04 (z0q (z0i (z1w (z1v hr)).1 (sBu T z0V y0j (z00 (z01 0) z02)) z06) (z03 (z0l (z0j z12 (z0j z7j z06 (z01 1)) z06))) z0m) (z03 (z0l (z0j z12 (z0j z3P (z0L z2T (z01 0) (z0j z3P (z01 1) (sBu T z0V y0j (z00 (z01 0) z02)))) z06) (z0j z7j z06 (z01 1))))))) (λus S Q E h=>by cases h<;>rfl) ?_;rintro _ S Q E ⟨a,ns,i,hl,h0,hi,q⟩;refine⟨_,hl,?_⟩;show cond (decide (i<(((ns.map U.int).length:Nat):Int))) _ _;rw[y01];refine z0Z (λc=>?_) (λc=>?_)
 .obtain⟨x,_,e⟩:=z9C h0 (y0m c);exact⟨_,hl,opt.of e (q x)⟩
 .refine⟨_,hl,rfl,?_⟩;show cond (false != eqU (.int (((ns.map U.int).length:Nat):Int)) (.int 0)) _ _;rw[y01,eqI];refine z0Z (λc2=>⟨.inl (by lia),q _⟩) (λc2=>?_);have c2:=y0w c2;have hp:(0:Int)<(ns.length:Int):=by lia
  refine⟨_,hl,by rw[y01];exact hp,_,hl,?_⟩;rw[y01];obtain⟨x,_,e⟩:=z9C (ns:=ns) (i:=i%(ns.length:Int)) (Int.emod_nonneg _ (by lia)) (Int.emod_lt_of_pos _ hp);exact opt.of e ⟨by decide,.inl (by lia),q _⟩
inductive zah:Wsp
 |mk {S Q E} (i:Int):Q (.bl true) S->zah [.int i] S Q E
def z4U(T:Z.Tx)(D:Z.fd "_law_whole" zbp ["_law_found"]):Z.f "_law_whole" 1 zah:=by refine wF ["_law_found"] D (λf cdv A outer s H E hr nd=>z03 (z0l (z6p (z2U (by decide) (z01 0) (T.b _ (by decide)) (T.b _ (by decide)) y33) (z5U (zbk (z2U (by decide) (z01 0) (T.b _ (by decide)) (T.b _ (by decide)) y2U)))))) (λus S Q E h=>by cases h<;>rfl) ?_;rintro _ S Q E ⟨i,q⟩;exact q
inductive pLk:Wsp
 |mk {S Q E} (a:Int):Q (.bl true) S->pLk [.int a,.int a] S Q E
def z6r(T:Z.Tx)(JR:Z.f "_law_whole" 1 zah)(D:Z.fd "_law_like" zfS ["_law_found","_law_due"]):Z.f "_law_like" 2 pLk:=by refine wF ["_law_found","_law_due"] D (λf cdv A outer s H E hr nd=>z04 (z0q (z0i zjD (z01 1) z4m) (z03 (z0l (z2O zjD (z01 0) z4m))) z0m) (z04 (z0q (z1K (z2U (by decide) (z01 1) (T.b _ (by decide)) (T.b _ (by decide)) y2U)) (z03 (z0l (z6p (z2U (by decide) (z01 0) (T.b _ (by decide)) (T.b _ (by decide)) y2U) (z5U (z2O (z1w (z1v hr)).1 (z01 0) (z01 1)))))) z0m) (z04 (z0q (z1K (z2U (by decide) (z01 1) (T.b _ (by decide)) (T.b _ (by decide)) y33)) (z03 (z0l (z6p (z09 JR (hr.mono (by decide)) z0g (z00 (z01 0) z02)) (z5U (z2O (z1w (z1v hr)).1 (z01 0) (z01 1)))))) z0m) z0I))) (λus S Q E h=>by cases h<;>rfl) ?_;rintro _ S Q E ⟨a,q⟩;refine .mk _ ⟨rfl,?_⟩;rw[show(false != eqU (U.int a) (U.int a))=true by rw[z7v.mpr rfl];rfl];exact q
def z9e:z4G 2 mM 60:=⟨⟨by decide,by decide,λr h=>by
 have:r=([1,0],[1,0])\/r=([0,1],[1,1]):=by simpa[mM]using h
 rcases this with rfl|rfl<;>(show List.Perm _ _;decide),by decide,by decide⟩,by decide⟩
def za3(k:Int)(u:U):rep k [u]=List.replicate k.toNat u:=by unfold rep;simp
def zjT(L i:Nat):lat ([],List.replicate L 0++[1]) i=f0 L i:=by
 rw[z1m (y1r _)];show(List.replicate L (0:Int)++[1]).getD ((i-0)%(List.replicate L (0:Int)++[1]).length) 0=_;rw[y07,y2f,Nat.sub_zero,y08];unfold f0;show(_:Option Int).getD 0=if i%(L+1)=L then 1 else 0;have hm:=y1K i (show 0<L+1 by lia);rw[show[(1:Int)].length=1 from rfl];by_cases c:i%(L+1)=L
 .rw[if_pos c,c,y0E (by simp),y2f,Nat.sub_self];rfl
 .rw[if_neg c,y0A (by simp;lia),y2F,if_pos (by lia)];rfl
def thK(e:Gu.Row):List (U × U):=z2f (z2f [] (ks "guise" "m") (uG mM)) (ks "peg" "k") (pgU [uR e] [])
inductive zad(Z:Zx):Wsp
 |mk {S Q E} (m:Int):0<=m->m<=200000->Md Z S->(∀(L:Nat)(e:Gu.Row) p d x y S' dn,600<=L->L<=899->z0R e->(∀i,lat e i=f0 L i)->e.1.length<=0->e.2.length<=L+1->Hs Z S' p d x y 2 (thK e) dn []->dn.length=2->Md Z S'->(∀a o,S a=some o->S' a=some o)->Q (.ref p) S')->zad Z [.int m] S Q E
def z4Y(T:Z.Tx)(Ji:Z.k "House" 1 (zgu Z))(m_sew:Z.m "sew" 9 (zcr Z))(Jl:Z.m "hang" 9 (z5G Z))(D:Z.fd "_law_house" z7l ["_law_many"]):Z.f "_law_house" 10 (zad Z):=by
 refine wF ["_law_many","_law_house_here"] D (λf cdv A outer s H E hr nd=>z04 (z0n 1 nd (z3p Ji (hr.mono (by decide)) (z2x λ_ _ _ z=>z) (z00 z06 z02))) (z04 (z0d (z0p m_sew (hr.mono (by decide)) z0g (z01 1) (z00 z0e (z00 (z0Y (z00 (z0f (z00 (z0f (z00 z06 (z00 z06 z02))) (z00 (z0f (z00 z06 (z00 z06 z02))) z02))) (z00 (z0f (z00 (z0f (z00 z06 (z00 z06 z02))) (z00 (z0f (z00 z06 (z00 z06 z02))) z02))) z02))) z02)))) (z04 (z0d (z0p Jl (hr.mono (by decide)) z0g (z01 1) (z00 z0e (z00 (z0f z02) (z00 (z0j z12 (z0j z7j (z0f (z00 z06 z02)) (z0j z12 z06 (z0j z3P (z01 0) z06))) (z0f (z00 z06 z02))) z02))))) (z03 (z0l (z01 1)))))) (λus S Q E h=>by cases h<;>rfl) ?_;rintro _ S Q E ⟨m,h0,h1,M,q⟩;intro p hp;refine .mk p 2 z05 M.any (λ_ d x y S1 hfr hs1 kp1=>⟨rfl,?_⟩) (λz=>absurd ⟨by decide,by decide⟩ z);have np:∀a o,S a=some o->S1 a=some o:=λa o h=>by
  have ha:a≠p:=by rintro rfl;rw[hp]at h;cases h
  exact kp1 a o ((z0k ha).trans h) ha
 have hs0:=hs1;obtain⟨h1',_⟩:=hs0;refine⟨_,h1',rfl,?_⟩;refine⟨show 2<=sizeLine by decide,show 2<=sizeLine by decide,show 2<=sizeLine by decide,show 2<=sizeLine by decide,show 2<=sizeLine by decide,show 2<=sizeLine by decide,show 2<=sizeLine by decide,λl hl=>?_⟩;have hs2:=hs1.ex (Ex.up (o:=.lst (mM.map uR)) (.refl S1) hl);refine .mk 2 "m" l mM hs2 (by decide +kernel) (by decide) (.inl z05) (by decide) (by decide) (by decide) (by decide) (λz=>absurd z (by decide +kernel)) (λ_ z=>by cases z) (λ_ _ z=>absurd z9e z) (λ_ _ _ S3 hs3 b3=>?_);rw[show least mM=mM by decide +kernel]at hs3;have np3:∀a o,S a=some o->S3 a=some o:=λa o h=>by have w:∀b,up S p (.ins Z.C []) b=none->a≠b:=λb hb=>z29 ((z0k (z29 h hp)).trans h) hb;exact b3 a o ((z0k (z29 (np a o h) hl)).trans (np a o h)) (w _ hfr.1) (w _ hfr.2.1) (w _ hfr.2.2)
 have hs0:=hs3;obtain⟨h3',_⟩:=hs0;refine⟨_,h3',rfl,show 0<=sizeLine by decide,show 1<=sizeLine by decide,by decide,?_⟩;have g0:=Int.emod_nonneg m (show(300:Int)≠0 by decide);have g1:=Int.emod_lt_of_pos m (show(0:Int)<300 by decide);obtain⟨L,hL⟩:=y23 (show 0<=600+m%300 by lia);show(-1000:Int)<=600+m%300/\600+m%300<=1000000/\([U.int 0]).length*(600+m%300).toNat<=sizeLine/\_;rw[hL];have hr:U.tup (rep (L:Int) [.int 0]++[.int 1])=uI' (List.replicate L 0++[1]):=by rw[za3];unfold uI';simp
 refine⟨by lia,by lia,y0Y (z1G (show 1*(L:Int).toNat<=1000000 by lia)),show 1<=sizeLine by decide,?_⟩;show _<=sizeLine/\z5G Z [.ref p,.str "k",uI' [],U.tup (rep (L:Int) [.int 0]++[.int 1])] _ _ _;rw[hr];refine⟨y0Y (z1G (by rw[za3];simp;lia)),.mk "k" [] (List.replicate L 0++[1]) hs3 (by decide +kernel) (by decide) (by decide) (by simp;lia) (by show 1<=1000000;decide) (show(z2f [] (ks "guise" "m") (uG mM)).length<=1000000 by decide +kernel) (λz=>absurd z (by decide +kernel)) (λ_ z=>?_) (λ_ _ z=>?_) (λ_ _ _ e pe le l1 l2 S4 hs4 b4=>?_)⟩
 .rw[show z0t (z2f [] (ks "guise" "m") (uG mM)) (ks "peg" "k")=none by decide +kernel]at z;cases z
 .simp[lw]at z
 .refine q L e p d x y S4 _ (by lia) (by lia) pe (λi=>(le i).trans (zjT L i)) l1 (by simpa using l2) hs4 rfl M.any λa o h=>?_;have w:∀b,up S p (.ins Z.C []) b=none->a≠b:=λb hb=>z29 ((z0k (z29 h hp)).trans h) hb;exact b4 a o (np3 a o h) (w _ hfr.1) (w _ hfr.2.1) (w _ hfr.2.2)
end W
namespace W
open PySem L2 PySem.SeqAt PySem.Spec
variable[WW]
section
variable{prog:Program}{w:World}{A:Around}{E:yyE}{s:Shared}{K:yyF}{x C:Addr}{ox:Obj}{od:Option Obj}{name:Str}{tk:Tok}{fill expr:Bool}{Q:yyE}
def zdL(X:K.In s.heap)(I:PySem.W.InstAt s.heap x ox C od)(ga:PySem.W.findIn K (.ref C) "__getattribute__"=some (some (.builtin "BaseException.__getattribute__")))(gh:PySem.W.findIn K (.ref C) "__getattr__"=some none)(hb:PySem.W.subIn K (.ref C) (.type "BaseException")=some true)(h:∀A':Around,wpAny (model prog w) A' (Builtin.«object.__getattribute__» ⟨[.ref x,.str name tk],[]⟩) (λfin s'=>match fin with|.done (.ret v)=>wpAny (model prog w) A (handedOut v) Q E s'|_=>False) (λ_ _=>False) s):wpAny (model prog w) A (getAttrBy (.ref x) (.str name tk) fill expr) Q E s:=by
 obtain⟨hh,g,d,t,os⟩:=s;have L0:=I.type (M:=model prog w);have L1:=y38 (M:=model prog w) X ga;have L2:=PySem.W.looks_hook (M:=model prog w) (mc:=.ref C) X (r:=none) gh;have L3:PySem.W.Looks (model prog w) hh (isInstance (.ref x) (.type "BaseException")) true:=L0.andThen (PySem.W.looks_subIn (M:=model prog w) X hb);have f3:=F.excAttr_ValueError.ga.bind (.ref x);have hx0:(expr&&onTheHeap (Value.builtin "BaseException.__getattribute__"))=false:=by cases expr<;>rfl
 have hx2:(Value.builtin "BaseException.__getattribute__" == Value.builtin "object.__getattribute__")=false:=by decide +kernel
 have hk:builtinKind "BaseException.__getattribute__"=some .slot:=by decide +kernel
 have hsplit:splitId "BaseException.__getattribute__"=some ("BaseException","__getattribute__"):=by decide +kernel
 have ha:=F.args_bexc_ga (.ref x) (.str name tk);have chk:∀{B:Around} {Q:Unit->Shared->Prop} {E':yyE},Q () ⟨hh,g,d,t,os⟩->wpAny (model prog w) B (checkBuiltinCall "BaseException.__getattribute__" ⟨[.ref x,.str name tk],[]⟩) Q E' ⟨hh,g,d,t,os⟩:=λq=>by
  simp only[checkBuiltinCall,hk,hsplit];refine y00 (L3.at ?_);rw[if_neg (by decide)];cases hsig:Manifest.signature? "BaseException.__getattribute__" with
  |none=>exact y03 q
  |some sig =>
   simp only[argsOk,hsig]at ha;show wpAny _ _ (Bind.checkArgs _ sig _) _ _ _;rw[show Bind.checkArgs _ sig _=pure ()from ha];exact y03 q
 unfold getAttrBy;refine y0C (y00 (L0.at (y00 (L1.at ?_))));show wpAny _ _ (if onTheHeap (Value.ref C)&&Value.builtin "BaseException.__getattribute__" == Value.builtin "object.__getattribute__" then _ else getAttrByItsOwn _ _ _ _ _ _) _ _ _;rw[hx2,Bool.and_false,if_neg (by decide)];unfold getAttrByItsOwn;refine y00 (L2.at ?_);unfold callGetattribute;rw[hx0,if_neg (by decide)];unfold boundAndCalled;refine y00 (y3h (y0C (y00 ?_)));rw[f3];refine y03 ?_;show wpAny _ _ (call (.builtin "BaseException.__getattribute__") [.ref x,.str name tk]) _ _ _;refine y2l (y2n F.excAttr_ValueError.ga.plain F.entry_bexc_ga (chk (y0B (h _) (λfin s' z=>?_) λ_ _ z=>z.elim)));rcases fin with(_|_|_|_)|_<;>first|exact z|exact z.elim
structure ExF(K:yyF)(C:Addr):Prop where
 ga:PySem.W.findIn K (.ref C) "__getattribute__"=some (some (.builtin "BaseException.__getattribute__"))
 gh:PySem.W.findIn K (.ref C) "__getattr__"=some none
 sb:PySem.W.subIn K (.ref C) (.type "BaseException")=some true
 hd:PySem.W.hasDictIn K C=true
 cl:PySem.W.findIn K (.ref C) "__class__"=some (some (.builtin "object.__class__"))
 gs:PySem.W.specialIn K (.builtin "object.__class__") "__get__"=some (some (.builtin "getset_descriptor.__get__"))
 tk:PySem.W.takesIn K (.builtin "object.__class__")=some true
 mo:PySem.W.mroIn K C (.type "object")=some true
def zfn{v:Value}(X:K.In s.heap)(I:PySem.W.InstAt s.heap x ox C od)(F:ExF K C)(hf:PySem.W.findObj K C od name=some (.value v))(hh:PySem.W.handedIn v=true)(h:Q v { s with toks:=s.toks+1 }):wpAny (model prog w) A (getAttr (.ref x) name expr) Q E s:=by obtain⟨hp,g,d,t,os⟩:=s;unfold getAttr;refine y00 (wpAny_mkText (zdL (s:=⟨hp,g,d,t+1,os⟩) X I F.ga F.gh F.sb λA'=>?_));have L0:=I.type (M:=model prog w);have L1:=PySem.W.looks_find (M:=model prog w) X I hf;unfold Builtin.«object.__getattribute__»;refine y00 (y03 (y00 (y03 (y00 (L0.at (y00 (L1.at ?_)))))));exact y03 (PySem.W.handed_on hh h)
def zfq{Q:Option Value->Shared->Prop}(X:K.In s.heap)(I:PySem.W.InstAt s.heap x ox C od)(F:ExF K C)(h:Q (some (.ref C)) { s with toks:=s.toks+1 }):wpAny (model prog w) A (getAttr? (.ref x) "__class__") Q E s:=by
 obtain⟨hp,g,d,t,os⟩:=s;unfold getAttr? getAttrBy?;refine y00 (wpAny_mkText (y00 (y3h (zdL (s:=⟨hp,g,d,t+1,os⟩) X I F.ga F.gh F.sb λA'=>?_))));have hf:PySem.W.findObj K C od "__class__"=some (.bind (.builtin "getset_descriptor.__get__") (.builtin "object.__class__")):=by obtain⟨cd,hc,_⟩:=y2p F.hd;simp only[PySem.W.findObj,hc,F.cl,F.gs,F.tk,Option.bind_some]
 have L0:=I.type (M:=model prog w);have L1:=PySem.W.looks_find (M:=model prog w) X I hf;unfold Builtin.«object.__getattribute__»;refine y00 (y03 (y00 (y03 (y00 (L0.at (y00 (L1.at ?_)))))));show wpAny _ _ (holding [_] (call _ [_,_,_])>>=ret) _ _ _;refine y00 (y0C (y2l (PySem.W.class_get (s:=⟨hp,g,d,t+1,os⟩) X I F.mo ?_)));exact y03 (PySem.W.handed_on rfl (y03 h))
theorem ExF.at(F:ExF K C):∃c' d' cd' sl',K.lookup C=some ⟨c',d',.cls cd',sl'⟩:=by
 obtain⟨cdD,hcD,_⟩:=y2p F.hd;unfold PySem.W.clsIn at hcD;split at hcD
 .rename_i c' d' cd' sl' ho;exact⟨c',d',cd',sl',ho⟩
 .cases hcD
def zd1(F:ExF K C):PySem.W.KitX K (.ref x) (.ref C) (λh=>∃ox od,PySem.W.InstAt h x ox C od) where
 ty:=λ_ _ _ ⟨_,_,I⟩=>I.type
 it:=λ_ _ X _=>by
  obtain⟨c',d',cd',sl',ho⟩:=F.at
  intro A' Q' E' s' k q;unfold isType loadHead;exact y00 (wpAny_loadPart (k _ _ (X _ _ ho)) (y03 q))
 ne:=λh tp dd its n sl X htp=>by
  obtain⟨c',d',cd',sl',ho⟩:=F.at
  refine Bool.eq_false_iff.mpr λq=>?_;cases Value.ref.inj (y1y.mp q);cases(X _ _ ho).symm.trans htp
 ca:=λX ⟨_,_,I⟩ k=>zfq X I F k
end
section
variable{prog:Program}{w:World}{A:Around}{E:yyE}{s:Shared}{K:yyF}{x C:Addr}{vs:Array Value}{sl:Array (Option Value)}{name:Str}{v:Value}{Q:Unit->Shared->Prop}
def ovB:List Value->List Value
 |.ref _::r=>ovB r
 |l=>l
abbrev ziT:List Value:=[.type "ValueError",.type "Exception",.type "BaseException",.type "object"]
theorem zic(self:Value):∀{l:List Value},ovB l=ziT->PySem.refuseLoop self "__setattr__" l=pure ()/\l.contains (.type "object")=true/\l.isEmpty=false
 |[],e=>by cases e
 |.ref c::r,e=>by
  obtain⟨h1,h2,_⟩:=zic self (show ovB r=ziT from e);exact⟨by rw[refuseLoop_ref];exact h1,by rw[y2K,h2,Bool.or_true],rfl⟩
 |.type n::r,e=>by have e:Value.type n::r=ziT:=e;rw[e];exact⟨PySem.F.store_ValueError.passes self,by decide +kernel,rfl⟩
def z57(K:yyF)(C:Addr):Bool:=(PySem.W.clsIn K C).any λcd=>ovB cd.mro==ziT
def zgj{ox:Obj}{od:Option Obj}{tk:Tok}{R:Result->Shared->Prop}(X:K.In s.heap)(I:PySem.W.InstAt s.heap x ox C od)(hp:z57 K C=true)(ht:PySem.W.takerIn K C name=some none)(h:∀b,wpAny (model prog w) A.in1 (Builtin.ObjectAttr.storeInOwnDict (.ref x) (.ref C) (.str name tk) name v b) (λfin s'=>match fin with|.done f=>R (.ok f) s'|.again c'=>c'.quiet=true/\codeAny (model prog w) A c' R s') (λe s'=>R (.error e) s') s) : codeAny (model prog w) A (.call (.builtin "object.__setattr__") ⟨[.ref x,.str name tk,v],[]⟩) R s:=by
 have F:=PySem.F.store_object;obtain⟨cd,hc,ho⟩:=y2p hp;obtain⟨o1,o2,o3⟩:=zic (.ref x) (y1y.mp ho);have sub:PySem.W.Looks (model prog w) s.heap (isInstance (.ref x) (.type "object")) true:=I.type.andThen (PySem.W.looks_mroIn X (by unfold PySem.W.mroIn;rw[hc,Option.bind_some,if_neg (by rw[o3];decide),o2]));refine y2n F.slot.plain F.entry (@PySem.W.check_slot (model prog w) _ _ s "object.__setattr__" "object" "__setattr__" (.ref x) [.str name tk,v] [] _ F.kind F.split sub (F.args (.ref x) (.str name tk) v) ?_);obtain⟨a,ha,hr⟩:=Option.bind_eq_some_iff.mp ht;have L3:PySem.W.Looks (model prog w) s.heap (Builtin.ObjectAttr.storeTaker? a) none:=by
  cases a with
  |none=>cases hr;exact .now
  |some a =>
   obtain⟨b,hb,hn⟩:=y1G.mp hr;refine(PySem.W.looks_takesIn X hb).andThen ?_;cases b
   .exact .now
   .cases hn
 rw[PySem.W.osa_eq,refuse_eq];refine y00 (y00 (I.type.here (y00 (((PySem.W.looks_clsIn X hc).andThen .now:PySem.W.Looks (model prog w) s.heap (mroOf (.ref C)) cd.mro).here ?_))));rw[o1];exact y03 (y00 (I.type.here (y00 ((y38 X ha).here (y00 (L3.here (h _)))))))
def zex(X:K.In s.heap)(hx:s.heap.get? x=some ⟨.ref C,none,.fields vs,sl⟩)(hs:PySem.W.findIn K (.ref C) "__setattr__"=some (some (.builtin "object.__setattr__")))(hp:z57 K C=true)(ht:PySem.W.takerIn K C name=some none)(hh:PySem.W.hasDictIn K C=true)(h:∀h' dx,s.heap.get? dx=none->h'.get? x=some ⟨.ref C,some dx,.fields vs,sl⟩->h'.Ns1 dx (λy=>if y=name then some v else none)->(∀b o,b≠x->s.heap.get? b=some o->h'.get? b=some o)->Q () { s with heap:=h',toks:=s.toks+2 }):wpAny (model prog w) A (setAttr (.ref x) name v) Q E s:=by
 have J:PySem.W.InstAt s.heap x ⟨.ref C,none,.fields vs,sl⟩ C none:=⟨hx,rfl,rfl,trivial⟩;refine PySem.W.set_plain X J hs (zgj (s:={ s with toks:=s.toks+1 }) X J hp ht λb=>?_);obtain⟨cd,hc,hd'⟩:=y2p hh;refine y00 (y03 (y00 (y00 (wpAny_loadPart hx (y00 (PySem.W.Looks.here (s:={ s with toks:=s.toks+1 }) (PySem.W.looks_clsIn X hc) ?_))))));rw[hd'];have hxs:x≠s.heap.objs.size:=y0i (y05 hx);have hx₁:(s.heap.push { cls:=.type "dict",data:=.dict #[] }).get? x=some ⟨.ref C,none,.fields vs,sl⟩:=y02 _ hx;have hx₂:((s.heap.push { cls:=.type "dict",data:=.dict #[] }).update x λo=>{ cls:=o.cls,dict:=some s.heap.objs.size,data:=o.data,slots:=o.slots }).get? x=some ⟨.ref C,some s.heap.objs.size,.fields vs,sl⟩:=y1b _ hx₁ rfl;refine y00 (wpAny_alloc' (y00 (wpAny_update' hx₁ (y03 ?_))));have hnd:((s.heap.push { cls:=.type "dict",data:=.dict #[] }).update x λo=>{ cls:=o.cls,dict:=some s.heap.objs.size,data:=o.data,slots:=o.slots }).Ns s.heap.objs.size (λ_=>none) :=
  ⟨_,#[],_,(Heap.get?_update_ne _ _ _ _ hxs.symm).trans (Heap.get?_push_at rfl rfl),rfl,λe he=>absurd he (by simp),λ_=>rfl⟩
 show wpAny _ _ (Builtin.ObjectAttr.storeInDict s.heap.objs.size (.str name _) name v) _ _ _;unfold Builtin.ObjectAttr.storeInDict Builtin.ObjectAttr.newKeyGuard;refine y00 (y03 (y00 (wpAny_nsSet1 (Heap.Ns1.of_empty hnd) λh' hn' hs=>?_)));obtain⟨oD,esD,epD,hoD,hdD,hcD⟩:=hn'.count (Within.cons name v Within.nil);refine y00 (wpAny_lookBehind hoD (by rw[hdD];exact pastItsLine_dict (y0e hcD (by rw[y0c,y2g,y2d];lia))) ?_);exact y03 (h _ _ (y1s (y09 _)) ((hs.2 x hxs).trans hx₂) hn' λb ob hbx hb=>(hs.2 b (y0i (y05 hb))).trans ((Heap.get?_update_ne _ _ _ _ hbx).trans (y02 _ hb)))
end
section
variable{prog:Program}{w:World}{A:Around}{E:yyE}{h:Heap}{g:Array GenState}{d:Drawn}{t:Nat}{os:OsState}
variable{nm q:Str}{C N:Addr}{bs bm bmB:List Value}{hdct:Bool}{sn:List Str}{sub:List Value}{ab:Bool}{col:Option Bool}{dd:Option Addr}{k0 k1 k2 k3 k5:Option Value}{B newId initId:String}
def zbY(F:ExcBaseFacts B newId initId bmB)(T:OwnTail h bmB bm){mN:yyS}{rest:List Value}{fI:Addr}{oI:Obj}{Q:yyE}(hC:h.get? C=some (excClassObj nm q C N bs bm hdct sn sub ab col dd k0 k1 k2 k3 k5 newId))(hn:h.Ns N mN)(hi:mN "__init__"=some (.ref fI))(hfI:h.get? fI=some oI)(hfc:oI.cls=.type "function")(hrest:rest.length<=sizeLine)(hq:∀h' e,Heap.MadeExcOf h h' e (.ref C) rest->wpAny (model prog w) (A.under (.builtin "type.__call__" ⟨.ref C::rest,[]⟩)) (call (.ref fI) (.ref e::rest)) (λr s'=>r=.none/\Q (.ref e) s') E ⟨h',g,d,t,os⟩) : wpAny (model prog w) A (call (.ref C) rest) Q E ⟨h,g,d,t,os⟩:=by
 have f1:=tc_lookup;have f2:=tc_bind (.ref C);have hT:(⟨h,g,d,t,os⟩:Shared).TypeIs (.ref C) "type":=⟨_,hC,rfl⟩;refine y2l (codeAny_of_tree ?_);show wpAny _ _ (callAny (.ref C) _) _ _ _;repeat (any_goals (first|assumption|with_reducible refine y1j hC ?_|wp_step))
 refine⟨rfl,codeAny_call_builtin_at (Code.quiet_builtin _ (by decide +kernel)) entry_typeCall (wpAny_check_type_call_sub hC ?_)⟩;show wpAny (model prog w) (A.under (.builtin "type.__call__" ⟨.ref C::rest,[]⟩)) (Builtin.«type.__call__» ⟨.ref C::rest,[]⟩) _ _ _;repeat (first|with_reducible refine y1j hC ?_|with_reducible refine wpAny_madeBy_exc hC ?_|wp_step)
 refine codeAny_call_builtin_code (Code.quiet_builtin _ F.quiet) (wpAny_check_new_subT F T hC (codeAny_exc_new_subT F T hC ?_ hrest));show wpAny _ _ _ _ _ _;have up:∀b o,h.get? b=some o->((h.push { cls:=.type "tuple",data:=.seq rest.toArray }).push { cls:=.ref C,data:=.fields #[.ref h.objs.size,.none,.none,.none,.bool false,.none] }).get? b=some o:=λb o e=>y02 _ (y02 _ e);have hget:((h.push { cls:=.type "tuple",data:=.seq rest.toArray }).push { cls:=.ref C,data:=.fields #[.ref h.objs.size,.none,.none,.none,.bool false,.none] }).get? (h.objs.size+1)=some { cls:=.ref C,data:=.fields #[.ref h.objs.size,.none,.none,.none,.bool false,.none] }:=by heap_get
 have hC₁:=up _ _ hC;have hcC:(Value.ref C::bm).contains (.ref C)=true:=by simp
 unfold isInstance;repeat (first|with_reducible refine y1j hget ?_|(with_reducible refine y2w hC₁ ?_;rw[hcC])|wp_step)
 show wpAny _ _ (typeLookup (.ref C) _) _ _ _;refine wpAny_typeLookup_tail hC₁ (hn.keeps up) (T.keeps up) F.mroIs F.init.lookup ?_;rw[hi];refine y0C (y00 ?_);unfold bindSpecial;refine y00 (y3p (T:="function") ⟨_,up _ _ hfI,hfc⟩ ?_);rw[if_pos (by decide)];refine y03 (y00 (y0B (hq _ (h.objs.size+1) ⟨up,y1s (Nat.le_succ _),h.objs.size,hget,y1s (y09 _),y02 _ (Heap.get?_push_at rfl rfl)⟩) (λr s' hr=>?_) λ_ _ x=>x));obtain⟨rfl,hQ⟩:=hr
 wp_walk
 exact hQ
end
def zhL(C t e:Addr):HO:=.ext λh=>h.get? e=some { cls:=.ref C,data:=.fields #[.ref t,.none,.none,.none,.bool false,.none] }
def zhO(C t dx e:Addr):HO:=.ext λh=>h.get? e=some ⟨.ref C,some dx,.fields #[.ref t,.none,.none,.none,.bool false,.none],#[]⟩
def atO(dx:Addr)(n:Int):HO:=.ext λh=>∃t,h.Ns1 dx λy=>if y="at" then some (.int n t)else none
structure BpF(K:yyF)(C:Addr):Prop where
 sa:PySem.W.findIn K (.ref C) "__setattr__"=some (some (.builtin "object.__setattr__"))
 po:z57 K C=true
 na:PySem.W.findIn K (.ref C) "at"=some none
 hd:PySem.W.hasDictIn K C=true
def zk2(C:Addr)(ta tv:TE):TS:=λD σ H=>tv σ H λy H1=>ta σ H1 λx H2=>∃e n t,x=.ref e/\y=.int n/\H2 e=some (zhL C t e)/\∀dx,H2 dx=none->dx≠e->D.nx σ (upd (upd H2 e (zhO C t dx e)) dx (atO dx n))
section
variable{X:Cx}{o value:Expr}{pos pos':Pos}{ta tv:TE}{C:Addr}
def zfz(hex:X.ex=[])(F:BpF X.K C)(ha:PE X o ta)(hv:PE X value tv)(hs:swapsWith value (some (.Attribute o "at" pos')) pos.line X.env=pure false):PS X (.Assign [.Attribute o "at" pos'] value pos) (zk2 C ta tv):=by
 intro pins s σ H D I h;refine plainObj_wpAny_Assign_Attribute (thn (hv pins s σ H _ I h) λu s1 ⟨y,H1,I1,ry,q⟩=>thn (ha pins s1 σ H1 _ I1 q) λov s2 hz8=>?_) hs;obtain⟨x,H2,I2,rx,e,n,t,ex,ey,he,q2⟩:=hz8;subst ex ey;obtain rfl:ov=Value.ref e:=rx;obtain⟨tk,rfl⟩:=ry;have hx:s2.heap.get? e=_:=(I2.hok e _ he).1;refine zex I2.kIn hx F.sa F.po (z2p.taker F.na) F.hd λh' dx hdx he' hn kp=>?_;have hdH:H2 dx=none:=by
  cases z:H2 dx with
  |none=>rfl
  |some o=>obtain⟨ob,hob⟩:=z34 (I2.hok dx o z);rw[hdx]at hob;cases hob
 have hne:dx≠e:=λz=>by rw[z,he]at hdH;cases hdH
 have I3:=I2.write (x:=e) (e:=e) (o:=zhO C t dx e) (h':=h') (t':=s2.toks+2) (by rw[he];exact y16) (.inl rfl) kp ⟨_,he'⟩ ⟨he',⟨_,he'⟩,λa b z k=>k _ z⟩;obtain⟨od,_,_,hod,_⟩:=id hn.ns;refine⟨σ,_,z35 I3 (z7x I2 hex hdx) (by rw[z0c hne];exact hdH) (o:=atO dx n) ⟨⟨tk,hn⟩,⟨od,hod⟩,λa b ⟨t,z⟩ k=>⟨t,z.at k⟩⟩,q2 dx hdH hne⟩
end
def zc9{P:Program}{w:World}{K:yyF}{mg:yyS}{base:Heap}{x qual:Str}{st:Stmt}{f:Addr}{fd:FuncData}{C e t:Addr}{n:Int}{tk:Tok}{A:Around}{outer:List Env}{s:Shared}{H:Hp}{p1 p2 p3 p4:Pos}(F:Fun K x qual st f fd)(S:z1d ["self","at"] ["self","at"] (z07 st))(hbd:z0v st=[.Assign [.Attribute (.Name "self" p1) "at" p2] (.Name "at" p3) p4])(hsc:∀(a:Addr) (c:Value),swapsWith (.Name "at" p3) (some (.Attribute (.Name "self" p1) "at" p2)) p4.line (PyProof.Rows.envOfC qual (z07 st) a f c)=pure false)(hk:(z07 st).names.lookup ("self":Str)=some .local/\(z07 st).names.lookup ("at":Str)=some .local)(BF:BpF K C)(hb:z19 K fd ["self","at"] [])(hd:A.depth<recursionLimit)(e0:zaA P w K mg base A outer s H)(he:H e=some (zhL C t e)):codeAny (model P w) A (.call (.ref f) ⟨[.ref e,.int n tk],[]⟩) (CR CX0 outer P w H s (λv H'=>v=.non/\∃dx,H dx=none/\dx≠e/\H'=upd (upd H e (zhO C t dx e)) dx (atO dx n)) E0) s:=by
 obtain⟨oc,od,kV,doc,pm,an,cdv,ct,osl,rfl,lk,hcd⟩:=F.ex;have KX:K.In s.heap:=e0.mod.kin.keeps λb o e=>(e0.bs b o e).1;have lim:s.heap.NoLimit:=e0.mod.nolimit.keeps λb o e=>(e0.bs b o e).1;have hkind:∀y∈(["self","at"]:List Str).zip [Value.ref e,.int n tk],(z07 st).names.lookup y.1=some .local\/((z07 st).names.lookup y.1=some .cell/\((cellsFrom (s.heap.objs.size+1) (z07 st).names []).lookup y.1).isSome=true):=λ⟨n,v⟩ hy=>by
  rcases S.par n (y2e hy).1 with q|q
  .exact .inl q
  .exact .inr ⟨q,y2O _ _ _ (.inl q)⟩
 refine codeAny_call_function hd (KX _ _ lk) rfl S.co S.gen rfl (PySem.W.codeRec_of KX hcd) (hb _ [.ref e,.int n tk] KX rfl _ _ _ _ ?_);refine wpAny_newFunctionEnv_cells S.kind hkind λenv he' s1 x=>?_;subst he';refine⟨lim.keeps x.toInCall.keep,codeAny_func ?_⟩;have I0:Inv (z2a CX0 P w K mg base ["self","at"] qual (z07 st) f cdv { A with handled:=none } outer s H E0) [] (start ["self","at"] [V.ref e,.int n]) H s1:=z6e S (A:={ A with handled:=none }) rfl ⟨e0.frames,e0.mod,e0.bs,e0.bsz,e0.funs,e0.frf,e0.hok,e0.bare⟩ rfl (.cons rfl (.cons ⟨tk,rfl⟩ .nil)) x;let Y:Cx:={ z2a CX0 P w K mg base ["self","at"] qual (z07 st) f cdv { A with handled:=none } outer s H E0 with A:=A.deeper (PyProof.Rows.envOfC qual (z07 st) s.heap.objs.size f cdv),calm:=false,xe:=λ_ _=>False };have o:=I0.ok;have I:Inv Y [] (start ["self","at"] [V.ref e,.int n]) H s1:=⟨⟨o.mod,o.kind,o.glob,o.blt,o.above,o.inj,o.has,o.cab,(λz=>by cases z),y39 e0.frames,o.stk,o.exf,o.bs,o.bsz,o.noex,o.exfs,o.funs,o.frf⟩,I0.os,I0.bare,I0.base,I0.loc,I0.cell,I0.free,I0.freeC,I0.pin,I0.hok,I0.len⟩;rw[hbd];refine y0B (zb6 (zfz (X:=Y) rfl BF (z4q (i:=0) rfl (.inl hk.1)) (z4q (i:=1) rfl (.inl hk.2)) (hsc _ _)) [] s1 _ H { nx:=λ_ H'=>∃dx,H dx=none/\dx≠e/\H'=upd (upd H e (zhO C t dx e)) dx (atO dx n),rt:=λ_ _=>False } I ⟨.int n,rfl,.ref e,rfl,e,n,t,rfl,rfl,he,λdx hdx hne=>⟨dx,hdx,hne,rfl⟩⟩) (λfl s' hs=>?_) λ_ _ z=>z.elim;cases fl with
 |next=>obtain⟨σ',H',J,q⟩:=hs;exact⟨.non,H',J.os,J.bare,J.base,J.hok,rfl,rfl,q⟩
 |ret u=>obtain⟨_,_,_,_,_,q⟩:=hs;exact q.elim
 |brk=>obtain⟨_,_,_,q⟩:=hs;exact q.elim
 |cont=>obtain⟨_,_,_,q⟩:=hs;exact q.elim
def z4W:entryFor table "proto.unchain"=some Builtin.«proto.unchain»:=entryFor_of_tree (by kernel_rfl)
section
variable{prog:Program}{w:World}{A:Around}{E:yyE}{env:Env}
variable{nm q:Str}{C N:Addr}{bs bm:List Value}{hdct:Bool}{sn:List Str}{sub:List Value}{ab:Bool}{col:Option Bool}{dd:Option Addr}{k0 k1 k2 k3 k5:Option Value}{newId:String}
def z8t{h:Heap}{g:Array GenState}{d:Drawn}{t:Nat}{os:OsState}{e ea dx:Addr}{a0:Value}{o:Obj}{vs:Array Value}{Q:Flow->Shared->Prop}{c:Sem Value}(hc:∀{Q':yyE} {s:Shared},Q' .none s->wpAny (model prog w) A c Q' E s)(hC:h.get? C=some (excClassObj nm q C N bs bm hdct sn sub ab col dd k0 k1 k2 k3 k5 newId))(hbase:bm.contains (.type "BaseException")=true)(hh:A.handled=some (.ref ea))(hne:ea≠e)(hx:h.get? e=some ⟨.ref C,some dx,.fields #[a0,.none,.none,.none,.bool false,.none],#[]⟩)(ho:h.get? ea=some o)(hd:o.data=.fields vs)(hv:vs[2]?=some .none)(hE:∀h',(∀b,b≠e->h'.get? b=h.get? b)->h'.get? e=some ⟨.ref C,some dx,.fields #[a0,.none,.ref ea,.none,.bool true,.none],#[]⟩->E (.ref e) ⟨h',g,d,t,os⟩) : wpAny (model prog w) A (raiseStmt env (some (pure (.ref e))) (some c)) Q E ⟨h,g,d,t,os⟩:=by
 have hcB:(Value.ref C::bm).contains (.type "BaseException")=true:=by rw[y2K,hbase,Bool.or_true]
 have hCe:C≠e:=λz=>by rw[z,hx]at hC;cases hC
 have hx1:(h.update e (Obj.mapFields (·.setIfInBounds 3 Value.none))).get? e=some ⟨.ref C,some dx,.fields #[a0,.none,.none,.none,.bool false,.none],#[]⟩:=y1b _ hx rfl;have hx2:((h.update e (Obj.mapFields (·.setIfInBounds 3 Value.none))).update e (Obj.mapFields (·.setIfInBounds 4 (Value.bool true)))).get? e=some ⟨.ref C,some dx,.fields #[a0,.none,.none,.none,.bool true,.none],#[]⟩:=y1b _ hx1 rfl;have ot:∀b,b≠e->((h.update e (Obj.mapFields (·.setIfInBounds 3 Value.none))).update e (Obj.mapFields (·.setIfInBounds 4 (Value.bool true)))).get? b=h.get? b:=λb hb=>(y1F _ _ (y0N hb)).trans (y1F _ _ (y0N hb));have hC2:=(ot C hCe).trans hC;have ho2:=(ot ea hne).trans ho;unfold raiseStmt;repeat (first|with_reducible refine hc ?_|with_reducible refine y1j hx ?_|with_reducible refine y1j hC ?_|(with_reducible refine y2w hC ?_;rw[hcB])|wp_step)
 repeat (first|with_reducible refine y1j hC2 ?_|wp_step)
 unfold raiseNew;refine y00 (wpAny_handled ?_);rw[hh];have hb:(Value.ref ea != Value.ref e)=true:=by simp[hne]
 show wpAny _ _ (if(Value.ref ea != Value.ref e)=true then _ else _) _ _ _;rw[hb,if_pos rfl];refine y00 (y0C (wpAny_runValue (y3k z4W ?_)));unfold Builtin.«proto.unchain»;refine y00 (y14 ho2 hd hv ?_);rw[if_pos (by decide)];refine y03 ?_;show wpAny _ _ (setField (.ref e) 2 (.ref ea)>>=λ_=>throw (Value.ref e)) _ _ _;exact y00 (wpAny_setField hx2 rfl (show 2<6 by decide) (wpAny_throw (hE _ (λb hb=>(y1F _ _ (y0N hb)).trans (ot b hb)) (y1b _ hx2 rfl))))
def z8u{s:Shared}{x:Sem Value}{c:Option (Sem Value)}{Q:Flow->Shared->Prop}(h:wpAny (model prog w) A x (λv s1=>wpAny (model prog w) A (raiseStmt env (some (pure v)) c) Q E s1) E s):wpAny (model prog w) A (raiseStmt env (some x) c) Q E s:=by unfold raiseStmt;exact y00 (y0B h (λv s1 hv=>hv) λ_ _ z=>z)
end
structure BpI(K:yyF)(C f:Addr)(st:Stmt):Prop where
 fn:∃fd qual p1 p2 p3 p4,Fun K "__init__" qual st f fd/\z1d ["self","at"] ["self","at"] (z07 st)/\z0v st=[.Assign [.Attribute (.Name "self" p1) "at" p2] (.Name "at" p3) p4] /\
  (∀(a:Addr) (c:Value),swapsWith (.Name "at" p3) (some (.Attribute (.Name "self" p1) "at" p2)) p4.line (PyProof.Rows.envOfC qual (z07 st) a f c)=pure false)/\((z07 st).names.lookup ("self":Str)=some .local/\(z07 st).names.lookup ("at":Str)=some .local)/\z19 K fd ["self","at"] []
 bf:BpF K C
 cl:∃o,K.lookup f=some o/\o.cls=.type "function"
 kp:PySem.W.keepIn K (.ref C)=true
def zhF{X:Cx}{C f:Addr}{st:Stmt}{bmB:List Value}{B newId initId:String}{pins:yyP}{σ:St}{H:Hp}{s:Shared}{n:Int}{tk:Tok}{Q:yyE}(G:BpI X.K C f st)(hex:X.ex=[])(hx:zf5 X.K C bmB newId (some (.ref f))=true)(hB:ExcBaseFacts B newId initId bmB)(hr:X.A.depth+20<recursionLimit)(I:Inv X pins σ H s)(h:∀e dx t H' s',H e=none->H dx=none->dx≠e->Fre X pins e->X.s₀.heap.get? e=none->H'=upd (upd H e (zhO C t dx e)) dx (atO dx n)->Inv X pins σ H' s'->Q (.ref e) s'):wpAny (model X.prog X.w) X.A (call (.ref C) [.int n tk]) Q X.xe s:=by
 obtain⟨fd,qual,p1,p2,p3,p4,F,S,hbd,hsc,hk,hb⟩:=G.fn;obtain⟨of,hof,hofc⟩:=G.cl;obtain⟨bm,nm,q,bs,hd,sn,sub,ab,col,dict,a0,a1,a2,a3,a5,hC,hN,hi,ht,_⟩:=z9M I.kIn hx;obtain⟨hp,g,d,tt,os⟩:=s;refine zbY hB ht hC hN hi (I.kIn _ _ hof) hofc (by show 1<=sizeLine;decide) λh' e me=>?_;obtain⟨kp,nw,t,g1,g2,g3⟩:=me;have I1:=I.kept (h':=h') (t':=tt) kp;have hH:H e=none:=by
  cases z:H e with
  |none=>rfl
  |some o=>obtain⟨ob,hob⟩:=z34 (I.hok e o z);rw[nw]at hob;cases hob
 have fre:=z7x I hex nw;have I2:=z35 I1 fre hH (o:=zhL C t e) ⟨g1,⟨_,g1⟩,λa b z k=>k _ z⟩;refine y2l (y1N (zc9 F S hbd hsc hk G.bf hb (by rw[z4h];lia) (I2.env0.make C [.int n tk] []) (show upd H e (zhL C t e) e=some (zhL C t e)from z0a)) λr s' hq=>?_);cases r with
 |error e=>exact hq.elim
 |ok fl =>
  cases fl with
  |ret u =>
   obtain⟨v,H',I3,rv,rfl,dx,hdx,hne,rfl⟩:=I2.after hq;refine⟨rv,h e dx t _ s' hH (by rw[z0c hne]at hdx;exact hdx) hne fre fre.1 ?_ I3⟩;funext b;by_cases hb:b=dx
   .subst hb;rw[z0a,z0a]
   .rw[z0c hb,z0c hb];by_cases he:b=e
    .subst he;rw[z0a,z0a]
    .rw[z0c he,z0c he,z0c he]
  |next=>exact hq.elim
  |brk=>exact hq.elim
  |cont=>exact hq.elim
def Cx.sux(X:Cx)(ea:Addr):Cx:={ X with A:=X.A.mark (some (.ref ea)),calm:=false }
def zeA{X:Cx}{pins:yyP}{σ:St}{H:Hp}{s:Shared}{ea:Addr}(I:Inv (X.sup ea) pins σ H s):Inv (Cx.sux X ea) pins σ H s:=by have o:=I.ok;exact⟨⟨o.mod,o.kind,o.glob,o.blt,o.above,o.inj,o.has,o.cab,o.hd,o.frames,o.stk,o.exf,o.bs,o.bsz,o.noex,o.exfs,o.funs,o.frf⟩,I.os,I.bare,I.base,I.loc,I.cell,I.free,I.freeC,I.pin,I.hok,I.len⟩
def z4u{X:Cx}{pins:yyP}{σ:St}{H:Hp}{s:Shared}{a:Addr}{φ:Heap->Prop}(I:Inv X pins σ H s)(e:H a=some (.ext φ)):φ s.heap:=(I.hok a _ e).1
def zci{X:Cx}{pins:yyP}{σ:St}{H:Hp}{s:Shared}{ea:Addr}(ok:X.Ok)(I:Inv (Cx.sux X ea) pins σ H s):Inv X pins σ H s:=⟨ok,I.os,I.bare,I.base,I.loc,I.cell,I.free,I.freeC,I.pin,I.hok,I.len⟩
def z43(n:Nat):xn (n+16)=7/\xd (n+16)=some n:=by
 have h:Nat.blt (n+16) 16=false:=by rw[Bool.eq_false_iff];intro z;have:=Nat.blt_eq.mp z;lia
 unfold xn xd;rw[h];exact⟨rfl,by rw[Nat.add_sub_cancel];rfl⟩
def wRz(i:Nat):Nat->WS:=λc ρ S _ E=>Nat.blt c 16=true/\∃n,lk ρ i=some (.int n)/\∀dx,S dx=none->E ρ (dx+16) (up S dx (.thg (atO dx n)))
section
variable{P:Program}{w:World}{K:yyF}{mg:yyS}{base:Heap}{N:List Str}{qual:Str}{scope:Scope}{f:Addr}{cd:Value}{A:Around}{outer:List Env}{s0:Shared}{H0:Hp}{E0:XK}{xa:Nat->Addr}{L:List (Str × Nat)}
def z6G{x a:Str}{st:Stmt}{np ap cpos kp pos hpos:Pos}{j:Nat}(i:Nat)(T:Xt K mg xa L)(hx:L.lookup x=some 7)(G:BpI K (xa 7) (xa 15) st)(hr:(A.deeper (PyProof.Rows.envOfC qual scope s0.heap.objs.size f cd)).depth+20<recursionLimit)(hg:Gl (z2a (CXw xa P w) P w K mg base N qual scope f cd A outer s0 H0 E0) x:=by rfl)(hN:N[i]?=some a:=by rfl)(hv:Vis scope a:=by first|exact Or.inl rfl|exact Or.inr (Or.inl rfl)|exact Or.inr (Or.inr rfl))(hdb:(x==("__debug__":Str))=false:=by decide)(hd1:(a==("__debug__":Str))=false:=by decide)(hd2:(a==("__classdict__":Str))=false:=by decide) : z6Q xa (λ_=>E0) (z2a (CXw xa P w) P w K mg base N qual scope f cd A outer s0 H0 E0) none [.Raise (some (.Call (.Name x np) [.Name a ap] [] cpos)) (some (.Constant .none j kp)) pos] hpos (wRz i):=by
 intro ok pins σ H1 H h1 s D ea c hd ρ S W E J mk u fl fr en rp ⟨hc,n,hn,hw⟩ cs;refine codeAny_handlers_suite ?_;refine zb5 (P:=P) (w:=w) (fr:=frs (PyProof.Rows.envOfC qual scope s0.heap.objs.size f cd::outer)) (H1:=H1) (H':=H) (h1:=h1) (base:=base) (env:=PyProof.Rows.envOfC qual scope s0.heap.objs.size f cd) (outer:=outer) J.stack u J.hok (λb hb=>⟨J.stkFree b hb,.inl hb⟩) (λb hb=>hb) fl λh3 u3 k3 f3=>?_;obtain⟨⟨_,hna,_,oe,vs,_,_,_,g1,⟨g2,_⟩,g3,_⟩,oe',gx,gd,vs',gv,gc⟩:=id f3;rw[g1]at gx;cases gx;rw[g3]at gv;cases gv;have hv2:=gc (by unfold xd;rw[hc];rfl);have J4:=zeA (z35 (mk h3 u3 k3) fr hna (o:=.ext λh=>h.get? ea=some oe) ⟨g1,⟨_,g1⟩,λa b z k=>k _ z⟩);refine wpAny_passesOwnAt (A:=A.deeper (PyProof.Rows.envOfC qual scope s0.heap.objs.size f cd)) (E:=(z2a (CXw xa P w) P w K mg base N qual scope f cd A outer s0 H0 E0).xe) PassesOwnAt.leaving ?_;refine wpAny_execs_cons (y0B (Q:=λ_ _=>False) ?_ (λ_ _ z=>z.elim) λ_ _ z=>z);rw[arm_exec_Raise];refine y00 (y1d (z8u (y00 (y0B ?_ (λv s5 h5=>y00 (y1d (y03 h5))) λ_ _ z=>z))));refine y15 (z23 J4 hg (T.mgx x 7 hx) ?_ hdb);obtain⟨v,hσ,hv0⟩:=en.2 i _ hn;obtain rfl:=urI hv0;refine y1O (h₀:=base) J4.ok.mod.kin G.kp (thn ((z1a (z4q hN hv hd1 hd2) z2z) cpos pins _ σ _ (λvs H5=>vs=[.int n]/\H5=upd H ea (.ext λh=>h.get? ea=some oe)) J4 ⟨_,hσ,rfl,rfl⟩) λus s5 ⟨vs5,H5,I5,r5,e5,eH5⟩=>⟨I5.kIn,?_⟩) rfl rfl;subst e5 eH5;obtain⟨u0,rfl,tk,rfl⟩:=z1q r5;obtain⟨bmB,B,newId,initId,he,hB⟩:=T.exc x 7 hx;refine zhF G rfl he hB hr I5 λe dx t H' s' hHe hHdx hne fre h0e eH I'=>?_;subst eH;have hea:ea≠e:=λz=>by rw[<-z,z0a]at hHe;cases hHe
 have hdea:ea≠dx:=λz=>by rw[<-z,z0a]at hHdx;cases hHdx
 have ox:=z4u (a:=e) I' (by rw[z0c (y0N hne),z0a];rfl);have oea:=z4u (a:=ea) I' (by rw[z0c hdea,z0c hea,z0a]);obtain⟨_,_,_,_,_,_,_,_,_,_,_,_,_,_,_,hC,_,_,ht,_⟩:=z9M I'.kIn he;obtain⟨hp,g,d,tk',os⟩:=s';show wpAny _ _ (raiseStmt _ _ (some (do let v <-eval (.Constant .none j kp) _;standAt pos;pure v))) _ _ _
 refine z8t (λq=>y00 (PyProof.Rows.Constant_none (y00 (y1d (y03 q))))) hC (z5j ht hB.hasBase) rfl hea ox oea g3 hv2 λh9 k9 e9=>?_;have nx:upd H ea (.ext λh=>h.get? ea=some oe) dx=none:=hHdx;have I9:Inv (z2a (CXw xa P w) P w K mg base N qual scope f cd A outer s0 H0 E0) pins σ (upd (upd H ea (.ext λh=>h.get? ea=some oe)) dx (atO dx n)) ⟨h9,g,d,tk',os⟩:=by
  refine zci ok (zdZ (t':=tk') I' fre (.inr ⟨_,by rw[z0c (y0N hne),z0a];rfl⟩) (λb hb=>?_) (λb u hb z=>(k9 b hb).trans z) λo z=>?_)
  .by_cases z:b=dx
   .rw[z,z0a,z0a]
   .rw[z0c z,z0c z,z0c hb]
  .rw[z0c (y0N hne),hHe]at z;cases z
 have s4:Same H (upd H ea (.ext λh=>h.get? ea=some oe)):=Gu.same_up (Same.refl H) hna;have kp:=(Kp.same s4).trans (Kp.new (o:=atO dx n) nx);have r4:=rp.same s4;refine zk5 (c:=dx+16) I9 (.inl ?_) ⟨_,e9,by rw[(z43 dx).2],_,rfl,λz=>by rw[(z43 dx).2]at z;cases z⟩ (cs.ex e (dx+16) ρ σ _ _ kp (en.mono kp) (r4.up (o:=.thg _) (Kp.new nx) (.inl nx) ⟨z0a,rfl⟩) (hw dx (r4.none nx)));rw[(z43 dx).1];exact⟨h0e,by rw[z0c (y0N hne)];exact hHe,_,_,_,e9,⟨rfl,rfl⟩,rfl,rfl⟩
end
structure Xe(K:yyF)(xa:Nat->Addr)(L:List (Str × Nat)):Prop where
 ef:∀x c,L.lookup x=some c->ExF K (xa c)
 ko:∀x c y d,L.lookup x=some c->L.lookup y=some d->PySem.W.kitOne K (.ref (xa c)) (.ref (xa d))=some (z6A c d)
 kv:∀x c,L.lookup x=some c->PySem.W.kitOne K (.ref (xa c)) (.type "ValueError")=some true
section
variable{X:Cx}{xa:Nat->Addr}{L:List (Str × Nat)}{c:Nat}
def zbU{pins:yyP}{σ:St}{H:Hp}{s:Shared}{ea:Addr}(I:Inv X pins σ H s)(h:H ea=some (z7I xa c ea))(hd:∀dx,xd c=some dx->∃n,H dx=some (atO dx n)):∃ox od,PySem.W.InstAt s.heap ea ox (xa (xn c)) od:=by
 obtain⟨oe,vs,h1,h2,h3,h4⟩:=z4u I h;have no:PySem.W.notCls oe=true:=by unfold PySem.W.notCls;rw[h3]
 cases z:xd c with
 |none=>exact⟨oe,none,h1,h2,no,by rw[h4,z];trivial⟩
 |some dx =>
  obtain⟨n,q⟩:=hd dx z;obtain⟨tk,hn⟩:=z4u I q;obtain⟨od,J,_⟩:=z3J hn;exact⟨oe,some od,h1,h2,no,by rw[h4,z];exact J⟩
def zlD(X:Cx)(xa:Nat->Addr):List V->Hp->VK->Prop:=λxs H Q=>∃ea c cv b u,xs=[.ref ea,cv]/\H ea=some (z7I xa c ea)/\(∀dx,xd c=some dx->∃n,H dx=some (atO dx n))/\ExF X.K (xa (xn c))/\(∀w,z0y cv w->w=u)/\PySem.W.kitOne X.K (.ref (xa (xn c))) u=some b/\Q (.bl b) H
def zjr:z0G X (.builtin "isinstance") (zlD X xa):=by intro pins s σ H xs us Q I r ⟨ea,c,cv,b,u,hx,h1,h2,F,hu,k,q⟩;subst hx;obtain⟨w1,w2,rfl,r1,r2⟩:=zaw r;obtain rfl:w1=Value.ref ea:=r1;obtain rfl:=hu _ r2;exact y0R (zd1 F) I.kIn (zbU I h1 h2) k (λz=>nomatch z) λtk=>⟨.bl b,H,I.tok tk,rfl,q⟩
def zkl(xa:Nat->Addr)(L:List (Str × Nat))(b:Nat->Bool)(t:WE):WE:=λρ S Q E=>t ρ S (λu S1=>∃ea c,u=.ref ea/\S1 ea=some (.thg (z7I xa c ea))/\(∃y,L.lookup y=some (xn c))/\(∀dx,xd c=some dx->∃n,S1 dx=some (.thg (atO dx n)))/\Q (.bl (b c)) S1) E
def wAt(xa:Nat->Addr)(t:WE):WE:=λρ S Q E=>t ρ S (λu S1=>∃ea dx n,u=.ref ea/\S1 ea=some (.thg (z7I xa (dx+16) ea))/\S1 dx=some (.thg (atO dx n))/\Q (.int n) S1) E
end
section
variable{xa:Nat->Addr}{X:Cx}{xk:St->XK}{L:List (Str × Nat)}{e:Expr}{t:WE}{p q pos:Pos}{x:Str}{d:Nat}
def zjQ(T:Xe X.K xa L)(h7:L.lookup ("BadPage":Str)=some 7)(B:BpF X.K (xa 7))(he:SE xa X xk e t)(hb:attributeBase e "at" X.env (eval e X.env)=eval e X.env:=by rfl):SE xa X xk (.Attribute e "at" pos) (wAt xa t):=by
 intro pins s σ H Q I h;refine zaE hb (thn (he pins s σ H (λv H1=>∃ea dx n,v=.ref ea/\H1 ea=some (z7I xa (dx+16) ea)/\H1 dx=some (atO dx n)/\Q (.int n) H1) I ?_) λu s1 ⟨v,H1,I1,rv,ea,dx,n,ev,h1,h2,q⟩=>?_)
 .exact Lt.bind (R:=Ur) (f:=λ(u:U) ρ S1 Q E=>∃ea dx n,u=.ref ea/\S1 ea=some (.thg (z7I xa (dx+16) ea))/\S1 dx=some (.thg (atO dx n))/\Q (.int n) S1) h λhd ρ S Q E u v H1 e1 r1 u1 ⟨ea,dx,n,hu,h1,h2,q⟩ c1=>by subst hu;exact⟨ea,dx,n,urR u1,(r1.1 _ _ h1).1,(r1.1 _ _ h2).1,c1.ok _ _ _ _ (.refl _) r1 (by simp only[Ur]) q⟩
 .subst ev;obtain rfl:u=Value.ref ea:=rv;obtain⟨oe,vs,g1,g2,g3,g4⟩:=z4u I1 h1;obtain⟨tk,hn⟩:=z4u I1 h2;rw[(z43 dx).1]at g2;rw[(z43 dx).2]at g4;obtain⟨od,J,hl⟩:=z3J hn;have J:PySem.W.InstAt s1.heap ea oe (xa 7) (some od):=⟨g1,g2,by unfold PySem.W.notCls;rw[g3],by rw[g4];exact J⟩;exact zfn I1.kIn J (T.ef _ _ h7) (PySem.W.findObj_own B.hd B.na rfl (hl "at")) rfl ⟨.int n,H1,I1.tok _,⟨tk,rfl⟩,q⟩
def zdK{cv:V}{u:Value}{b:Nat->Bool}(T:Xe X.K xa L)(hX:PE X (.Name x q) (tC cv))(hu:∀w,z0y cv w->w=u)(hk:∀y c,L.lookup y=some (xn c)->PySem.W.kitOne X.K (.ref (xa (xn c))) u=some (b c))(he:SE xa X xk e t)(mi:X.mg "isinstance"=none)(hg:Gl X "isinstance":=by rfl)(hs:starEach [e,.Name x q] X.env=(false,eval e X.env)::starEach [.Name x q] X.env:=by rfl)(hpl:(backTo pos (starEach [.Name x q] X.env)).any (·.1)=false:=by rfl):SE xa X xk (.Call (.Name "isinstance" p) [e,.Name x q] [] pos) (zkl xa L b t) :=
 PE.weak (z5h zjr hg mi PyProof.Rows.boot_isinstance (z1a he (z1a hX z2z) hs) (by decide) (by decide) hs hpl) λσ H Q' h =>
  Lt.bind (R:=Ur) (f:=λ(u:U) ρ S1 Q E=>∃ea c,u=.ref ea/\S1 ea=some (.thg (z7I xa c ea))/\(∃y,L.lookup y=some (xn c))/\(∀dx,xd c=some dx->∃n,S1 dx=some (.thg (atO dx n)))/\Q (.bl (b c)) S1) h λhd ρ S Q E u' v H1 e1 r1 u1 ⟨ea,c,hu',h1,⟨y,hy⟩,h2,q⟩ c1=>by subst hu';obtain rfl:=urR u1;exact⟨ea,c,cv,b c,u,rfl,(r1.1 _ _ h1).1,λdx z=>let⟨n,w⟩:=h2 dx z;⟨n,(r1.1 _ _ w).1⟩,T.ef y _ hy,hu,hk y c hy,c1.ok _ _ _ _ (.refl _) r1 (by simp only[Ur]) q⟩
def z1i(T:Xe X.K xa L)(T':Xt X.K X.mg xa L)(hd:L.lookup x=some d)(he:SE xa X xk e t)(mi:X.mg "isinstance"=none)(hgx:Gl X x:=by rfl)(hg:Gl X "isinstance":=by rfl)(hdb:(x==("__debug__":Str))=false:=by decide)(hs:starEach [e,.Name x q] X.env=(false,eval e X.env)::starEach [.Name x q] X.env:=by rfl)(hpl:(backTo pos (starEach [.Name x q] X.env)).any (·.1)=false:=by rfl):SE xa X xk (.Call (.Name "isinstance" p) [e,.Name x q] [] pos) (zkl xa L (z6A · d) t) :=
 zdK T (zeC (v:=.ref (xa d)) hgx (T'.mgx x d hd) rfl hdb) (λ_ z=>z) (λy c hy=>by rw[T.ko y _ x d hy hd];unfold z6A;rw[zhu]) he mi hg hs hpl
def zhn(T:Xe X.K xa L)(he:SE xa X xk e t)(mi:X.mg "isinstance"=none)(mv:X.mg "ValueError"=none)(hgx:Gl X "ValueError":=by rfl)(hg:Gl X "isinstance":=by rfl)(hs:starEach [e,.Name "ValueError" q] X.env=(false,eval e X.env)::starEach [.Name "ValueError" q] X.env:=by rfl)(hpl:(backTo pos (starEach [.Name "ValueError" q] X.env)).any (·.1)=false:=by rfl):SE xa X xk (.Call (.Name "isinstance" p) [e,.Name "ValueError" q] [] pos) (zkl xa L (λ_=>true) t) :=
 zdK T (zau (v:=.ty "ValueError") hgx mv (u:=.type "ValueError") (by kernel_rfl) rfl) (λ_ z=>z) (λy c hy=>T.kv y _ hy) he mi hg hs hpl
end
section
variable{prog:Program}{w:World}{A:Around}{E:yyE}{s:Shared}
def zaQ(l:Addr)(items:Array Value)(n:Nat)(dct:Option Addr)(sl:Array (Option Value))(tk:Tok) : Meets (Builtin.«enumerate.__new__» ⟨[.type "enumerate",.ref l],[("start",.int 2 tk)]⟩) (λ_ R s=>s.heap.get? l=some { cls:=.type "list",dict:=dct,data:=.seq items n,slots:=sl } /\ R (.ok (.ret (.ref (s.heap.push { cls:=.type "list_iterator",data:=.fields #[.ref l,.int 0 0] }).objs.size))) { s with heap:=(s.heap.push { cls:=.type "list_iterator",data:=.fields #[.ref l,.int 0 0] }).push { cls:=.type "enumerate",data:=.fields #[.none,.bool false,.ref s.heap.objs.size,rawInt 2,.none,.none] } }) :=
 .of_wp λprog w A R s h=>by
  obtain⟨hp,g,d,tk,os⟩:=s;obtain⟨hl,h⟩:=h;have hsub:=sub_enumerate;have hL:Heap.IsList (Shared.heap ⟨hp,g,d,tk,os⟩) l items:=⟨_,hl,rfl,n,rfl⟩
  wp_walk using y1W hl
  refine wpAny_stack_any λst=>y03 ?_;split
  .rename_i c _ _ _ _ _;cases(c==Value.type "enumerate")
   .wp_walk using y1W hl,y0X hL
    exact⟨_,rfl,h⟩
   .wp_walk using y1W hl,y0X hL
    exact⟨_,rfl,h⟩
  .wp_walk using y1W hl,y0X hL
   exact⟨_,rfl,h⟩
def z9o{self a b:Value}:Meets (Builtin.«object.__init__» ⟨[self,a],[("start",b)]⟩) (λ_ R s=>s.TypeIs self "enumerate"/\R (.ok (.ret .none)) s):=by
 refine Meets.of_wp λprog w A R s hs=>?_;obtain⟨hT,hq⟩:=hs;have hl:=F.slot_enumerate_init.lookup;have hm:=F.called_enumerate.made;have hne:(some "enumerate.__new__" != some "object.__new__")=true:=by decide
 repeat (any_goals (first|assumption|wp_step))
 exact⟨_,rfl,hq⟩
def z8E{l:Addr}{items:Array Value}{tk:Tok}{Q:yyE}(hL:s.heap.IsList l items)(h:∀h',IsEnum h' (s.heap.objs.size+1) s.heap.objs.size 2 .none->h'.IsListIter s.heap.objs.size l 0->(∀b o,s.heap.get? b=some o->h'.get? b=some o)->Q (.ref (s.heap.objs.size+1)) { s with heap:=h' }) : wpAny (model prog w) A (call (.type "enumerate") [.ref l] [("start",.int 2 tk)]) Q E s:=by
 obtain⟨⟨c,dct,dt,sl⟩,hl,hc,n,hd⟩:=hL;replace hc:c=.type "list":=hc;replace hd:dt=.seq items n:=hd;subst hc hd;have ft:=F.called_enumerate;obtain⟨c,tl,hmro⟩:=ft.mro;have hmade:=ft.made;have hsub:=ft.sub;have hct:checkTypeCall "enumerate" ⟨[.ref l],[("start",.int 2 tk)]⟩=pure ():=by kernel_rfl
 have hcn:checkBuiltinCall "enumerate.__new__" ⟨[.type "enumerate",.ref l],[("start",.int 2 tk)]⟩=pure ():=by kernel_rfl
 refine y2l (codeAny_of_tree ?_);show wpAny _ _ (callAny (.type "enumerate") _) _ _ _;refine y03 ⟨Code.quiet_builtin _ (by decide +kernel),y3k F.entry_type_call ?_⟩;rw[Around.under_plain (weight_type_call_type "enumerate" [.ref l] [("start",.int 2 tk)]) (units_type_call_type "enumerate" [.ref l] [("start",.int 2 tk)])];have h1:=ft.notType;have h2:=ft.canCreate;repeat (any_goals (first|assumption|wp_step))
 have hz:(s.heap.push { cls:=.type "list_iterator",data:=.fields #[.ref l,.int 0 0] }).objs.size=s.heap.objs.size+1:=y1w ..;let R:Result->Shared->Prop:=λr s'=>r=.ok (.ret (.ref (s.heap.objs.size+1)))/\s'={ s with heap:=(s.heap.push { cls:=.type "list_iterator",data:=.fields #[.ref l,.int 0 0] }).push { cls:=.type "enumerate",data:=.fields #[.none,.bool false,.ref s.heap.objs.size,rawInt 2,.none,.none] } };have hR:codeAny (model prog w) A.in1 (.call (.builtin "enumerate.__new__") ⟨[.type "enumerate",.ref l],[("start",.int 2 tk)]⟩) R s:=y2n ft.plain F.entry_enumerate_new (wpAny_of_eq hcn (zaQ l items n dct sl tk prog w A.in1 R s (y3s hl (y3s (by rw[hz]) rfl))));refine y1N hR λr s1 hr=>?_;obtain⟨rfl,rfl⟩:=hr;have he:IsEnum ((s.heap.push { cls:=.type "list_iterator",data:=.fields #[.ref l,.int 0 0] }).push
   { cls:=.type "enumerate",data:=.fields #[.none,.bool false,.ref s.heap.objs.size,rawInt 2,.none,.none] }) (s.heap.objs.size+1) s.heap.objs.size 2 .none:=by
  have:=y04 (s.heap.push { cls:=.type "list_iterator",data:=.fields #[.ref l,.int 0 0] }) (o:={ cls:=.type "enumerate",data:=.fields #[.none,.bool false,.ref s.heap.objs.size,rawInt 2,.none,.none] }) rfl;rw[hz]at this;exact this
 have hq:=h _ he ⟨_,y02 _ (y04 _ rfl),rfl,rfl⟩ λb o x=>y02 _ (y02 _ x);have hT:(⟨(s.heap.push { cls:=.type "list_iterator",data:=.fields #[.ref l,.int 0 0] }).push { cls:=.type "enumerate",data:=.fields #[.none,.bool false,.ref s.heap.objs.size,rawInt 2,.none,.none] },s.gens,s.drawn,s.toks,s.os⟩:Shared).TypeIs (.ref (s.heap.objs.size+1)) "enumerate":=⟨_,he,rfl⟩;have hli:=ft.init.lookup;have hbi:=ft.init.bind (.ref (s.heap.objs.size+1));have hok:argsOk "object.__init__" ⟨[.ref (s.heap.objs.size+1),.ref l],[("start",.int 2 tk)]⟩:=by unfold argsOk;kernel_rfl
 have hI:∀{B:Around} {s1:Shared} {R:Result->Shared->Prop},s1.TypeIs (.ref (s.heap.objs.size+1)) "enumerate"->R (.ok (.ret .none)) s1->codeAny (model prog w) B (.call (.builtin "object.__init__") ⟨[.ref (s.heap.objs.size+1),.ref l],[("start",.int 2 tk)]⟩) R s1:=λhT hr=>y2n ft.init.plain F.entry_object_init (ft.init.check _ _ _ _ _ _ _ _ hT hok (z9o prog w _ _ _ (y3s hT hr)));repeat (any_goals (first|assumption|wp_step))
 refine hI hT ?_;repeat (any_goals (first|assumption|wp_step))
end
end W
namespace W
open PySem L2 PySem.SeqAt PySem.Spec PyProof.Rows
variable[WW]
def zfw{prog:Program}{w:World}{A:Around}{it:Addr}{fp:List Addr}{n:Nat}{P:Nat->Value->Prop}{St:Nat->Heap->Prop}(D:Draws prog w A it fp n P St):Draws prog w A it fp (n+2) (λi v=>P (i-2) v) (λi h=>2<=i/\St (i-2) h) where
 live:=λ_ _ st=>D.live _ _ st.2
 frame:=λ_ _ _ st k=>⟨st.1,D.frame _ _ _ st.2 k⟩
 item:=λi s Q E hi st hQ=>D.item (i-2) s Q E (by lia) st.2 λx h' tk p st' sb=>hQ x h' tk p ⟨by lia,by rw[show i+1-2=i-2+1 by lia];exact st'⟩ sb
 done:=λs Q E st hE=>D.done s Q E (by simpa using st.2) hE
def zfe(K:yyF)(a:Addr):It :=
 ⟨λi H=>∃xs x,SqL K H a xs/\xs[i]?=some x,λi H x H'=>∃p y,x=.ref p/\H p=none/\(∀xs,SqL K H a xs->xs[i]?=some y)/\H'=upd H p (.tup [.int (i+2:Nat),y]),λi H=>∃xs,SqL K H a xs/\xs.length<=i⟩
def z73{P:Program}{w:World}{K:yyF}{elts:List Expr}{k:Nat}{tp:Pos}(a it e:Addr)(hne:e≠it) : z9w P w K (.Tuple elts k tp) (zfe K a) [e,it] e (λi h=>(∃old,IsEnum h e it (i+2:Nat) old)/\h.IsListIter it a i) where
 mem:=by simp
 obj:=λi h st b hb=>by
  obtain⟨⟨old,he⟩,⟨o,ho,hc,hd⟩⟩:=st;rcases y0k.mp hb with z|z
  .subst z;exact⟨_,he,λv z=>by cases z⟩
  .have z:=y0q.mp z;subst z;exact⟨o,ho,λv z=>by rw[hd]at z;cases z⟩
 keep:=λi h h' st k=>by obtain⟨⟨old,he⟩,⟨o,ho,c⟩⟩:=st;exact⟨⟨old,k e (by simp) _ he⟩,⟨o,k it (by simp) _ ho,c⟩⟩
 item:=by
  intro X hP hw hK hc i pins s σ H E I hf st hg;subst hP hw hK;obtain⟨xs,x,hq,hx⟩:=hg;obtain⟨its,rv,p,hz⟩:=I.list hq;obtain⟨u,hu,ru⟩:=rv.get hx;obtain⟨⟨old,he⟩,hit⟩:=st;have hai:a≠it:=λz=>by obtain⟨o,e1,c1,_⟩:=id p.isList;obtain⟨o2,e2,c2,_⟩:=id hit;rw[z,e2]at e1;cases e1;rw[c2]at c1;exact absurd c1 (by intro h;injection h with h;exact absurd h (by decide))
  have hae:a≠e:=λz=>by obtain⟨o,e1,c1,_⟩:=id p.isList;rw[z,he]at e1;cases e1;exact absurd c1 (by intro h;injection h with h;exact absurd h (by decide))
  have lt:i<its.toArray.size:=by have:=(y0z.mp hu).1;simpa using this
  have D:=zfw (Draws.list (prog:=X.prog) (w:=X.w) (A:=X.A.in1) (I.ok.hd hc) it a hai its.toArray);refine wpAny_pyNext_enum_itemD D he ⟨by lia,hit,p.isList⟩ (by lia) hne (by simp[hne,y0N hae]) λy h' tk hy ho hst hT hsz hk=>?_;have hyu:y=u:=by
   have e1:its.toArray[i]?=some u:=by simpa using hu
   exact(y06 (e1.symm.trans hy)).symm
  subst hyu;refine⟨_,rfl,?_⟩;refine wpAny_letOwnedTupleGo_enum ho λh2 he2 hs2=>?_;have hp0:H s.heap.objs.size=none:=I.fresh;have elt:e<s.heap.objs.size:=y05 he;have ilt:it<s.heap.objs.size:=by obtain⟨o,e2,_⟩:=hit;exact y05 e2
  have kk:∀b o,b≠e->b≠it->s.heap.get? b=some o->h2.get? b=some o:=λb o h1 h3 q=>(hs2.2 b h1).trans (hk b o h1 h3 q);obtain⟨e0,e1,e2,e3,e4,e5⟩:=hf e (by simp);obtain⟨i0,i1,i2,i3,i4,i5⟩:=hf it (by simp);have I1:Inv X pins σ (upd H s.heap.objs.size (.tup [.int (i+2:Nat),x])) { s with heap:=h2,toks:=tk+1 }:=by refine I.turnedNew (ch:=[e,it]) (λb u hb q=>kk b u (λz=>hb (by simp[z])) (λz=>hb (by simp[z])) q) (y09 _) ?_ (λb hb=>hf b hb);have nT:s.heap.objs.size≠e:=y3o elt;exact⟨by show 2<=sizeLine;decide,[.int (i+2:Nat) tk,y],0,.cons ⟨tk,rfl⟩ (.cons ru .nil),(hs2.2 _ nT).trans hT⟩
  refine⟨.ref s.heap.objs.size,_,I1,rfl,⟨s.heap.objs.size,x,rfl,hp0,λys hy=>by rw[I.list_inj hy hq];exact hx,rfl⟩,⟨⟨y,by rw[show((i+1+2:Nat):Int)=((i+2:Nat):Int)+1 by lia];exact he2⟩,?_⟩,λb hb=>?_⟩
  .obtain⟨_,⟨o,e9,c9⟩,_⟩:=hst;exact⟨o,(hs2.2 it (y0N hne)).trans e9,c9⟩
  .have hb0:=(hf b hb).1;have:b≠s.heap.objs.size:=by
    rcases y0k.mp hb with z|z
    .rw[z];exact y0i elt
    .rw[y0q.mp z];exact y0i ilt
   rw[z0c this];exact hb0
 done:=by
  intro X hP hw hK hc i pins s σ H E I hf st hg;subst hP hw hK;obtain⟨xs,hq,hx⟩:=hg;obtain⟨its,rv,p,hz⟩:=I.list hq;obtain⟨⟨old,he⟩,hit⟩:=st;have hlen:=rv.length;have hT:s.TypeIs (.ref e) "enumerate":=⟨_,he,rfl⟩;unfold pyNext;refine y00 (y3h (y0P (name:=Str.ofString "__next__") hT F.slot_enumerate_next
   (y0Q F.slot_enumerate_next hT F.entry_enumerate_next ?_ (F.args_enumerate_next_1 _))))
  show wpAny _ _ (field (.ref e) 2>>=_) _ _ _;refine y00 (y14 he rfl (x:=.ref it) rfl ?_);refine y00 (wpAny_nextOf_list_end (show X.A.in1.handled=none from I.ok.hd hc) hit p.isList (by simp;lia) λh' x he' hx'=>?_);obtain⟨o,ho,hcl⟩:=hx';refine y00 (wpAny_isInstance (T:="StopIteration") (b:=true) ⟨o,ho,hcl⟩ isSubtype_stop ?_);refine y03 ⟨rfl,?_⟩;exact I.turnedL (ch:=[it]) (t':=s.toks) (λb u hb q=>he' b u (λz=>hb (by simp[z])) q) (λb hb=>hf b (by rw[y0q.mp hb];simp))
 self:=λA i s Q E st h=>by obtain⟨⟨old,he⟩,_⟩:=st;exact wpAny_pyIter_enum he h
def z5f{M:Model}{A:Around}{E:yyE}{s:Shared}{env:Env}{pos:Pos}{T:String}{e:Expr}{kws:List Keyword}{Q:yyE}(h:wpAny M A (spliced (backTo pos (starEach [e] env))) (λvs s₁=>wpAny M A (evalAll ((backToKw pos (keywordEach kws env)).map (·.2))) (λkvs s₂=>wpAny M A (call (.type T) vs (((backToKw pos (keywordEach kws env)).filterMap (·.1)).zip kvs)) Q E s₂) E s₁) E s)(he:backTo pos (starEach [e] env)=[(false,eval e env)]:=by rfl)(hall:(backToKw pos (keywordEach kws env)).all (·.1.isSome)=true:=by rfl)(hkw:(backToKw pos (keywordEach kws env)).any (·.1.isNone)=false:=by rfl) : wpAny M A (callWith pos (.type T) [] (backTo pos (starEach [e] env)) (backToKw pos (keywordEach kws env))) Q E s:=by rw[he]at h⊢;unfold callWith;refine y00 (y0C (y0B (evalArgs_kwB (Q:=λa s₁=>wpAny M A (call (.type T) ([]++a.pos) a.kw) Q E s₁) hall h) (λa s₁ h₁=>y00 (y1d ?_)) λ_ _ x=>x));simp only[hkw,y3e,List.any_nil,Bool.or_false];refine y00 (y03 ?_);exact y00 (y0B h₁ (λr s₂ hr=>y00 (y0C (wpAny_point (y03 hr)))) λ_ _ x=>x)
def fES(us:List U)(S:Sto)(R:Rk):Prop:=match us with
 |[.ref a]=>∃L,isL S a L/\R (en 2 L) (λS=>isL S a L) S
 |_=>False
def zcw{K:yyF}{H0:Hp}{a:Addr}{L:List U}:ItR H0 (zfe K a) (en 2 L) (λS=>isL S a L):=by
 constructor
 .intro hd i H S x k r ck hx;obtain⟨y,h1,rfl⟩:=ze2 hx;obtain⟨vs,e,l⟩:=ck.of (K:=K) r;obtain⟨v,g1,k1⟩:=l.get h1;refine⟨⟨vs,v,e,g1⟩,λv' H' hz8=>?_⟩;obtain⟨p,y,e1,hp,q1,e2⟩:=hz8;have z1:=q1 vs e;rw[g1]at z1;cases z1;subst e1 e2;rw[Nat.add_comm 2 i];exact z7B hp r uI k1
 .intro hd i H S k r ck hi;obtain⟨vs,e,l⟩:=ck.of (K:=K) r;rw[z9X]at hi;exact⟨vs,e,by rw[<-l.len];lia⟩
section
variable{xa:Nat->Addr}{X:Cx}{xk:L2.St->XK}{a:Expr}{ta:WA}{p pos kp cp:Pos}{elts:List Expr}{tk j:Nat}{tp:Pos}
def zjm(hm:X.mg "enumerate"=none)(ha:SA xa X xk [a] ta)(hg:Gl X "enumerate":=by rfl)(hs:starEach [a] X.env=[(false,eval a X.env)]:=by rfl):SI xa xk X (.Tuple elts tk tp) (.Call (.Name "enumerate" p) [a] [⟨some "start",.Constant (.int 2) j cp,kp⟩] pos) (wRg fES ta):=by
 intro pins s σ H R' I q;refine y15 (z3Q I hg hm boot_enumerate (z5f (thn (ha pos pins s σ H (λvs H1=>∃a:Addr,vs=[.ref a]/\(∃xs,SqL X.K H1 a xs)/\R' (zfe X.K a) H1) I ?_) λus s1 ⟨vs,H1,I1,r1,q1⟩=>?_) (by rw[hs];rfl)))
 .exact LtI.of (f:=fES) q λhd S R u v H1 r1 u1 q1 c1=>by
   unfold fES at q1;split at q1
   .obtain⟨v,rfl,g1⟩:=z4p u1;obtain rfl:=urR g1;obtain⟨L,h1,q⟩:=q1;obtain⟨vs,e,_⟩:=h1.of (K:=X.K) r1;exact⟨_,rfl,⟨_,e⟩,c1 _ _ S _ H1 (.refl _) r1 zcw q⟩
   .exact q1.elim
 .obtain⟨a,e,⟨xs,hq⟩,q⟩:=q1;subst e;obtain⟨u,rfl,ru⟩:=z1q r1;cases ru;obtain⟨its,rv,pl,hz⟩:=I1.list hq;refine kws_cons (thn (zdQ pins s1 σ H1 (λv H2=>v=.int 2/\H2=H1) I1 ⟨rfl,rfl⟩) λu s2 ⟨v,H2,I2,r2,ev,eH⟩=>kws_nil ?_);subst ev eH;obtain⟨tk2,rfl⟩:=r2;obtain⟨its2,rv2,pl2,hz2⟩:=I2.list hq;refine z8E pl2.isList λh' he hit hk=>wpAny_pyIter_enum he ?_;have I3:Inv X pins σ H2 { s2 with heap:=h' }:=I2.kept (t':=s2.toks) hk;refine⟨s2.heap.objs.size+1,[s2.heap.objs.size+1,s2.heap.objs.size],_,_,H2,rfl,I3,z73 a s2.heap.objs.size (s2.heap.objs.size+1) (show @Ne Nat _ _ by lia),⟨⟨_,he⟩,hit⟩,λb hb=>?_,q⟩;have hb':s2.heap.objs.size<=b:=by
   rcases y0k.mp hb with z|z
   .have z:@Eq Nat b (s2.heap.objs.size+1):=z;lia
   .rw[y0q.mp z];exact y09 _
  exact I2.fpOk hb' (I2.hok.fresh hb')
end
end W
namespace W
open PySem L2 PySem.SeqAt PySem.Spec Gu
variable[WW]{Z:Zx}
structure Te(Z:Zx):Prop where
 e:Xe Z.K Z.xa xL
 b:BpI Z.K (Z.xa 7) (Z.xa 15) z8D
 v:Z.mg "ValueError"=none
def rz{k:Nat}{A:Around}(h:z1o k A)(hk:5<=k:=by decide):A.depth+20<recursionLimit:=by have:=h.dp;lia
inductive Sh:Bool->Nat->List Str->Prop
 |w:Sh false 0 ["wear a a"]
 |d {l}:Sh false 0 ("drop a"::l)
 |h {n l}:Sh true n l->Sh false (n+1) ("hang a - 1"::l)
 |u {n l}:Sh false n l->Sh true (n+1) ("unhang a"::l)
inductive sRP(Z:Zx):Wsp
 |mk {S Q E} (t:Str) (ls:List Str) (n:Nat):Txt.split t "\n"=("letters 2":Str)::ls->Sh false n ls->ls.length<=20->t.length<=1000->MdR Z->Md Z S->(∀dx S',S' dx=some (.thg (atO dx ((2+n:Nat):Int)))->E (dx+16) S')->sRP Z [.str t] S Q E
inductive iRP(Z:Zx)(m:Nat)(v0 v1:Option U)(ll:Addr)(al:List U):List U->En->Sto->Prop
 |mk {S1} (b:Bool) (k n:Nat) (l:List Str) (p d x y:Addr) (th:List (U × U)) (dn:List U) (v4 v5:Option U):Sh b n l->k+n=m->isL S1 ll al->Hs Z S1 p d x y 2 th dn []->(ll≠p/\ll≠d/\ll≠x/\ll≠y)->dn.length<=k->th.length<=k->k+l.length<=30->(z0t th (ks "peg" "a")).isSome=b->z0t th (ks "guise" "a")=none ->
  iRP Z m v0 v1 ll al (en k (l.map .str)) [v0,v1,some (.ref ll),some (.ref p),v4,v5] S1
def zgX:z2G Z "drop a" (some [.str "drop",.str "a"]):=by have h:=@z2G.mk Z "drop a" "drop" ["a"] ["a"] ["name"] (some [.str "a"]) (by decide +kernel) (by decide +kernel) (by decide +kernel) (.cons (.nm (by decide +kernel) (by decide +kernel)) .nil);exact h
def zim:z2G Z "unhang a" (some [.str "unhang",.str "a"]):=by have h:=@z2G.mk Z "unhang a" "unhang" ["a"] ["a"] ["name"] (some [.str "a"]) (by decide +kernel) (by decide +kernel) (by decide +kernel) (.cons (.nm (by decide +kernel) (by decide +kernel)) .nil);exact h
def zgW:z2G Z "wear a a" (some [.str "wear",.str "a",.str "a"]):=by have h:=@z2G.mk Z "wear a a" "wear" ["a","a"] ["a","a"] ["name","name"] (some [.str "a",.str "a"]) (by decide +kernel) (by decide +kernel) (by decide +kernel) (.cons (.nm (by decide +kernel) (by decide +kernel)) (.cons (.nm (by decide +kernel) (by decide +kernel)) .nil));exact h
def zhG:z2G Z "hang a - 1" (some [.str "hang",.str "a",uI' [],uI' [1]]):=by
 have h:=@z2G.mk Z "hang a - 1" "hang" ["a","-","1"] ["a","-","1"] ["name","word","ring"] (some [.str "a",.tup [],.tup ((sg "1").map λc:Nat=>U.int ((c:Int)-48))]) (by decide +kernel) (by decide +kernel) (by decide +kernel) (.cons (.nm (by decide +kernel) (by decide +kernel)) (.cons .wd0 (.cons (.rg (by decide +kernel) (by decide +kernel)) .nil)));have e:((sg "1").map λc:Nat=>U.int ((c:Int)-48))=[.int 1]:=by rw[show sg "1"=[49]by decide +kernel];rfl
 rw[e]at h;exact h
def z1Y(u:U):eqU u u=true:=z7v.mpr rfl
def zfP(th:List (U × U))(k v k':U):z0t (th++[(k,v)]) k'=(z0t th k').or (if k'=k then some v else none):=by
 induction th with
 |nil =>
  show cond (eqU k k') (some v) none=_;by_cases e:k=k'
  .subst e;rw[z1Y];simp[z0t]
  .rw[z1b e];simp[z0t,y0N e]
 |cons p th ih =>
  rw[y2t];unfold z0t;cases eqU p.1 k' with
  |true=>rfl
  |false=>exact ih
def zf7(th:List (U × U))(k v k':U):z0t (th.map λp=>cond (eqU p.1 k) (p.1,v) p) k'=if k'=k then(z0t th k).map λ_=>v else z0t th k':=by
 induction th with
 |nil=>simp[z0t]
 |cons p th ih =>
  rw[y0o];unfold z0t;by_cases e:p.1=k
  .rw[e,z1Y];by_cases e':k=k'
   .subst e';rw[if_pos rfl];show cond (eqU k k) _ _=_;rw[z1Y];rfl
   .rw[if_neg (y0N e')];show cond (eqU k k') _ _=cond (eqU k k') _ _;rw[z1b e'];show z0t _ k'=z0t th k';rw[ih,if_neg (y0N e')]
  .rw[z1b e];show cond (eqU p.1 k') _ _=if k'=k then(cond false _ (z0t th k)).map _ else _;by_cases e':p.1=k'
   .rw[e',z1Y,if_neg (by rw[<-e'];exact e)];rfl
   .rw[z1b e'];exact ih
def z75(th:List (U × U))(k v k':U):z0t (z40 th k v) k'=if k'=k then some v else z0t th k':=by
 unfold z40;cases h:z0t th k with
 |none =>
  show z0t (th++[(k,v)]) k'=_;rw[zfP];by_cases e:k'=k
  .subst e;rw[h,if_pos rfl];rfl
  .rw[if_neg e,if_neg e];cases z0t th k'<;>rfl
 |some u =>
  show z0t (th.map _) k'=_;rw[zf7,h];rfl
def zao(th:List (U × U))(k k':U):z0t (z90 th k) k'=if k'=k then none else z0t th k':=by
 unfold z90;induction th with
 |nil=>simp[z0t]
 |cons p th ih =>
  rw[y34];by_cases e:p.1=k
  .rw[e,z1Y];show z0t (th.filter _) k'=_;rw[ih];by_cases e':k'=k
   .rw[if_pos e',if_pos e']
   .rw[if_neg e',if_neg e'];show _=cond (eqU p.1 k') _ _;rw[e,z1b (y0N e')];rfl
  .rw[z1b e];show cond (eqU p.1 k') _ (z0t (th.filter _) k')=_;rw[ih];by_cases e':k'=k
   .subst e';rw[if_pos rfl,if_pos rfl,z1b e];rfl
   .rw[if_neg e',if_neg e'];rfl
def z7Z{a b c d:Str}(h:ks a b=ks c d):a=c/\b=d:=by simpa[ks]using h
def zeg(th:List (U × U))(k:U):(z90 th k).length<=th.length:=y31 _ _
def But.l{d x y:Addr}{S S':Sto}{a:Addr}{us:List U}(b:But d x y S S')(h:isL S a us)(n:a≠d/\a≠x/\a≠y):isL S' a us:=h.elim (λz=>.inl (b _ _ z n.1 n.2.1 n.2.2)) λz=>.inr (b _ _ z n.1 n.2.1 n.2.2)
def z2E{th:List (U × U)}{k v:U}:(z2f th k v).length<=th.length+1:=by
 unfold z2f;cases isN v
 .exact z5n _ _ _
 .exact Nat.le_succ_of_le (zeg _ _)
def z61(T:Z.Tx)(JK:Z.f "house_begun" 3 (sHB Z))(Vd:Z.f "do_deed" 10 (zgs Z))(Jn:Z.f "read_line" 5 (zj6 Z))(Tz:Te Z)(D:Z.fd "read_page" z3E ["text"]):Z.f "read_page" 12 (sRP Z):=by
 refine wF ["text","first","lines","house","at","line"] D (λf cdv A outer s H E hr nd=>z04 (z1k (zea (z01 0) (z00 z0e z02)) (za2 rfl (z0b (z08 1 nd) (z7H (z08 2 nd) z0u)))) (z04 (z0n 3 nd (z09 JK (hr.mono (by decide)) z0g (z00 (z01 1) z02))) (z04 (z1U y0x rfl (zjm (T.b _ (by decide)) (z00 (z01 2) z02)) (z0F rfl (z0b (z08 4 nd) (z0b (z08 5 nd) z0u))) (z03 (za7 T.x rfl rfl rfl rfl rfl (λpn E1 xk hx=>(z03 (z0d (z09 Vd (hr.mono (by decide)) hx (z00 (z01 3) (z00 (z09 Jn (hr.mono (by decide)) hx (z00 (z01 5) z02)) z02)))))) (z6G 4 T.x rfl Tz.b (rz hr))))) (z03 (z0l (z01 3)))))) (λus S Q E h=>by cases h<;>rfl) ?_;rintro _ S Q E ⟨t,ls,n,hsp,hsh,hl,ht,R,M,q⟩;have hne:ls≠[]:=by rintro rfl;cases hsh
 refine⟨trivial,by decide,y0e (y3c ht 2) (by decide),λD hD=>?_⟩;rw[hsp];refine⟨.str "letters 2",ls.map .str,.inl z05,λll hll=>?_⟩;refine .mk M.any λp d x y S1 hs1 k1=>?_;have hl1:S1 ll=some (.lst (ls.map .str)):=k1 _ _ z05;refine⟨_,.inl hl1,?_⟩;refine z2b (iRP Z (2+n) _ _ ll (ls.map .str)) (.mk false 2 n ls p d x y [] [] _ _ hsh rfl (.inl hl1) hs1 ?_ (by decide) (by decide) (by lia) rfl rfl) ?_ ?_
 .obtain⟨g1,g2,g3,g4,_⟩:=hs1;refine⟨?_,?_,?_,?_⟩<;>rintro rfl<;>simp_all
 .rintro ρ S2 h;generalize e:([]:List U)=L at h;obtain⟨b,k,n',l,p,d,x,y,th,dn,v4,v5,sh,_⟩:=h;have z:=y1M List.length e;rw[z9X,y01]at z;cases sh<;>cases z
 .rintro u L ρ S2 h ih;generalize e:u::L=L0 at h;obtain⟨b,k,n',l,p,d,x,y,th,dn,v4,v5,sh,hk,hl,hs,hn,hdn,hth,hkl,hb,hg⟩:=h;cases sh with
  |w =>
   cases e;refine⟨hl,rfl,.mk "wear a a" _ R M.any (by decide +kernel) zgW (λus h S3 e3=>?_) (λz=>by cases z)⟩;cases h;have no:z0t th (ks "peg" "a")=none:=by cases z:z0t th (ks "peg" "a")with
    |none=>rfl
    |some v=>rw[z]at hb;cases hb
   refine .wear p _ _ (.mk 2 "a" "a" (hs.ex e3) (by decide +kernel) (by decide +kernel) (by decide) (by lia) (by lia) (λv hv=>by rw[no]at hv;cases hv) (λv hv=>by rw[hg]at hv;cases hv) (λ_=>⟨⟨"NoPeg",rfl⟩,rfl,rfl,(k:Nat),rfl,λdx hdx=>q dx _ (by rw[z05,<-hk];rfl)⟩) (λz=>by rw[no]at z;cases z) (λ_ _ _ _ _ z=>by rw[no]at z;cases z))
  |d =>
   cases e;refine⟨hl,rfl,.mk "drop a" _ R M.any (by decide +kernel) zgX (λus h S3 e3=>?_) (λz=>by cases z)⟩;cases h;refine .drop p _ (.mk "a" (hs.ex e3) (by decide +kernel) (by lia) (λ_=>⟨⟨"NoGuise",rfl⟩,rfl,rfl,(k:Nat),rfl,λdx hdx=>q dx _ (by rw[z05,<-hk];rfl)⟩) (λz=>by rw[hg]at z;cases z))
  |h sh =>
   cases e;have no:z0t th (ks "peg" "a")=none:=by cases z:z0t th (ks "peg" "a")with
    |none=>rfl
    |some v=>rw[z]at hb;cases hb
   refine⟨hl,rfl,.mk "hang a - 1" _ R M.any (by decide +kernel) zhG (λus h S3 e3=>?_) (λz=>by cases z)⟩;cases h;refine .hang p _ _ _ (.mk "a" [] [1] (hs.ex e3) (by decide +kernel) (by decide) (by decide) (by decide) (by lia) (by lia) (λz=>absurd z (by decide +kernel)) (λ_ z=>by rw[no]at z;cases z) (λ_ _ z=>absurd z (by decide)) (λ_ _ _ e0 _ _ _ _ S4 hs4 b4=>ih _ _ (.mk true (k+1) _ _ p d x y _ _ _ _ sh (by lia) (b4.l (e3.l hl) hn.2) hs4 hn (by rw[y07];exact y1L hdn) (y0e z2E (y1L hth)) (by simp at hkl;lia) ?_ ?_)))
   .show(z0t (z40 th _ _) _).isSome=true;rw[z75,if_pos rfl];rfl
   .show z0t (z40 th _ _) _=none;rw[z75,if_neg (λz=>absurd (z7Z z).1 (by decide +kernel))];exact hg
  |u sh =>
   cases e;refine⟨hl,rfl,.mk "unhang a" _ R M.any (by decide +kernel) zim (λus h S3 e3=>?_) (λz=>by cases z)⟩;cases h;refine .unhang p _ (.mk "a" (hs.ex e3) (by decide +kernel) (by lia) (λz=>by rw[z]at hb;cases hb) (λ_ S4 hs4 b4=>ih _ _ (.mk false (k+1) _ _ p d x y _ _ _ _ sh (by lia) (b4.l (e3.l hl) hn.2) hs4 hn (by rw[y07];exact y1L hdn) (y0e z2E (y1L hth)) (by simp at hkl;lia) ?_ ?_)))
   .show(z0t (z90 th _) _).isSome=false;rw[zao,if_pos rfl];rfl
   .show z0t (z90 th _) _=none;rw[zao,if_neg (λz=>absurd (z7Z z).1 (by decide +kernel))];exact hg
end W
namespace L2
open PySem PySem.Spec PyProof.Rows Builtin.Str StrLaws
section
variable{a b:Str}(ha:32∉sg a)(hb:32∉sg b)
include ha hb
theorem z64{L:Nat}(hL:1<=L)(hy:sg " "=[32])(hk:strKind " "=1) : (if(decide ((a++" "++b).length<(" ":Str).length)||decide (strKind (a++" "++b)<strKind " "))=true then[a++" "++b]else if(occurrences (a++" "++b) " " 0 (a++" "++b).length L).isEmpty=true then[a++" "++b]else partsBetween (a++" "++b) (occurrences (a++" "++b) " " 0 (a++" "++b).length L) (" ":Str).length)=[a,b]:=by
 have hyl:(" ":Str).length=1:=by rw[<-z0T,hy];rfl
 have ex:sg (a++" "++b)=sg a++32::sg b:=by rw[z6u,z6u,hy,y1a];rfl
 generalize a++" "++b=x at ex⊢;have lx:x.length=a.length+(b.length+1):=by rw[<-z0T x,ex,y07,y0c,z0T,z0T]
 have at_:∀k,At x " " x.length k↔k=a.length:=λk=>by
  rw[zh9,hyl,hy,ex];constructor
  .rintro⟨_,h⟩;have h:(sg a++32::sg b)[k]?=some 32:=by
    have:=y1M List.head? h
    rwa [List.head?_take,if_neg (by decide),List.head?_drop]at this
   rcases Nat.lt_trichotomy k a.length with q|q|q
   .rw[y0A (by rw[z0T];exact q)]at h;exact absurd (y0M h) ha
   .exact q
   .rw[y0E (by rw[z0T];lia),z0T,show k-a.length=(k-a.length-1)+1 by lia,y2M]at h;exact absurd (y0M h) hb
  .rintro rfl;exact⟨by lia,by rw[<-z0T a,List.drop_left];rfl⟩
 obtain⟨f,h1,h2,h3⟩:=zfT x " " L (by rw[hyl];exact y09 1);have eo:occurrences x " " 0 x.length L=[a.length]:=by
  generalize occurrences x " " 0 x.length L=l at *;cases l with
  |nil =>
   have e:f=0:=h1;exact absurd ((at_ _).mpr rfl) (h3 (show 0<L by lia) a.length (by lia))
  |cons c r =>
   obtain⟨_,g1,_,g2⟩:=h1;rw[(at_ c).mp g1]at g2⊢;cases r with
   |nil=>rfl
   |cons d r =>
    obtain⟨g3,g4,_⟩:=g2;have:=(at_ d).mp g4;lia
 have hkk:=zcM x;rw[eo,hk,hyl,y0v (by lia),y0v (by lia),partsBetween_eq];show[strSub x 0 a.length,strSub x (a.length+1) x.length]=[a,b];congr 1
 .refine z9d ?_;show(strSub x 0 a.length).cps.toList=_;rw[strSub_toList];show((sg x).drop 0).take _=_;rw[ex,<-z0T a,Nat.sub_zero];exact List.take_left
 .congr 1;refine z9d ?_;show(strSub x (a.length+1) x.length).cps.toList=_;rw[strSub_toList];show((sg x).drop (a.length+1)).take _=_;rw[ex,<-z0T a,<-List.drop_drop,List.drop_left];show(sg b).take _=_;exact y0D (by rw[z0T,z0T];lia)
end
end L2
namespace W
open PySem L2 PySem.SeqAt PySem.Spec Gu
variable[WW]{Z:Zx}
noncomputable def wcl:List Nat:=[1,2,3,4,5,8,9,10,11,12,13,14,6,7]
def zcx(w:Nat):Bool:=[0,1,2,3,4,8,11,12].contains w
def z2t{a b:Int}{t u:WS}{ρ:En}{S:Sto}{W:Wd}{E:En->Xq}(g:lk ρ 0=some (.int a))(h1:a=b->t ρ S W E)(h2:a≠b->u ρ S W E):zlj (wTB (w2 (fEq false) (z7n 0) (wC (.int b)))) t u ρ S W E:=by show wTB _ _ _ _ _;unfold wTB w2 z7n;rw[g];refine⟨rfl,?_⟩;rw[eqI];exact z0Z (λc=>h1 (y0m c)) λc=>h2 (y0w c)
def z5I:z1n 2 (z8P 2)/\z1n 3 (z8P 3):=by refine⟨⟨by decide,by decide,λr h=>?_,by decide,by decide⟩,⟨by decide,by decide,λr h=>?_,by decide,by decide⟩⟩<;>(cases y0q.mp h;show List.Perm _ _;decide)
def zhk(k:Int)(h0:0<=k)(h3:k<3):z10 (zbV "A" k)=false/\(zbV "A" k).length<=2:=by rcases(show k=0\/k=1\/k=2 by lia)with rfl|rfl|rfl<;>decide +kernel
def zkr(k:Int)(h0:0<=k)(h3:k<5):∃ls,Txt.split ("letters 2"++zbV "\ndrop a" (1+k)) "\n"=("letters 2":Str)::("drop a"::ls)/\ls.length<=4/\("letters 2"++zbV "\ndrop a" (1+k)).length<=60:=by
 rcases(show k=0\/k=1\/k=2\/k=3\/k=4 by lia)with rfl|rfl|rfl|rfl|rfl
 .exact⟨[],by decide +kernel⟩
 .exact⟨["drop a"],by decide +kernel⟩
 .exact⟨["drop a","drop a"],by decide +kernel⟩
 .exact⟨["drop a","drop a","drop a"],by decide +kernel⟩
 .exact⟨["drop a","drop a","drop a","drop a"],by decide +kernel⟩
def zbW(m:Nat)(h:m<=100002):z2G Z ("drop "++Str.ofString (toString (m:Int))) none:=by
 have e:("drop ":Str)++z5s m="drop"++" "++z5s m:=by refine z9d ?_;rw[z6u,z6u,z6u];congr 1
 have hm:=z4L (show m<10^60 by lia);have ha:32∉sg "drop":=by decide +kernel
 have hc:32∉sg (z5s m):=λz=>absurd (z36 m 32 z) (by decide);have hy:sg " "=[32]/\Builtin.Str.strKind " "=1:=by decide +kernel
 have hb:z10 (z5s m)=false:=by
  cases z:z10 (z5s m)with
  |false=>rfl
  |true =>
   unfold z10 at z;simp only[y0b,y0u,y1A]at z;obtain⟨c,l,hcl⟩:=List.exists_cons_of_length_pos (show 0<(sg (z5s m)).length by rw[z0T];lia);have a:=z.2 c (by rw[hcl];exact .head _);have b:=z36 m c (by rw[hcl];exact .head _);lia
 refine @z2G.mk Z _ "drop" [z5s m] [z5s m] ["name"] none ?_ (by decide +kernel) ?_ (.bad (.bad (by lia) hb) rfl)
 .show Txt.split ("drop "++z5s m) _=_;rw[e];exact z64 ha hc (by rw[y0F];lia) hy.1 hy.2
 .show Txt.splitMax ("drop "++z5s m) _ 1=_;rw[e];exact z64 ha hc (show(1:Nat)<=limitOf _ 1 from y09 1) hy.1 hy.2
inductive sPl(Z:Zx):Wsp
 |mk {S Q E} (w m:Nat):w<=13->m<=100002->MdR Z->Md Z S->(∀c S',zcx w=true->wcl[w]?=some c->E c S')->(w=13->∀dx S',S' dx=some (.thg (atO dx 2))->E (dx+16) S')->(zcx w=false->w≠13->Q .non S)->sPl Z [.int w,.int m] S Q E
def z3R(T:Z.Tx)(Ji:Z.k "House" 1 (zgu Z))(Vg:Z.f "form" 3 zaR)(Vh:Z.f "worn" 2 zaB)(Va:Z.f "still" 2 z4y)(JL:Z.f "order_crews" 1 z78)(Jl:Z.m "hang" 9 (z5G Z))(Jx:Z.f "floor_floors" 2 z7e)(Vi:Z.m "undo" 1 (zaU Z))(Jn:Z.f "read_line" 5 (zj6 Z))(Jo:Z.f "read_page" 12 (sRP Z))(D:Z.fd "_law_plainly" z3s ["_law_way","_law_many"]):Z.f "_law_plainly" 13 (sPl Z):=by
 refine wF ["_law_way","_law_many"] D (λf cdv A outer s H E hr nd=>z03 (z0q (z0i (z1w (z1v hr)).1 (z01 0) z06) (z03 (z0d (z3p Ji (hr.mono (by decide)) (z2x λ_ _ _ z=>z) (z00 (z0j z12 z06 (z01 1)) z02)))) (z03 (z0q (z0i (z1w (z1v hr)).1 (z01 0) z06) (z03 (z0d (z09 Vg (hr.mono (by decide)) z0g (z00 z06 (z00 (z0Y (z00 (z0f (z00 (z0f (z00 z06 (z00 z06 z02))) (z00 (z0f (z00 (z01 1) (z00 (z01 1) z02))) z02))) z02)) z02))))) (z03 (z0q (z0i (z1w (z1v hr)).1 (z01 0) z06) (z03 (z0d (z09 Vh (hr.mono (by decide)) z0g (z00 (z09 Va (hr.mono (by decide)) z0g (z00 z06 z02)) (z00 (z0f (z00 z06 (z00 (z0j z12 z06 (z01 1)) z02))) z02))))) (z03 (z0q (z0i (z1w (z1v hr)).1 (z01 0) z06) (z03 (z0d (z09 JL (hr.mono (by decide)) z0g (z00 (z09 Va (hr.mono (by decide)) z0g (z00 z06 z02)) (z00 (z0j z12 z06 (z01 1)) z02))))) (z03 (z0q (z0i (z1w (z1v hr)).1 (z01 0) z06) (z03 (z0d (z0p Jl (hr.mono (by decide)) z0g (z3p Ji (hr.mono (by decide)) (z2x λ_ _ _ z=>z) (z00 z06 z02)) (z00 (z0j zaO z0e (z0j z3P (z01 1) z06)) (z00 (z0f z02) (z00 (z0f (z00 z06 z02)) z02)))))) (z03 (z0q (z0i (z1w (z1v hr)).1 (z01 0) z06) (z03 (z0d (z09 Jx (hr.mono (by decide)) z0g (z00 (z09 Va (hr.mono (by decide)) z0g (z00 z06 z02)) (z00 (z0j z12 z06 (z01 1)) z02))))) (z03 (z0q (z0i (z1w (z1v hr)).1 (z01 0) z06) (z03 (z0d (zce Vi (hr.mono (by decide)) z0g (z3p Ji (hr.mono (by decide)) (z2x λ_ _ _ z=>z) (z00 z06 z02))))) (z03 (z0q (z0i (z1w (z1v hr)).1 (z01 0) z06) (z03 (z0d (z09 Jn (hr.mono (by decide)) z0g (z00 (z0j z12 z0e (sTy T zeE y1o (z00 (z01 1) z02))) z02)))) (z03 (z0q (z0i (z1w (z1v hr)).1 (z01 0) z06) (z03 (z0d (z09 Jo (hr.mono (by decide)) z0g (z00 (z0j z12 z0e (z0j zaO z0e (z0j z12 z06 (z0j z3P (z01 1) z06)))) z02)))) z0m)))))))))))))))))) (λus S Q E h=>by cases h<;>rfl) ?_;rintro _ S Q E ⟨w,m,hw,hm,R,M,e,e13,q⟩;refine z2t rfl (λc=>?_) λc0=>?_
 .cases y13 c;intro x hx;exact .mk x (6+m) z05 M.any (λz=>by lia) λ_=>e 1 _ rfl rfl
 refine z2t rfl (λc=>?_) λc1=>?_
 .cases y13 c;refine⟨show 2<=sizeLine by decide,show 2<=sizeLine by decide,show 2<=sizeLine by decide,show 1<=sizeLine by decide,λl hl=>?_⟩;refine .mk 2 l [([0,0],[(m:Int),m])] (.inl z05) (by decide) (show 1<=5000 by decide) ?_ (λz=>absurd (show List.Perm [0,0] [(0:Int),1]from z.1.perm _ (.head _)) (by decide)) λS' _=>e 2 S' rfl rfl;rintro r h;cases y0q.mp h;exact⟨show 2<=60 by decide,show 2<=60 by decide⟩
 refine z2t rfl (λc=>?_) λc2=>?_
 .cases y13 c;refine .three ⟨show 2<=sizeLine by decide,?_⟩;refine .mk (z8P 3) 3 [0,3+(m:Int)] z5I.2 (show 2<=1000 by decide) (by simp[lw];lia) λS' _=>e 3 S' rfl rfl
 refine z2t rfl (λc=>?_) λc3=>?_
 .cases y13 c;exact .two (.mk _ (65+(m:Int)) (by lia) (by lia) (e 4 _ rfl rfl))
 refine z2t rfl (λc=>?_) λc4=>?_
 .cases y13 c;intro x hx;refine .mk x 2 z05 M.any (λ_ d x y S1 hfr hs1 kp1=>⟨rfl,?_⟩) (λz=>absurd ⟨by decide,by decide⟩ z);have hs0:=hs1;obtain⟨h1',_⟩:=hs0;refine⟨_,h1',rfl,by decide,by lia,by lia,by decide +kernel,?_⟩;have g:=zhk (m%3) (by lia) (by lia);refine⟨show 0<=sizeLine by decide,show 1<=sizeLine by decide,.mk _ [] [1] hs1 (by lia) (by decide) (by decide) (by decide) (by decide) (by decide) (λ_ S' _=>e 5 S' rfl rfl) (λz=>?_) (λz=>?_) (λz=>?_)⟩<;>(rw[g.1]at z;cases z)
 refine z2t rfl (λc=>?_) λc8=>?_
 .cases y13 c;exact .two (.mk (z8P 2) 2 (11+(m:Int)) z5I.1 (by decide) (by decide) (by lia) (by lia) (e 11 _ rfl rfl))
 refine z2t rfl (λc=>?_) λc11=>?_
 .cases y13 c;intro x hx;refine .mk x 3 z05 M.any (λ_ d x y S1 hfr hs1 kp1=>⟨rfl,?_⟩) (λz=>absurd ⟨by decide,by decide⟩ z);have hs0:=hs1;obtain⟨h1',_⟩:=hs0;exact⟨_,h1',rfl,.mk hs1 (e 14 _ rfl rfl)⟩
 refine z2t rfl (λc=>?_) λc12=>?_
 .cases y13 c;have hl:=(z4L (show m<10^60 by lia)).2;have hl5:("drop ":Str).length=5:=by decide +kernel
  refine⟨z1R (by lia),?_⟩;refine⟨y0Y (z1G (show("drop ":Str).length+(z5s m).length<=1000000 by lia)),.mk _ none R M.any ?_ (zbW m hm) (λus z=>by cases z) λ_ S' _=>e 6 S' rfl rfl⟩;show(("drop ":Str)++z5s m).length<=_;rw[y0F];lia
 refine z2t rfl (λc=>?_) λc13=>?_
 .cases y13 c;obtain⟨ls,h1,h2,h3⟩:=zkr (m%5) (by lia) (by lia);refine⟨by decide,by lia,by lia,by decide +kernel,?_⟩;refine⟨y0Y (z1G (y0e (by rw[<-y0F];exact h3) (show 60<=1000000 by decide))),.mk _ _ 0 h1 .d (by simp;lia) (by lia) R M.any λdx S' h=>e13 rfl dx S' h⟩
 .have:zcx w=false/\w≠13:=by
   rcases(show w=5\/w=6\/w=7\/w=9\/w=10 by lia)with rfl|rfl|rfl|rfl|rfl<;>exact⟨rfl,by decide⟩
  exact q this.1 this.2
inductive sIH(Z:Zx):Wsp
 |mk {S Q E} (w m:Nat):w<=13->zcx w=false->w≠13->m<=100002->Md Z S->(∀c S',wcl[w]?=some c->E c S')->sIH Z [.int w,.int m] S Q E
def z9s{a b:Gu.Row}(h:uR a=uR b):a=b:=by
 have:uI' a.1=uI' b.1/\uI' a.2=uI' b.2:=by simpa[uR]using h
 exact Prod.ext (z1y this.1) (z1y this.2)
def zdD{a b:List Gu.Row}(h:uG a=uG b):a=b:=by
 have h:a.map uR=b.map uR:=by simpa[uG]using h
 exact(List.map_inj_right λ_ _=>z9s).mp h
def ze5{ws ws' ls ls':List U}{u u':U}(h:pgU (ws++[u]) ls=pgU (ws'++[u']) ls'):ws=ws'/\u=u'/\ls=ls':=by unfold pgU at h;injection h with h;injection h with h1 h;injection h with h2 _;injection h1 with h1;injection h2 with h2;exact⟨List.append_inj_left' h1 rfl,by simpa using List.append_inj_right' h1 rfl,h2⟩
def z1I{th:List (U × U)}{k v k':U}(h:isN v=false):z0t (z2f th k v) k'=if k'=k then some v else z0t th k':=by unfold z2f;rw[h];exact z75 th k v k'
def kne{a b c d:Str}(h:a≠c\/b≠d):ks a b≠ks c d:=λz=>h.elim (λq=>q (z7Z z).1) λq=>q (z7Z z).2
def zkD{r:Gu.Row}:z0t (thK r) (ks "peg" "k")=some (pgU [uR r] []):=by unfold thK;rw[z1I rfl,if_pos rfl]
def zjC{r:Gu.Row}:z0t (thK r) (ks "guise" "m")=some (uG mM):=by unfold thK;rw[z1I rfl,if_neg (kne (.inl (by decide +kernel))),z1I rfl,if_pos rfl]
def zfk{r:Gu.Row}{a b:Str}(h:a≠"peg"\/b≠"k")(h':a≠"guise"\/b≠"m"):z0t (thK r) (ks a b)=none:=by unfold thK;rw[z1I rfl,if_neg (kne h),z1I rfl,if_neg (kne h')];rfl
def z9v:z4G 2 nM 60:=⟨⟨by decide,by decide,λr h=>by
 have:r=([0,1],[0,1])\/r=([1,0],[1,0]):=by simpa[nM]using h
 rcases this with rfl|rfl<;>(show List.Perm _ _;decide),by decide,by decide⟩,by decide⟩
def z8a{e:Gu.Row}(pe:z0R e)(le:∀i,lat e i=0\/lat e i=1):z8K 2 e:=by obtain⟨h1,h2⟩:=ziw (n:=2) (λi=>by rcases le i with z|z<;>rw[z]<;>decide) pe.1;exact⟨pe.1,h1,h2⟩
def z2Z(T:Z.Tx)(JS:Z.f "_law_house" 10 (zad Z))(Jl:Z.m "hang" 9 (z5G Z))(JZ:Z.m "drop" 9 (sGo Z "guise" "drop" 9))(JF:Z.m "unhang" 9 (sGo Z "peg" "unhang" 10))(JV:Z.m "wear" 9 (z9F Z))(m_sew:Z.m "sew" 9 (zcr Z))(Ve:Z.m "doff" 9 (zft Z))(D:Z.fd "_law_in_house" z3z ["_law_way","_law_many"]):Z.f "_law_in_house" 12 (sIH Z):=by
 refine wF ["_law_way","_law_many","_law_house_here"] D (λf cdv A outer s H E hr nd=>z04 (z0n 2 nd (z09 JS (hr.mono (by decide)) z0g (z00 (z01 1) z02))) (z03 (z0q (z0i (z1w (z1v hr)).1 (z01 0) z06) (z03 (z0d (z0p Jl (hr.mono (by decide)) z0g (z01 2) (z00 z0e (z00 (z0f z02) (z00 (z0f (z00 z06 z02)) z02)))))) (z03 (z0q (z0i (z1w (z1v hr)).1 (z01 0) z06) (z03 (z0d (z0p JZ (hr.mono (by decide)) z0g (z01 2) (z00 z0e z02)))) (z03 (z0q (z0i (z1w (z1v hr)).1 (z01 0) z06) (z03 (z0d (z0p JF (hr.mono (by decide)) z0g (z01 2) (z00 z0e z02)))) (z03 (z0q (z0i (z1w (z1v hr)).1 (z01 0) z06) (z04 (z0d (z0p JV (hr.mono (by decide)) z0g (z01 2) (z00 z0e (z00 z0e z02)))) (z04 (z0d (z0p m_sew (hr.mono (by decide)) z0g (z01 2) (z00 z0e (z00 (z0Y (z00 (z0f (z00 (z0f (z00 z06 (z00 z06 z02))) (z00 (z0f (z00 z06 (z00 z06 z02))) z02))) (z00 (z0f (z00 (z0f (z00 z06 (z00 z06 z02))) (z00 (z0f (z00 z06 (z00 z06 z02))) z02))) z02))) z02)))) (z03 (z0d (z0p JV (hr.mono (by decide)) z0g (z01 2) (z00 z0e (z00 z0e z02))))))) (z03 (z0q (z0i (z1w (z1v hr)).1 (z01 0) z06) (z03 (z0d (z0p Ve (hr.mono (by decide)) z0g (z01 2) (z00 z0e z02)))) z0m))))))))))) (λus S Q E h=>by cases h<;>rfl) ?_;rintro _ S Q E ⟨w,m,hw,h1,h2,hm,M,e⟩;refine .mk m (by lia) (by lia) M.any λL r p d x y S1 dn hL0 hL1 pe le l1 l2 hs hdn M1 _=>?_;have hs0:=hs;obtain⟨h1',_⟩:=hs0;have hth:(thK r).length<=2:=y0e z2E (y1L z2E);have vk:z0t (thK r) (ks "peg" "k")=some (pgU [uR r] []):=zkD;have vm:z0t (thK r) (ks "guise" "m")=some (uG mM):=zjC;unfold gN;dsimp only;refine z2t rfl (λc=>?_) λc5=>?_
 .cases y13 c;refine⟨_,h1',rfl,show 0<=sizeLine by decide,show 1<=sizeLine by decide,.mk "k" [] [1] hs (by decide +kernel) (by decide) (by decide) (by decide) (by lia) (by lia) (λz=>absurd z (by decide +kernel)) (λ_ _ S' _=>e 8 S' rfl) (λ_ z=>by rw[vk]at z;cases z) (λ_ z=>by rw[vk]at z;cases z)⟩
 refine z2t rfl (λc=>?_) λc6=>?_
 .cases y13 c;have v:z0t (thK r) (ks "guise" "nobody")=none:=zfk (by decide +kernel) (by decide +kernel);exact⟨_,h1',rfl,.mk "nobody" hs (by decide +kernel) (by lia) (λ_=>e 9 _ rfl) (λz=>by rw[v]at z;cases z)⟩
 refine z2t rfl (λc=>?_) λc7=>?_
 .cases y13 c;have v:z0t (thK r) (ks "peg" "m")=none:=zfk (by decide +kernel) (by decide +kernel);exact⟨_,h1',rfl,.mk "m" hs (by decide +kernel) (by lia) (λ_=>e 10 _ rfl) (λz=>by rw[v]at z;cases z)⟩
 refine z2t rfl (λc=>?_) λc9=>?_
 .cases y13 c;refine⟨_,h1',rfl,.mk 2 "k" "m" hs (by decide +kernel) (by decide +kernel) (by decide) (by lia) (by lia) (λv hv=>?_) (λu hu=>?_) (λz=>by rw[vk]at z;cases z) (λ_ z=>by rw[vm]at z;cases z) (λws e1 ls rows e' z1 z2 pe' le'=>?_)⟩
  .rw[vk]at hv;exact⟨[],r,[],(y06 hv).symm,by decide,by decide,z8a pe λi=>by rw[le];exact zck L i,by lia⟩
  .rw[vm]at hu;exact⟨mM,(y06 hu).symm,z9e.1,by decide⟩
  .rw[vk]at z1;rw[vm]at z2;obtain⟨w0,e0,rfl⟩:=ze5 (ws:=[]) (y06 z1);obtain rfl:=z9s e0;obtain rfl:=w0;obtain rfl:=zdD (y06 z2);have l0:0<L:=by lia
   have le2:∀i,lat e' i=f1 L i:=λi=>(le' i).trans (oM l0 le i);obtain rfl:e'=cL L:=z0R.one pe' (z86 l0) λi=>(le2 i).trans (z3u l0 i).symm;have e1:(cL L).1.length=1:=rfl;have e2:(cL L).2.length=L+1:=by unfold cL;simp;lia
   rw[e1,e2,y0v (by lia)];intro S2 hs2 b2;have hs0:=hs2;obtain⟨h2',_⟩:=hs0;have hth2:∀v,(z2f (thK r) (ks "peg" "k") v).length<=3:=λv=>y0e z2E (y1L hth);refine⟨_,h2',rfl,show 2<=sizeLine by decide,show 2<=sizeLine by decide,show 2<=sizeLine by decide,show 2<=sizeLine by decide,show 2<=sizeLine by decide,show 2<=sizeLine by decide,show 2<=sizeLine by decide,λl hl=>?_⟩;have hs3:=hs2.ex (Ex.up (o:=.lst (nM.map uR)) (.refl S2) hl);refine .mk 2 "n" l nM hs3 (by decide +kernel) (by decide) (.inl z05) (by decide) (by decide) (by simp;lia) (y0e (hth2 _) (by decide)) (λz=>absurd z (by decide +kernel)) (λ_ z=>?_) (λ_ _ z=>absurd z9v z) (λ_ _ _ S4 hs4 b4=>?_)
   .rw[z1I rfl,if_neg (kne (.inl (by decide +kernel))),zfk (.inl (by decide +kernel)) (.inr (by decide +kernel))]at z;cases z
   rw[show least nM=nM by decide +kernel]at hs4;have hs0:=hs4;obtain⟨h4',_⟩:=hs0;have vk4:z0t (z2f (z2f (thK r) (ks "peg" "k") (pgU ([]++[uR r]++[uR (cL L)]) ([]++[.str "m"]))) (ks "guise" "n") (uG nM)) (ks "peg" "k")=some (pgU ([]++[uR r]++[uR (cL L)]) ([]++[.str "m"])):=by rw[z1I rfl,if_neg (kne (.inl (by decide +kernel))),z1I rfl,if_pos rfl]
   have vn4:z0t (z2f (z2f (thK r) (ks "peg" "k") (pgU ([]++[uR r]++[uR (cL L)]) ([]++[.str "m"]))) (ks "guise" "n") (uG nM)) (ks "guise" "n")=some (uG nM):=by rw[z1I rfl,if_pos rfl]
   refine⟨_,h4',rfl,.mk 2 "k" "n" hs4 (by decide +kernel) (by decide +kernel) (by decide) (by simp;lia) (y0e z2E (y1L (y0e (hth2 _) (by decide)))) (λv hv=>?_) (λu hu=>?_) (λz=>?_) (λ_ z=>?_) (λws e1 ls rows e' z1 z2 pe' le'=>?_)⟩
   .rw[vk4]at hv;exact⟨[uR r],cL L,[.str "m"],(y06 hv).symm,show 1<=100000 by decide,show 1<=100000 by decide,z8a (z86 l0) (λi=>by rw[z3u l0];unfold f1;split;exact .inr rfl;exact zck L i),by lia⟩
   .rw[vn4]at hu;exact⟨nM,(y06 hu).symm,z9v.1,by decide⟩
   .rw[vk4]at z;cases z
   .rw[vn4]at z;cases z
   .rw[vk4]at z1;rw[vn4]at z2;obtain⟨_,e0,_⟩:=ze5 (y06 z1);obtain rfl:=z9s e0;obtain rfl:=zdD (y06 z2);rw[y1x (zd2 hL0 pe'.1 λi=>(le' i).trans (oN l0 (z3u l0) i))];exact λS5 _=>e 12 S5 rfl
 refine z2t rfl (λc=>?_) λc10=>?_
 .cases y13 c;refine⟨_,h1',rfl,.mk "k" hs (by decide +kernel) (by lia) (by lia) (λz=>by rw[vk]at z;cases z) (λv hv=>?_)⟩;rw[vk]at hv;exact⟨[],uR r,[],(y06 hv).symm,λ_=>e 13 _ rfl,λls' l z=>by cases ls'<;>cases z⟩
 .exfalso;rcases(show w=0\/w=1\/w=2\/w=3\/w=4\/w=8\/w=11\/w=12 by lia)with rfl|rfl|rfl|rfl|rfl|rfl|rfl|rfl<;>cases h1
def zdd{w n:Nat}(h:w<=13)(e:wcl[w]?=some n):([1,2,3,4,5,8,9,10,11,12,13,14,6,7]:List Nat).map (λk=>U.bl (n==k||k==0))=(List.range 14).map λk=>U.bl (decide (k=w)):=by rcases(show w=0\/w=1\/w=2\/w=3\/w=4\/w=5\/w=6\/w=7\/w=8\/w=9\/w=10\/w=11\/w=12\/w=13 by lia)with rfl|rfl|rfl|rfl|rfl|rfl|rfl|rfl|rfl|rfl|rfl|rfl|rfl|rfl<;>cases e<;>rfl
def zdY{w n:Nat}(e:wcl[w]?=some n):xn n=n/\(∃y,xL.lookup y=some n)/\xd n=none:=by
 have h:=y0M e;simp only[wcl,y0k,y2s,or_false]at h;rcases h with rfl|rfl|rfl|rfl|rfl|rfl|rfl|rfl|rfl|rfl|rfl|rfl|rfl|rfl<;>refine⟨rfl,?_,rfl⟩
 .exact⟨"BadBreadth",rfl⟩
 .exact⟨"BadMachine",rfl⟩
 .exact⟨"BadWord",rfl⟩
 .exact⟨"BadCount",rfl⟩
 .exact⟨"BadName",rfl⟩
 .exact⟨"Taken",rfl⟩
 .exact⟨"NoGuise",rfl⟩
 .exact⟨"NoPeg",rfl⟩
 .exact⟨"TooMany",rfl⟩
 .exact⟨"TooLong",rfl⟩
 .exact⟨"NothingWorn",rfl⟩
 .exact⟨"NothingLeft",rfl⟩
 .exact⟨"BadLine",rfl⟩
 .exact⟨"BadPage",rfl⟩
def z3U{o:Ob}{S:Sto}{Q:Kq U}(q:∀l S',Ex S S'->S' l=some o->Q (.ref l) S'):nw o S Q:=λl hl=>q l _ (Ex.up (.refl S) hl) z05
structure IsX(Z:Zx)(c:Nat)(ea:Addr)(S:Sto):Prop where
 at_:S ea=some (.thg (z7I Z.xa c ea))
 dx:∀dx,xd c=some dx->∃n,S dx=some (.thg (atO dx n))
def IsX.ex{c:Nat}{ea:Addr}{S S':Sto}(h:IsX Z c ea S)(e:Ex S S'):IsX Z c ea S':=⟨e _ _ h.at_,λdx z=>by obtain⟨n,z⟩:=h.dx dx z;exact⟨n,e _ _ z⟩⟩
inductive sCl(Z:Zx):Wsp
 |mk {S Q E} (w m:Nat):w<=13->m<=100002->MdR Z->Md Z S->(∀l S',S' l=some (.lst (((List.range 14).map λk=>U.bl (decide (k=w)))++[.bl true]))->Q (.ref l) S')->sCl Z [.int w,.int m] S Q E
def z3w(T:Z.Tx)(JH:Z.f "_law_plainly" 13 (sPl Z))(Jt:Z.f "_law_in_house" 12 (sIH Z))(Tz:Te Z)(D:Z.fd "_law_classes" z3C ["_law_way","_law_many"]):Z.f "_law_classes" 14 (sCl Z):=by
 refine wF ["_law_way","_law_many","_law_kinds","e"] D (λf cdv A outer s H E hr nd=>z04 (z0n 2 nd (z0Y z02)) (z04 (za7 T.x rfl rfl rfl rfl rfl (λpn E1 xk hx=>(z04 (z0d (z09 JH (hr.mono (by decide)) hx (z00 (z01 0) (z00 (z01 1) z02)))) (z03 (z0d (z09 Jt (hr.mono (by decide)) hx (z00 (z01 0) (z00 (z01 1) z02))))))) (z7T 3 rfl nd λ_=>(z04 (z0n 2 nd (z0Y (z00 (z1i Tz.e T.x rfl (z01 3) (T.b _ (by decide))) (z00 (z1i Tz.e T.x rfl (z01 3) (T.b _ (by decide))) (z00 (z1i Tz.e T.x rfl (z01 3) (T.b _ (by decide))) (z00 (z1i Tz.e T.x rfl (z01 3) (T.b _ (by decide))) z02)))))) (z04 (z0n 2 nd (z0j z12 (z01 2) (z0Y (z00 (z1i Tz.e T.x rfl (z01 3) (T.b _ (by decide))) (z00 (z1i Tz.e T.x rfl (z01 3) (T.b _ (by decide))) (z00 (z1i Tz.e T.x rfl (z01 3) (T.b _ (by decide))) (z00 (z1i Tz.e T.x rfl (z01 3) (T.b _ (by decide))) z02))))))) (z04 (z0n 2 nd (z0j z12 (z01 2) (z0Y (z00 (z1i Tz.e T.x rfl (z01 3) (T.b _ (by decide))) (z00 (z1i Tz.e T.x rfl (z01 3) (T.b _ (by decide))) (z00 (z1i Tz.e T.x rfl (z01 3) (T.b _ (by decide))) z02)))))) (z04 (z0n 2 nd (z0j z12 (z01 2) (z0Y (z00 (z1i Tz.e T.x rfl (z01 3) (T.b _ (by decide))) (z00 (z1i Tz.e T.x rfl (z01 3) (T.b _ (by decide))) (z00 (z1i Tz.e T.x rfl (z01 3) (T.b _ (by decide))) z02)))))) (z03 (z0d (zik (z01 2) (z00 (zhn Tz.e (z01 3) (T.b _ (by decide)) Tz.v) z02)))))))))) (z03 (z0l (z01 2))))) (λus S Q E h=>by cases h<;>rfl) ?_;rintro _ S Q E ⟨w,m,hw,hm,R,M,q⟩;generalize hT:wAs Z.xa 3 _=T;have hnd:∀(c:Nat)(S':Sto)(W:Wd)(E':En->Xq)(a b x y:Option U),wcl[w]?=some (xn c)->(∃y,xL.lookup y=some (xn c))->(∀dx,xd c=some dx->∃n,S' dx=some (.thg (atO dx n)))->(∀l S'',S'' l=some (.lst (((List.range 14).map λk=>U.bl (decide (k=w)))++[.bl true]))->W.nx [a,b,some (.ref l),none] S'')->T c [a,b,x,y] S' W E':=by
  subst hT;intro c S0 W E' a b x y hc hy hd k ea hea;have X:IsX Z c ea (up S0 ea (.thg (z7I Z.xa c ea))):=⟨z05,λdx z=>by obtain⟨n,z⟩:=hd dx z;exact⟨n,(z0k (z29 z hea)).trans z⟩⟩;generalize up S0 ea (.thg (z7I Z.xa c ea))=S1 at X⊢;iterate 4 refine⟨ea,c,rfl,X.at_,hy,X.dx,?_⟩
  refine⟨show 4<=sizeLine by decide,z3U λl1 S2 e2 h1=>?_⟩;have X:=X.ex e2;iterate 4 refine⟨ea,c,rfl,X.at_,hy,X.dx,?_⟩
  refine⟨show 4<=sizeLine by decide,z3U λl2 S3 e3 h2=>?_⟩;have X:=X.ex e3;refine⟨_,_,e3 _ _ h1,h2,show 8<=sizeLine by decide,z3U λl3 S4 e4 h3=>?_⟩;have X:=X.ex e4;iterate 3 refine⟨ea,c,rfl,X.at_,hy,X.dx,?_⟩
  refine⟨show 3<=sizeLine by decide,z3U λl4 S5 e5 h4=>?_⟩;have X:=X.ex e5;refine⟨_,_,e5 _ _ h3,h4,show 11<=sizeLine by decide,z3U λl5 S6 e6 h5=>?_⟩;have X:=X.ex e6;iterate 3 refine⟨ea,c,rfl,X.at_,hy,X.dx,?_⟩
  refine⟨show 3<=sizeLine by decide,z3U λl6 S7 e7 h6=>?_⟩;have X:=X.ex e7;refine⟨_,_,e7 _ _ h5,h6,show 14<=sizeLine by decide,z3U λl7 S8 e8 h7=>?_⟩;have X:=X.ex e8;refine⟨⟨_,.inl h7⟩,ea,c,rfl,X.at_,hy,X.dx,_,h7,show 14<sizeLine by decide,?_⟩;refine k l7 _ ?_;rw[z05,<-zdd hw hc];rfl
 refine⟨show 0<=sizeLine by decide,z3U λl0 S1 e1 h0=>?_⟩;refine .mk w m hw hm R M.any (λc S' h1 h2=>?_) (λh13 dx S' h=>?_) (λh1 h2=>?_)
 .obtain⟨e1,e2,e3⟩:=zdY h2;exact⟨by rw[e1];exact e2,by simp[z6A],hnd c S' _ _ _ _ _ _ (by rw[e1];exact h2) (by rw[e1];exact e2) (λdx z=>by rw[e3]at z;cases z) q⟩
 .have e7:wcl[w]?=some (xn (dx+16)):=by rw[(z43 dx).1,h13];rfl
  have ey:∃y,xL.lookup y=some (xn (dx+16)):=by rw[(z43 dx).1];exact⟨"BadPage",rfl⟩
  exact⟨ey,by simp[z6A],hnd _ S' _ _ _ _ _ _ e7 ey (λdx' z=>by rw[(z43 dx).2]at z;cases z;exact⟨2,h⟩) q⟩
 .refine .mk w m hw h1 h2 hm M.any λc S' h=>?_;obtain⟨e1,e2,e3⟩:=zdY h;exact⟨by rw[e1];exact e2,by simp[z6A],hnd c S' _ _ _ _ _ _ (by rw[e1];exact h) (by rw[e1];exact e2) (λdx z=>by rw[e3]at z;cases z) q⟩
inductive zhv(Z:Zx):Wsp
 |mk {S Q E} (a:Addr) (ns:List Int):isL S a (ns.map U.int)->Md Z S->(∀S',Q (.bl true) S')->zhv Z [.ref a] S Q E
def wFe{x:Str}{st:Stmt}{ps:List Str}{f:Addr}{fd:FuncData}(N:List Str){k:Nat}{sp:Wsp}{t:WS}(F:Fun Z.K x x st f fd)(hb:Z.body N x st k t)(len:∀us S Q E,sp us S Q E->us.length=ps.length)(hp:∀us S Q E,sp us S Q E->t (stt N.length us) S { nx:=λ_ S'=>Q .non S',rt:=Q } λ_=>E)(Sc:z1d N ps (z07 st):=by exact⟨rfl,rfl,rfl,by decide +kernel,rfl,by decide +kernel,by decide +kernel⟩):z2d Z.P WW.w Z.K Z.mg Z.base (CXw Z.xa Z.P WW.w) (k+1) f fd ps (lsp Z.xa sp):=wfn F Sc len ⟨t,λcdv A outer s H E hr=>hb f cdv A outer s H E hr Sc.nd,hp⟩
def zlv(k:Int)(h0:0<=k)(h3:k<5):∃ls n,("letters 2":Str).length+(zbV "\nhang a - 1\nunhang a" k).length<=200/\("letters 2"++zbV "\nhang a - 1\nunhang a" k:Str).length+("\nwear a a":Str).length<=200/\Txt.split ("letters 2"++zbV "\nhang a - 1\nunhang a" k++"\nwear a a") "\n"=("letters 2":Str)::ls/\Sh false n ls/\ls.length<=20/\((2+n:Nat):Int)=2+2*k:=by
 rcases(show k=0\/k=1\/k=2\/k=3\/k=4 by lia)with rfl|rfl|rfl|rfl|rfl
 .exact⟨_,0,by decide +kernel,by decide +kernel,by decide +kernel,.w,by decide,rfl⟩
 .exact⟨_,2,by decide +kernel,by decide +kernel,by decide +kernel,.h (.u .w),by decide,rfl⟩
 .exact⟨_,4,by decide +kernel,by decide +kernel,by decide +kernel,.h (.u (.h (.u .w))),by decide,rfl⟩
 .exact⟨_,6,by decide +kernel,by decide +kernel,by decide +kernel,.h (.u (.h (.u (.h (.u .w))))),by decide,rfl⟩
 .exact⟨_,8,by decide +kernel,by decide +kernel,by decide +kernel,.h (.u (.h (.u (.h (.u (.h (.u .w))))))),by decide,rfl⟩
inductive zkS(Z:Zx)(sa:Addr)(m:Nat):List U->En->Sto->Prop
 |mk {S1} (L:List U) (x y:Option U):(∀u∈L,∃w:Nat,u=.int w/\w<=13)->zkS Z sa m L [some (.ref sa),some (.int m),x,y,none] S1
def flk{w:Nat}:((flL (((List.range 14).map λk=>U.bl (decide (k=w)))++[.bl true])&&flL (((List.range 14).map λk=>U.bl (decide (k=w)))++[.bl true]))&&okL (((List.range 14).map λk=>U.bl (decide (k=w)))++[.bl true]) (((List.range 14).map λk=>U.bl (decide (k=w)))++[.bl true])&&decide (z6y (((List.range 14).map λk=>U.bl (decide (k=w)))++[.bl true])<=40))=true:=by rfl
def zid:z0N ["_law_script","_law_many","_law_way","_law_at","e"] (z07 zbG) ["_law_k","_law_way"] [none,some 2] (csc [(".0",.local),("_law_k",.local),("_law_way",.free)]):={}
def ziH(T:Z.Tx)(Tz:Te Z)(R:MdR Z)(JW:Z.f "_law_cell" 1 zek)(JC:Z.f "_law_classes" 14 (sCl Z))(Jo:Z.f "read_page" 12 (sRP Z))(JY:Z.f "_law_like" 2 pLk){f:Addr}{fd:FuncData}(D:Fun Z.K "law" "law" zbG f fd):z2d Z.P WW.w Z.K Z.mg Z.base (CXw Z.xa Z.P WW.w) 15 f fd ["_law_script"] (lsp Z.xa (zhv Z)):=by
 refine wFe ["_law_script","_law_many","_law_way","_law_at","e"] D (λf cdv A outer s H E hr nd=>z04 (z0n 1 nd (z0j z3P (sBu T zkj PyProof.Rows.boot_abs (z00 (z09 JW (hr.mono (by decide)) z0g (z00 (z01 0) (z00 z06 z02))) z02)) z06)) (z04 (z1U y0x rfl (zbj rfl (T.b _ (by decide)) (z00 z06 z02)) (z08 2 nd) (z03 (z0q (z0i (z1w (z1v hr)).2 (z09 JC (hr.mono (by decide)) z0g (z00 (z01 2) (z00 (z01 1) z02))) (z0j z12 (z0C ⟨zid,rfl,λ_ _ _ _ _=>⟨(z08 0 zid.nd),.nil,(z1x rfl (z2O (z1w (z1v hr)).1 (z01 0) (z01 1)))⟩,λg' e=>by cases e⟩ (zbj rfl (T.b _ (by decide)) (z00 z06 z02))) (z0Y (z00 zhf z02)))) (z03 (z0l zhf)) z0m))) (z04 (z0n 3 nd z4m) (z04 (za7 T.x rfl rfl rfl rfl rfl (λpn E1 xk hx=>(z03 (z0d (z09 Jo (hr.mono (by decide)) hx (z00 (z0j z12 (z0j z12 z0e (z0j zaO z0e (z0j z3P (z01 1) z06))) z0e) z02))))) (z7T 4 rfl nd λ_=>(z03 (z0n 3 nd (zjQ Tz.e rfl Tz.b.bf (z01 4)))))) (z03 (z0l (z09 JY (hr.mono (by decide)) z0g (z00 (z01 3) (z00 (z0j z12 z06 (z0j z7j z06 (z0j z3P (z01 1) z06))) z02))))))))) (λus S Q E h=>by cases h<;>rfl) ?_;rintro _ S Q E ⟨sa,ns,hsc,M,q⟩;refine .mk sa ns 0 hsc (by decide) (by decide) λc=>⟨by decide,?_⟩;have g0:0<=(if c<0 then -c else c)%100003:=Int.emod_nonneg _ (by decide);have g1:=Int.emod_lt_of_pos (if c<0 then -c else c) (show(0:Int)<100003 by decide);generalize(if c<0 then -c else c)%100003=mI at g0 g1⊢;obtain⟨m,rfl⟩:=y23 g0;refine⟨by decide,by decide,z2b (zkS Z sa m) (.mk _ _ _ λu hu=>?_) ?_ ?_⟩
 .obtain⟨i,hi,rfl⟩:=y0f.mp hu;exact⟨i,by simp,by have:=y2Y.mp hi;lia⟩
 .rintro ρ S1 ⟨_,x,y,_⟩;refine⟨trivial,?_⟩;obtain⟨ls,n,z1,z2,z3,sh,z4,en⟩:=zlv (m%5) (by lia) (by lia);refine⟨by decide,by lia,by lia,by decide +kernel,?_⟩;refine⟨y0Y (z1G (y0e z1 (by decide))),y0Y (z1G (y0e z2 (by decide))),.mk _ ls n z3 sh z4 (by rw[y0F,y0F];rw[y0F]at z2;lia) R M.any λdx S' h=>?_⟩;refine⟨by rw[(z43 dx).1];exact⟨"BadPage",rfl⟩,by unfold z6A;rw[(z43 dx).1];rfl,λea hea=>?_⟩;refine⟨ea,dx,_,rfl,z05,(z0k (z29 h hea)).trans h,?_⟩;refine⟨by decide,.inl ⟨by decide,by decide⟩,?_⟩;show pLk [.int ((2+n:Nat):Int),.int (2+2*((m:Int)%5))] _ _ _;rw[<-en];exact .mk _ (q _)
 .rintro u L ρ S1 h ih;generalize e:u::L=L0 at h;obtain⟨_,x,y,hL⟩:=h;subst e;obtain⟨w,rfl,hw⟩:=hL u (.head _);refine⟨trivial,.mk w m hw (by lia) R M.any λl S2 h2=>?_⟩;refine⟨by decide,by decide,?_⟩;refine z1f (List.range 14) (λk=>U.int (0+(k:Nat))) (λk=>U.bl (decide (k=w))) (λρ=>∃u,ρ=[u,some (.int w)]) ⟨_,rfl⟩ (by decide) (λ_ _=>trivial) ?_ ?_
  .rintro k _ ρ S' ⟨u,rfl⟩ e Qf qf;refine⟨rfl,?_⟩;rw[eqI,show decide ((0:Int)+(k:Nat)=(w:Nat))=decide (k=w)by rw[Int.zero_add];exact y36.mpr Int.ofNat_inj];exact qf _ _ ⟨_,rfl⟩ (.refl _)
  rintro ρ S3 ⟨u,rfl⟩ e3;refine z3U λl2 S4 e4 h4=>⟨show 1<=sizeLine by decide,z3U λl3 S5 e5 h5=>?_⟩;refine⟨_,_,e5 _ _ h4,h5,show 15<=sizeLine by decide,z3U λl4 S6 e6 h6=>?_⟩;refine⟨_,_,.inl (e6 _ _ (e5 _ _ (e4 _ _ (e3 _ _ h2)))),.inl h6,flk,?_⟩;rw[z5e];exact ih _ _ (.mk _ _ _ λu hu=>hL u (.tail _ hu))
end W
namespace W
open PySem L2 Gu
def zkC{α:Type}{us:List α}(h:us.length=4):∃a b c d,us=[a,b,c,d]:=by
 cases us with
 |nil=>cases h
 |cons a r =>
  obtain⟨b,c,d,rfl⟩:=zl5 (show r.length=3 by simpa using h);exact⟨a,b,c,d,rfl⟩
structure FA(K:yyF)(f:Addr)(x:Str)(st:Stmt):Prop where
 a:PySem.W.nsIn K mainGlobals x=some (some (.ref f))
 l:∃oc od kV dc pm an cd ct sl,K.lookup f=some ⟨oc,od,.func (PySem.W.fnOf x x (z0U st) (z0v st) (z07 st) .none kV dc pm an cd ct),sl⟩/\PySem.W.codeIn K cd x=true
 k:PySem.W.keepIn K (.ref f)=true
def FA.of{K:yyF}{f:Addr}{x:Str}{st:Stmt}{oc kV dc pm cd ct:Value}{od an:Option Addr}{sl:Array (Option Value)}(a:PySem.W.nsIn K mainGlobals x=some (some (.ref f)))(l:K.lookup f=some ⟨oc,od,.func (PySem.W.fnOf x x (z0U st) (z0v st) (z07 st) .none kV dc pm an cd ct),sl⟩)(c:PySem.W.codeIn K cd x=true)(k:PySem.W.keepIn K (.ref f)=true):FA K f x st:=⟨a,⟨_,_,_,_,_,_,_,_,_,l,c⟩,k⟩
def FA.go{K:yyF}{f:Addr}{x:Str}{st:Stmt}{h:Heap}{mg:yyS}(A:FA K f x st)(X:K.In h)(G:h.Ns mainGlobals mg):∃fd,Fun K x x st f fd/\mg x=some (.ref f)/\PySem.W.keepIn K (.ref f)=true:=by obtain⟨a,⟨_,_,_,_,_,_,_,_,_,l,c⟩,k⟩:=A;exact⟨_,z5K l c k,y0H X G a,k⟩
structure MA(K:yyF)(C f:Addr)(x q:Str)(st:Stmt):Prop where
 a:PySem.W.findIn K (.ref C) x=some (some (.ref f))
 i:PySem.W.isFn K (.ref f)=true
 l:∃oc od kV dc pm an cd ct sl,K.lookup f=some ⟨oc,od,.func (PySem.W.fnOf x q (z0U st) (z0v st) (z07 st) .none kV dc pm an cd ct),sl⟩/\PySem.W.codeIn K cd q=true
 k:PySem.W.keepIn K (.ref f)=true
def MA.of{K:yyF}{C f:Addr}{x q:Str}{st:Stmt}{oc kV dc pm cd ct:Value}{od an:Option Addr}{sl:Array (Option Value)}(a:PySem.W.findIn K (.ref C) x=some (some (.ref f)))(i:PySem.W.isFn K (.ref f)=true)(l:K.lookup f=some ⟨oc,od,.func (PySem.W.fnOf x q (z0U st) (z0v st) (z07 st) .none kV dc pm an cd ct),sl⟩)(c:PySem.W.codeIn K cd q=true)(k:PySem.W.keepIn K (.ref f)=true):MA K C f x q st:=⟨a,i,⟨_,_,_,_,_,_,_,_,_,l,c⟩,k⟩
def MA.go{K:yyF}{C f:Addr}{x q:Str}{st:Stmt}(A:MA K C f x q st):∃fd,Fun K x q st f fd/\ziX K C x f:=by obtain⟨a,i,⟨_,_,_,_,_,_,_,_,_,l,c⟩,k⟩:=A;exact⟨_,z5K l c k,⟨a,i,k⟩⟩
abbrev fnY(x q:Str)(st:Stmt)(kV dc pm:Value)(an:Option Addr)(cd ct:Value):=PySem.W.fnOf x q (z0U st) (z0v st) (z07 st) .none kV dc pm an cd ct
section
variable{K:yyF}{x q:Str}{st:Stmt}{f:Addr}{fd:FuncData}
def zl3{a:Str}(F:Fun K x q st f fd)(h:∀(kV dc pm:Value)(an:Option Addr)(cd ct u:Value),bindArgs (fnY x q st kV dc pm an cd ct) ⟨[u],[]⟩=pure [(a,u)]):z19 K fd [a] []:=F.binds λ_ _ _ _ _ _ us hl=>by obtain⟨_,rfl⟩:=zjB hl;exact h _ _ _ _ _ _ _
def ziY{a b:Str}(F:Fun K x q st f fd)(h:∀(kV dc pm:Value)(an:Option Addr)(cd ct u v:Value),bindArgs (fnY x q st kV dc pm an cd ct) ⟨[u,v],[]⟩=pure [(a,u),(b,v)]):z19 K fd [a,b] []:=F.binds λ_ _ _ _ _ _ us hl=>by obtain⟨_,_,rfl⟩:=zl6 hl;exact h _ _ _ _ _ _ _ _
def zkR{a b c:Str}(F:Fun K x q st f fd)(h:∀(kV dc pm:Value)(an:Option Addr)(cd ct u v w:Value),bindArgs (fnY x q st kV dc pm an cd ct) ⟨[u,v,w],[]⟩=pure [(a,u),(b,v),(c,w)]):z19 K fd [a,b,c] []:=F.binds λ_ _ _ _ _ _ us hl=>by obtain⟨_,_,_,rfl⟩:=zl5 hl;exact h _ _ _ _ _ _ _ _ _
def zm6{a b c d:Str}(F:Fun K x q st f fd)(h:∀(kV dc pm:Value)(an:Option Addr)(cd ct u v w y:Value),bindArgs (fnY x q st kV dc pm an cd ct) ⟨[u,v,w,y],[]⟩=pure [(a,u),(b,v),(c,w),(d,y)]):z19 K fd [a,b,c,d] []:=F.binds λ_ _ _ _ _ _ us hl=>by obtain⟨_,_,_,_,rfl⟩:=zkC hl;exact h _ _ _ _ _ _ _ _ _ _
end
section
variable{Z:Zx}{h:Heap}{x:Str}{st:Stmt}{f:Addr}{a b c d:Str}
def FA.d1(A:FA Z.K f x st)(X:Z.K.In h)(G:h.Ns mainGlobals Z.mg)(hb:∀(kV dc pm:Value)(an:Option Addr)(cd ct u:Value),bindArgs (fnY x x st kV dc pm an cd ct) ⟨[u],[]⟩=pure [(a,u)]:=by intros;rfl):Z.fd x st [a]:=(let⟨_,F,m,_⟩:=A.go X G;⟨_,_,F,zl3 F hb,m⟩)
def FA.d2(A:FA Z.K f x st)(X:Z.K.In h)(G:h.Ns mainGlobals Z.mg)(hb:∀(kV dc pm:Value)(an:Option Addr)(cd ct u v:Value),bindArgs (fnY x x st kV dc pm an cd ct) ⟨[u,v],[]⟩=pure [(a,u),(b,v)]:=by intros;rfl):Z.fd x st [a,b]:=(let⟨_,F,m,_⟩:=A.go X G;⟨_,_,F,ziY F hb,m⟩)
def FA.d3(A:FA Z.K f x st)(X:Z.K.In h)(G:h.Ns mainGlobals Z.mg)(hb:∀(kV dc pm:Value)(an:Option Addr)(cd ct u v w:Value),bindArgs (fnY x x st kV dc pm an cd ct) ⟨[u,v,w],[]⟩=pure [(a,u),(b,v),(c,w)]:=by intros;rfl):Z.fd x st [a,b,c]:=(let⟨_,F,m,_⟩:=A.go X G;⟨_,_,F,zkR F hb,m⟩)
variable{q:Str}
def MA.d1(A:MA Z.K Z.C f x q st)(T:Z.Tx)(hb:∀(kV dc pm:Value)(an:Option Addr)(cd ct u:Value),bindArgs (fnY x q st kV dc pm an cd ct) ⟨[u],[]⟩=pure [(a,u)]:=by intros;rfl):Z.md x q st [a]:=(let⟨_,F,m⟩:=A.go;⟨_,_,F,zl3 F hb,m,T.cl⟩)
def MA.d2(A:MA Z.K Z.C f x q st)(T:Z.Tx)(hb:∀(kV dc pm:Value)(an:Option Addr)(cd ct u v:Value),bindArgs (fnY x q st kV dc pm an cd ct) ⟨[u,v],[]⟩=pure [(a,u),(b,v)]:=by intros;rfl):Z.md x q st [a,b]:=(let⟨_,F,m⟩:=A.go;⟨_,_,F,ziY F hb,m,T.cl⟩)
def MA.d3(A:MA Z.K Z.C f x q st)(T:Z.Tx)(hb:∀(kV dc pm:Value)(an:Option Addr)(cd ct u v w:Value),bindArgs (fnY x q st kV dc pm an cd ct) ⟨[u,v,w],[]⟩=pure [(a,u),(b,v),(c,w)]:=by intros;rfl):Z.md x q st [a,b,c]:=(let⟨_,F,m⟩:=A.go;⟨_,_,F,zkR F hb,m,T.cl⟩)
def MA.d4(A:MA Z.K Z.C f x q st)(T:Z.Tx)(hb:∀(kV dc pm:Value)(an:Option Addr)(cd ct u v w y:Value),bindArgs (fnY x q st kV dc pm an cd ct) ⟨[u,v,w,y],[]⟩=pure [(a,u),(b,v),(c,w),(d,y)]:=by intros;rfl):Z.md x q st [a,b,c,d]:=(let⟨_,F,m⟩:=A.go;⟨_,_,F,zm6 F hb,m,T.cl⟩)
end
abbrev zbL(P:Addr):List Tb:=[⟨P,z9a (z0v z2D),("sewn.<locals>."++"<lambda>":Str)⟩]
abbrev wd1(w:World)(P:Addr):WW:=⟨w,zbL P,λ_=>zkX z2D ("sewn.<locals>."++"<lambda>":Str) ["place","guises","rows"] ["place"],λj ρ S Q=>j=0/\z8x z8L (z2W (z7n 2) (z2W (z7n 1) (z2W (z7n 0) zds))) ρ (nc S) (λu S1=>Q u (mgC S S1)) noQ⟩
def zeL{w:World}{P:Addr}:@zdc (wd1 w P) 0 ⟨P,z9a (z0v z2D),("sewn.<locals>."++"<lambda>":Str)⟩:=by refine @zdc.mk (wd1 w P) _ _ rfl (λρ S Q=>⟨λh=>h.2,λh=>⟨rfl,h⟩⟩) y0p (zeJ (Ts:=zbL P) (y1l.mpr ⟨y2s,List.nodup_nil⟩) y0p) rfl rfl
section
variable(K:yyF)
def zaS(x:Str):Option Addr:=match PySem.W.nsIn K mainGlobals x with
 |some (some (.ref a))=>some a
 |_=>none
def bpK(C:Addr):Addr:=match PySem.W.nsIn K (nsC K C) "__init__" with
 |some (some (.ref a))=>a
 |_=>0
def xaK(c:Nat):Addr:=match xL.find? (λp=>p.2==c)with
 |some p=>(zaS K p.1).getD 0
 |none=>bpK K ((zaS K "BadPage").getD 0)
def daK(x:Str):Addr:=(zaS K x).getD 0
def xIn:Bool:=xL.all λp=>decide (zaS K p.1=some (xaK K p.2))&&zf5 K (xaK K p.2) [.type "ValueError",.type "Exception",.type "BaseException",.type "object"] "ValueError.__new__" (xi (xaK K) p.2)&&xL.all λq=>decide (subIn K (xaK K p.2) (xaK K q.2)=z6A p.2 q.2)
def bIn:Bool:=bL.all λx=>match PySem.W.nsIn K mainGlobals x with
 |some none=>true
 |_=>false
def sIn:Bool:=sL.all λp=>match PySem.W.nsIn K mainGlobals p.1 with
 |some (some (.str c _))=>decide (c=p.2)
 |_=>false
def iIn:Bool:=iL.all λp=>match PySem.W.nsIn K mainGlobals p.1 with
 |some (some (.int c _))=>decide (c=p.2)
 |_=>false
def dIn:Bool:=dL.all λx=>(zaS K x).isSome
def nIn(C:Addr):Bool:=fL.all λf=>match PySem.W.findIn K (.ref C) f with
 |some none=>true
 |_=>false
def zkB:Bool:=K.all λp=>match p.2.data with
 |.seq _ _=>!(p.2.cls == .type "list")
 |_=>true
end
def zgy{K:yyF}{x:Str}{a:Addr}(h:zaS K x=some a):PySem.W.nsIn K mainGlobals x=some (some (.ref a)):=by
 unfold zaS at h;split at h
 .rename_i e;cases h;exact e
 .cases h
def z2u{α:Type}{L:List (Str × α)}{x:Str}{c:α}(h:L.lookup x=some c):(x,c)∈L:=by
 induction L with
 |nil=>cases h
 |cons p r ih =>
  obtain⟨b,y⟩:=p;simp only[List.lookup]at h;split at h
  .rename_i q;cases h;rw[y1y.mp q];exact y0p
  .exact y0d _ (ih h)
def zkf{K:yyF}{a:Addr}{o:Obj}{its:Array Value}{n:Nat}(h:zkB K=true)(hk:K.lookup a=some o)(h1:o.cls=.type "list")(h2:o.data=.seq its n):False:=by
 induction K with
 |nil=>cases hk
 |cons p r ih =>
  obtain⟨b,y⟩:=p;have h:_/\_:=y3d.mp h;simp only[List.lookup]at hk;split at hk
  .cases hk;have z:=h.1;simp only[h2,h1]at z;exact absurd z (by decide)
  .exact ih h.2 hk
def zjk[WW]{Z:Zx}{h:Heap}(X:Z.K.In h)(G:h.Ns mainGlobals Z.mg)(ex:Z.xa=xaK Z.K)(ed:Z.da=daK Z.K)(hx:xIn Z.K=true)(hb:bIn Z.K=true)(hs:sIn Z.K=true)(hi:iIn Z.K=true)(hd:dIn Z.K=true)(hn:nIn Z.K Z.C=true)(c:Cls Z.K Z.C):Z.Tx:=by
 have hX:∀x c,xL.lookup x=some c->(zaS Z.K x=some (Z.xa c)/\zf5 Z.K (Z.xa c) [.type "ValueError",.type "Exception",.type "BaseException",.type "object"] "ValueError.__new__" (xi Z.xa c)=true)/\∀q∈xL,subIn Z.K (Z.xa c) (Z.xa q.2)=z6A c q.2:=λx c e=>by have z:=y0u.mp hx _ (z2u e);rw[y0b,y0b]at z;rw[ex];exact⟨⟨y0m z.1.1,z.1.2⟩,λq hq=>y0m (y0u.mp z.2 q hq)⟩
 refine⟨λx h=>?_,⟨λx c e=>y0H X G (zgy (hX x c e).1.1),λx c e=>⟨_,_,_,_,(hX x c e).1.2,PySem.F.excBase_ValueError⟩,λx c y d e e'=>(hX x c e).2 _ (z2u e'),λx c e=>y0u.mp (show xL.all (λp=>Nat.blt p.2 16)=true from rfl) _ (z2u e)⟩,λx c e=>?_,λx c e=>?_,λx h=>?_,c,λf h=>?_⟩
 .have z:=y0u.mp hb x h;split at z
  .rename_i e;exact PySem.W.mg_none_of X G e
  .cases z
 .have z:=y0u.mp hs _ (z2u e);split at z
  .rename_i e;cases y0m z;exact⟨_,y0H X G e⟩
  .cases z
 .have z:=y0u.mp hi _ (z2u e);split at z
  .rename_i e;cases y0m z;exact⟨_,y0H X G e⟩
  .cases z
 .have z:=y0u.mp hd x h;obtain⟨a,e⟩:=y2y.mp z;rw[ed,show daK Z.K x=a by unfold daK;rw[e];rfl];exact y0H X G (zgy e)
 .have z:=y0u.mp hn f h;split at z
  .assumption
  .cases z
def zl9(K:yyF)(C:Addr):Bool:=PySem.W.findIn K (.ref C) "__getattribute__" == some (some (.builtin "BaseException.__getattribute__"))&&PySem.W.findIn K (.ref C) "__getattr__" == some none&&PySem.W.subIn K (.ref C) (.type "BaseException")==some true&&PySem.W.hasDictIn K C&&PySem.W.findIn K (.ref C) "__class__" == some (some (.builtin "object.__class__"))&&PySem.W.mroIn K C (.type "object")==some true&&PySem.W.kitOne K (.ref C) (.type "ValueError")==some true
def eIn(K:yyF):Bool:=PySem.W.specialIn K (.builtin "object.__class__") "__get__" == some (some (.builtin "getset_descriptor.__get__"))&&PySem.W.takesIn K (.builtin "object.__class__")==some true&&xL.all λp=>zl9 K (xaK K p.2)&&xL.all λq=>PySem.W.kitOne K (.ref (xaK K p.2)) (.ref (xaK K q.2))==some (z6A p.2 q.2)
def zjI(K:yyF):Bool:=PySem.W.findIn K (.ref (xaK K 7)) "__setattr__" == some (some (.builtin "object.__setattr__"))&&z57 K (xaK K 7)&&PySem.W.findIn K (.ref (xaK K 7)) "at" == some none&&PySem.W.hasDictIn K (xaK K 7)&&PySem.W.keepIn K (.ref (xaK K 7))&&match K.lookup (xaK K 15)with
 |some o=>o.cls == .type "function"
 |none=>false
def zjg[WW]{Z:Zx}{h:Heap}{C f:Addr}(X:Z.K.In h)(G:h.Ns mainGlobals Z.mg)(ex:Z.xa=xaK Z.K)(he:eIn Z.K=true)(hp:zjI Z.K=true)(hv:PySem.W.nsIn Z.K mainGlobals "ValueError"=some none)(ef:xaK Z.K 15=f)(hi:MA Z.K C f "__init__" "BadPage.__init__" z8D):Te Z:=by
 subst ef;unfold eIn zl9 at he;simp only[y0b,y1y,y0u]at he;unfold zjI at hp;simp only[y0b,y1y]at hp;obtain⟨⟨h1,h2⟩,h3⟩:=he;obtain⟨⟨⟨⟨⟨p1,p2⟩,p3⟩,p4⟩,p5⟩,p6⟩:=hp;obtain⟨fd,F,_⟩:=hi.go;refine⟨⟨λx c e=>?_,λx c y d e e'=>?_,λx c e=>?_⟩,?_,PySem.W.mg_none_of X G hv⟩
 .obtain⟨⟨⟨⟨⟨⟨⟨a1,a2⟩,a3⟩,a4⟩,a5⟩,a6⟩,_⟩,_⟩:=h3 _ (z2u e);rw[ex];exact⟨a1,a2,a3,a4,a5,h1,h2,a6⟩
 .rw[ex];exact(h3 _ (z2u e)).2 _ (z2u e')
 .rw[ex];exact(h3 _ (z2u e)).1.2
 .rw[ex];refine⟨⟨fd,"BadPage.__init__",_,_,_,_,F,⟨rfl,rfl,rfl,by decide +kernel,rfl,by decide +kernel,by decide +kernel⟩,rfl,λa c=>rfl,⟨rfl,rfl⟩,ziY F λ_ _ _ _ _ _ _ _=>rfl⟩,⟨p1,p2,p3,p4⟩,?_,p5⟩;split at p6
  .rename_i o e;exact⟨o,e,by simpa using p6⟩
  .cases p6
def zlk[WW]{Z:Zx}{x y:Str}{k:Nat}{sp:Wsp}(h:Z.f x k sp)(e:Z.mg y=Z.mg x):Z.f y k sp:=(let⟨_,_,_,F,B,K,m⟩:=h.ok;⟨_,_,_,F,B,K,e.trans m⟩)
def zhI{w:World}{P:Addr}{K:yyF}{Z:Zx}(hl:zkB K=true)(M:∀S,Md Z S)(xa:Nat->Addr):∀vs H Q E,z8n (zbL P) K vs H Q E->@lsp (wd1 w P) xa (zhv Z) vs H Q E:=by
 letI:WW:=wd1 w P
 rintro _ H Q E ⟨a,ns,rfl,hS,hn,hT,q⟩;rcases hS with hS|⟨o,its,n,k1,k2,_,k3,_⟩
 .have hu:∀ns:List Int,UrL H (ns.map U.int) (ns.map V.int):=λns=>by
   induction ns with
   |nil=>exact .nil
   |cons i r ih=>exact .cons (by simp only[Ur]) ih
  have key:∀o:Ob,ObR H a o->isL (up (λ_=>none) a o) a (ns.map U.int)->lsp xa (zhv Z) [.ref a] H Q E:=λo ho hi=>by
   refine⟨[],[.ref a],up (λ_=>none) a o,λu _=>u=.bl true,λ_ _=>False,⟨λb p hb=>?_,λ_ h=>absurd h (by simp),hT⟩,.cons (by simp only[Ur]) .nil,.mk a ns hi (M _) λ_=>rfl,λu S v H' _ _ hv e=>?_,λ_ _ _ _ _ _ h=>h.elim⟩
   .by_cases e:b=a
    .subst e;rw[z05]at hb;cases hb;exact ho
    .rw[z0k e]at hb;cases hb
   .subst e;simp only[Ur]at hv;subst hv;exact q H'
  rcases hS with e|⟨o,e⟩
  .exact key (.lst (ns.map .int)) ⟨_,e,hu ns⟩ (.inl z05)
  .exact key (.scr (ns.map .int)) ⟨o,_,e,hu ns⟩ (.inr z05)
 .exact(zkf hl k1 k2 k3).elim
def z5V{Z:Zx}{x:Str}{f:Addr}(h:Z.mg x=some (.ref f)):Z.fa x=f:=by unfold Zx.fa;rw[h]
def all_mk{l:PySem.W.OpenLaw}{w:World}{K:yyF}{h:Heap}{mg:yyS}{fa C f1 f2 f3 f4 f5 f6 f7 f8 f9 f10 f11 f12 f13 f14 f15 f16 f17 f18 f19 f20 f21 f22 f23 f24 f25 f26 f27 f28 f29 f30 f31 f32 f33 f34 f35 f36 f37 f38 f39 f40 f41 f42 f43 f44 f45 f46 f47 f48 f49 f50 f51 f52 f53 f54 f55 f56 f57 f58 f59 f60 f61 f62 f63 f64 f65 f66 f67 f68 f69:Addr}(X:K.In h)(G:h.Ns mainGlobals mg)(hfa:mg "law"=some (.ref fa)){od16 an16 od69 an69:Option Addr}{sl16 sl69:Array (Option Value)}{oc16 kV16 dc16 pm16 ct16 oc69 kV69 dc69 pm69 ct69 cd69:Value}{cc16 P16:Addr}(aC:PySem.W.nsIn K mainGlobals "House"=some (some (.ref C)))(pg:PySem.W.plainGet K C Str.empty=true)(hd:PySem.W.hasDictIn K C=true)(po:PySem.W.plainOver K C=true)(sa:PySem.W.findIn K (.ref C) "__setattr__"=some (some (.builtin "object.__setattr__")))(mk:PySem.W.makesIn K C=true)(kc:PySem.W.keepIn K (.ref C)=true)(h1:FA K f1 "is_name" z5i)(h2:FA K f2 "plainly_written" z4M)(h3:FA K f3 "word_written" z5d)(h4:FA K f4 "row_written" z8m)(h5:FA K f5 "rows_written" z4Q)(h6:FA K f6 "line_written" z1V)(h7:FA K f7 "rearranges" zaH)(h8:FA K f8 "check_machine" z80)(h9:FA K f9 "numbered" z2v)(h10:FA K f10 "kinds_gone_to" zc0)(h11:FA K f11 "kinds_of_rows" z60)(h12:FA K f12 "rows_come_to" zbI)(h13:FA K f13 "least_form" zak)(h14:FA K f14 "place_gone_to" z22)(h15:FA K f15 "row_at" z7R)(a16:PySem.W.nsIn K mainGlobals "sewn"=some (some (.ref f16)))(l16:K.lookup f16=some ⟨oc16,od16,.func (PySem.W.fnOf "sewn" "sewn" (z0U z2D) (z0v z2D) (z07 z2D) .none kV16 dc16 pm16 an16 (.ref cc16) ct16),sl16⟩)(c16:PySem.W.codeIn K (.ref cc16) "sewn"=true)(k16:PySem.W.keepIn K (.ref f16)=true)(h17:FA K f17 "names_gone_to" z1j)(h18:FA K f18 "check_sewing" z1h)(h19:FA K f19 "least_ring" z70)(h20:FA K f20 "count_ringed" z77)(h21:FA K f21 "check_ring" zfs)(h22:FA K f22 "plain_word" z6K)(h23:FA K f23 "check_word" z4I)(h24:FA K f24 "check_endless" z51)(h25:FA K f25 "breadth" z58)(h26:FA K f26 "read_from" zbb)(h27:FA K f27 "strung" z4z)(h28:FA K f28 "worn_endless" zaZ)(h29:MA K C f29 "__init__" "House.__init__" zf1)(h30:MA K C f30 "check_new" "House.check_new" z3f)(h31:MA K C f31 "put" "House.put" zk1)(h32:MA K C f32 "keep" "House.keep" zgf)(h33:MA K C f33 "guise" "House.guise" z9Y)(h34:MA K C f34 "held_by" "House.held_by" z7r)(h35:MA K C f35 "drop" "House.drop" zgd)(h36:MA K C f36 "hang" "House.hang" zeN)(h37:MA K C f37 "wear" "House.wear" zeh)(h38:MA K C f38 "doff" "House.doff" zf0)(h39:MA K C f39 "sew" "House.sew" zj8)(h40:MA K C f40 "undo" "House.undo" zg0)(h41:MA K C f41 "unhang" "House.unhang" z7w)(h42:FA K f42 "same_letters" zgo)(h43:FA K f43 "still" zax)(h44:FA K f44 "worn" zei)(h45:FA K f45 "order" z9p)(h46:FA K f46 "words_on_floor" z4X)(h47:FA K f47 "floor" za1)(h48:FA K f48 "form" zet)(h49:FA K f49 "are_figures" z5l)(h50:FA K f50 "read_name" z6J)(h51:FA K f51 "read_number" zdz)(h52:FA K f52 "read_figures" z8o)(h53:FA K f53 "read_word" z6S)(h54:FA K f54 "read_rows" zag)(h55:FA K f55 "head_of_line" z9U)(h56:FA K f56 "read_parts" z4O)(h57:FA K f57 "read_line" z6R)(h58:FA K f58 "do_deed" z6D)(h59:FA K f59 "first_row" z3X)(h60:FA K f60 "house_begun" z2k)(h61:FA K f61 "read_page" z3E)(h62:FA K f62 "_law_cell" zeD)(h63:FA K f63 "_law_whole" zbp)(h64:FA K f64 "_law_like" zfS)(h65:FA K f65 "_law_house" z7l)(h66:FA K f66 "_law_plainly" z3s)(h67:FA K f67 "_law_in_house" z3z)(h68:FA K f68 "_law_classes" z3C)(a69:PySem.W.nsIn K mainGlobals "law"=some (some (.ref f69)))(l69:K.lookup f69=some ⟨oc69,od69,.func (PySem.W.fnOf "law" "law" (z0U zbG) (z0v zbG) (z07 zbG) .none kV69 dc69 pm69 an69 cd69 ct69),sl69⟩)(c69:PySem.W.codeIn K cd69 "law"=true)(k69:PySem.W.keepIn K (.ref f69)=true)(t16:PySem.W.codeHdIn K cc16 P16=true)(u16:K.lookup P16=none){a_DEEDS:Addr}(gDEEDS:PySem.W.nsIn K mainGlobals "DEEDS"=some (some (.ref a_DEEDS)))(wDEEDS:z1N K a_DEEDS=true)(qDEEDS:z9K K a_DEEDS=true){a_WRITERS:Addr}(gWRITERS:PySem.W.nsIn K mainGlobals "WRITERS"=some (some (.ref a_WRITERS)))(wWRITERS:z1N K a_WRITERS=true)(qWRITERS_name:PySem.W.nsIn K a_WRITERS (str "name")=some (some (.ref f2)))(qWRITERS_number:PySem.W.nsIn K a_WRITERS (str "number")=some (some (.ref f2)))(qWRITERS_word:PySem.W.nsIn K a_WRITERS (str "word")=some (some (.ref f3)))(qWRITERS_ring:PySem.W.nsIn K a_WRITERS (str "ring")=some (some (.ref f3)))(qWRITERS_rows:PySem.W.nsIn K a_WRITERS (str "rows")=some (some (.ref f5))){a_READERS:Addr}(gREADERS:PySem.W.nsIn K mainGlobals "READERS"=some (some (.ref a_READERS)))(wREADERS:z1N K a_READERS=true)(qREADERS_name:PySem.W.nsIn K a_READERS (str "name")=some (some (.ref f50)))(qREADERS_number:PySem.W.nsIn K a_READERS (str "number")=some (some (.ref f51)))(qREADERS_word:PySem.W.nsIn K a_READERS (str "word")=some (some (.ref f53)))(qREADERS_ring:PySem.W.nsIn K a_READERS (str "ring")=some (some (.ref f52)))(qREADERS_rows:PySem.W.nsIn K a_READERS (str "rows")=some (some (.ref f54))){Cp fBP:Addr}(he:eIn K=true)(hp:zjI K=true)(vv:PySem.W.nsIn K mainGlobals "ValueError"=some none)(gBP:PySem.W.nsIn K mainGlobals "BadPage"=some (some (.ref Cp)))(hBP:MA K Cp fBP "__init__" "BadPage.__init__" z8D)(eI:xaK K 15=fBP)(al_order_crews:PySem.W.nsIn K mainGlobals "order_crews"=some (some (.ref f45)))(al_floor_floors:PySem.W.nsIn K mainGlobals "floor_floors"=some (some (.ref f47)))(xx:xIn K=true)(bb:bIn K=true)(ss:sIn K=true)(ii:iIn K=true)(dd:dIn K=true)(nn:nIn K C=true)(nl:zkB K=true): ∃fd:FuncData,(∀(s:Shared) (v:Value),BindsTo s fd ⟨[v],[]⟩ [("_law_script",v)])/\(∀T∈(zbL P16),K.lookup T.at_=none/\∃c,PySem.W.codeHdIn K c T.at_=true)/\∀base:Heap,K.In base->base.Ns mainGlobals mg->z44 base mg->z2d l.prog w K mg base (CXw (xaK K) l.prog w) 15 fa fd ["_law_script"] (z8n (zbL P16) K):=by
 have e:=hfa.symm.trans (y0H X G a69);cases e;refine⟨PySem.W.fnOf "law" "law" (z0U zbG) (z0v zbG) (z07 zbG) .none kV69 dc69 pm69 an69 cd69 ct69,λs v=>.of_eq rfl,λT h=>?_,λbase hK _ hBM=>?_⟩
 .cases y0q.mp h;exact⟨u16,cc16,t16⟩
 letI:WW:=wd1 w P16
 let Z:Zx:=⟨l.prog,K,mg,base,xaK K,C,daK K⟩;have T:Z.Tx:=zjk (Z:=Z) X G rfl rfl xx bb ss ii dd nn ⟨pg,hd,po,sa⟩;have D16:Z.fdL "sewn" z2D ["rows","guises"] cc16:=⟨_,_,z5K (st:=z2D) l16 c16 k16,rfl,ziY (z5K (st:=z2D) l16 c16 k16) (λ_ _ _ _ _ _ _ _=>rfl),y0H X G a16⟩;have eW:daK K "WRITERS"=a_WRITERS:=by unfold daK zaS;rw[gWRITERS];rfl
 have eD:daK K "DEEDS"=a_DEEDS:=by unfold daK zaS;rw[gDEEDS];rfl
 have u2:=z5V (Z:=Z) (y0H X G h2.a);have u3:=z5V (Z:=Z) (y0H X G h3.a);have u5:=z5V (Z:=Z) (y0H X G h5.a);have M:∀S,Md Z S:=λS=>⟨by show z1N K (daK K _)=true;rw[eD];exact wDEEDS,by show ∀p∈z1B,∃t,PySem.W.nsIn K (daK K _) p.1=_/\_;rw[eD];exact z96 qDEEDS,by show z1N K (daK K _)=true;rw[eW];exact wWRITERS,by show ∀p∈wrT,PySem.W.nsIn K (daK K _) p.1=_;rw[eW];simp only[wrT,List.forall_mem_cons,u2,u3,u5];exact⟨qWRITERS_name,qWRITERS_number,qWRITERS_word,qWRITERS_ring,qWRITERS_rows,λ_ h=>absurd h (by simp)⟩⟩;have Tz:Te Z:=zjg (Z:=Z) X G rfl he hp vv eI hBP;have eR:daK K "READERS"=a_READERS:=by unfold daK zaS;rw[gREADERS];rfl
 have u50:=z5V (Z:=Z) (y0H X G h50.a);have u51:=z5V (Z:=Z) (y0H X G h51.a);have u53:=z5V (Z:=Z) (y0H X G h53.a);have u52:=z5V (Z:=Z) (y0H X G h52.a);have u54:=z5V (Z:=Z) (y0H X G h54.a);have R:MdR Z:=⟨by show z1N K (daK K _)=true;rw[eR];exact wREADERS,by show ∀p∈rdT,PySem.W.nsIn K (daK K _) p.1=_;rw[eR];simp only[rdT,List.forall_mem_cons,u50,u51,u53,u52,u54];exact⟨qREADERS_name,qREADERS_number,qREADERS_word,qREADERS_ring,qREADERS_rows,λ_ h=>absurd h (by simp)⟩⟩;have JW:=z5N T (h62.d2 X G);have m___init__:=z2L T (h29.d2 T);have Ji:Z.k "House" 1 (zgu Z):=(let⟨_,_,_,F,B,M,_⟩:=m___init__.ok;⟨_,_,_,F,B,⟨mk,M.at_,M.fn,kc⟩,y0H X G aC⟩);have JP:=z4E T (h7.d2 X G);have Jb:=z2X T JP (h8.d3 X G);have Vg:=zeq T Jb (h48.d2 X G);have Je:=zfW T (h23.d2 X G);have Jf:=z95 T (h25.d1 X G);have Vh:=zeZ T Je Jf (h44.d2 X G);have JB:=z3D T (h42.d1 X G);have Va:=zdp T JB (h43.d1 X G);have f_order:=zbJ T (h45.d2 X G);have JL:=zlk (y:="order_crews") f_order ((y0H X G al_order_crews).trans (y0H X G h45.a).symm);have Js:=z8J T (h1.d1 X G);have Jm:=z2w T Js (h30.d3 T);have Jk:=zg7 T (h21.d1 X G);have Jc:=zfJ T Jk Je (h24.d2 X G);have Jh:=z2y T (h2.d1 X G);have Jq:=z3S T (h3.d1 X G);have JM:=z42 T Jq Jh (h4.d1 X G);have f_rows_written:=z3k T JM (h5.d1 X G);have hT:Tab Z 6 (zhX Z):=λf sp h=>by
  cases h
  .exact Zx.f_at Jh (by decide)
  .exact Zx.f_at Jq (by decide)
  .exact Zx.f_at f_rows_written (by decide)
 have Jz:=z3j T hT (h6.d1 X G);have m_put:=z5Z T (h31.d3 T);have Ja:=z55 T Jz m_put (h32.d4 T);have JU:=zcz T (h19.d1 X G);have JE:=zaY T (h20.d2 X G);have Jj:=z9h T Jk JU JE (h22.d2 X G);have Jl:=z4T T Jm Jc Ja Jj (h36.d4 T);have Jr:=z2I T (h46.d2 X G);have f_floor:=zda T Jf Jr (h47.d2 X G);have Jx:=zlk (y:="floor_floors") f_floor ((y0H X G al_floor_floors).trans (y0H X G h47.a).symm);have Vi:=z4P T (h40.d1 T);have JA:=z3V T (h55.d1 X G);have f_read_name:=z5y T Js (h50.d1 X G);have JJ:=z4a T (h49.d1 X G);have Jp:=z3F T JJ (h52.d1 X G);have f_read_word:=z65 T Jp (h53.d1 X G);have hR:Tab Z 3 (zia Z):=λf sp h=>by
  cases h
  .exact Zx.f_at f_read_name (by decide)
  .exact Zx.f_at f_read_word (by decide)
  .exact Zx.f_at Jp (by decide)
 have JQ:=z4A T hR (h56.d2 X G);have Jn:=z5O T JA JQ (h57.d1 X G);have JX:=z69 T (h59.d1 X G);have JK:=z4c T JX Ji (h60.d1 X G);have JO:=z47 T (h33.d2 T);have JZ:=z5p T JO Ja (h35.d2 T);have Jg:=z2Y T (h34.d2 T);have JI:=zcC T (h26.d3 X G);have Vc:=z9c T (h27.d1 X G);have JD:=z3G T Jc Jf JI Jj Vc (h28.d2 X G);have JV:=z4N T Jg JD JO Ja (h37.d3 T);have JF:=z3K T Jg Ja (h41.d2 T);have Vd:=z94 T JZ Jl JV JF (h58.d2 X G);have Jo:=z61 T JK Vd Jn Tz (h61.d1 X G);have JH:=z3R T Ji Vg Vh Va JL Jl Jx Vi Jn Jo (h66.d2 X G);have Jy:=z3N T Jb (h18.d2 X G);have Ju:=z30 T (h17.d1 X G);have Jv:=zc4 T (h14.d2 X G);have Vb:=zch T Jv (h15.d3 X G);have Ls:zjd Z.xa Z.P Z.K Z.mg Z.base 4:=λj H f cp h=>by
  by_cases e:j=0
  .subst e;exact⟨(z8s (Z:=Z) zeL Vb H f cp h).1,λH' s A outer s us vs Q hr=>(z8s (Z:=Z) zeL Vb H f cp h).2 H' ‹_› A outer s us vs Q (hr.mono (by decide))⟩
  .have hn:∀ρ S Q,¬WW.rd j ρ S Q:=λρ S Q z=>e (show j=0/\_ from z).1;exact zgx hn H f cp h
 have JG:=zgc T Ls (h12.d2 X G);have JN:=zfO T (h9.d1 X G);have Jd:=zfu T (h10.d2 X G);have Jw:=zcX T JN Jd (h11.d1 X G);have JT:=zcc T JG Jw Jd (h13.d2 X G);have Vf:=zfI T zeL (PySem.W.codeHd_of_K hK t16) hBM JT D16;have m_sew:=z5L T Jm Jy Ju Ja Vf (h39.d3 T);have JS:=z4Y T Ji m_sew Jl (h65.d1 X G);have Ve:=z56 T Jg Ja (h38.d2 T);have Jt:=z2Z T JS Jl JZ JF JV m_sew Ve (h67.d2 X G);have JC:=z3w T JH Jt Tz (h68.d2 X G);have JR:=z4U T (h63.d1 X G);have JY:=z6r T JR (h64.d2 X G);exact z2d.sub (ziH T Tz R JW JC Jo JY (z5K (st:=zbG) l69 c69 k69):z2d Z.P w K mg base (CXw Z.xa Z.P w) 15 _ _ _ (lsp Z.xa (zhv Z))) (zhI nl M _)
def walk{l:PySem.W.OpenLaw}{q:Program}{loose:List Str}{XP:(yyS)->Heap->Prop}{YP:World->Heap->Prop}{d:DefRec}{K:Params->yyF}{P16:Addr}(hn:l.most=some 63)(hdf:d.params.defaults=[])(hY:∀(w:World) (h:Heap),YP w h->(K w.params).In h/\∀P∈([P16]:List Addr),h.get? P=some (PySem.W.tabObj #[]))(F:∀(w:World) (mg:yyS) (fa:Addr) (h:Heap),(K w.params).In h->h.Ns mainGlobals mg->mg d.name=some (.ref fa) -> ∃fd:FuncData,(∀(s:Shared) (u:Value),BindsTo s fd ⟨[u],[]⟩ [("_law_script",u)])/\(∀T∈(zbL P16),(K w.params).lookup T.at_=none/\∃c,PySem.W.codeHdIn (K w.params) c T.at_=true)/\∀base:Heap,(K w.params).In base->base.Ns mainGlobals mg->z44 base mg->z2d l.prog w (K w.params) mg base (CXw (xaK (K w.params)) l.prog w) 15 fa fd ["_law_script"] (z8n (zbL P16) (K w.params))) : PySem.W.WalkO q loose XP YP l.row.toRowW d [] (λf vs=>PySem.call f vs) :=
 L2.walk_of2 (Ts:=(zbL P16)) (n:=63) (k:=15) (x:="_law_script") (CX:=λw=>(CXw (xaK (K w.params)) l.prog w)) (sp:=λw=>z8n (zbL P16) (K w.params)) hn (by decide) hdf ⟨rfl,by decide,by decide⟩ hY F (λ_ _ a ns hl hT hS=>⟨a,ns,rfl,hS,hl,hT,λ_=>rfl⟩) λ_ _ _ _ _ z=>(by obtain⟨_,_,_,_,_,_,_,_,_,h⟩:=z;exact h)
end W
open PySem.W PyProof.Rows
set_option maxRecDepth 100000 in
set_option maxHeartbeats 0 in
theorem PySem.Challenge.cw_guisery_k57_refusals_apart_holds : PySem.Challenge.rw_guisery_k57_refusals_apart.Holds := by
 w_on;o_law;refine holds_open (q:=Gu.viewOf Gu.pY) (loose:=Gu.looseY) (Xt:=λs=>xlAt (Gu.viewOf Gu.pY) [] s&&recOk (RowW.records Gu.rY.toRowW) s) (XP:=XL (Gu.viewOf Gu.pY) []) (Yf:=Hook.obs Gu.HK) (Ya:=Hook.val Gu.HK) (YP:=Hook.says (PySem.W.kmHook Gu.KH Gu.KA (λ_=>by kernel_rfl) [574])) (N:=14572) Gu.left (Hook.of Gu.HK) (Hook.keeps Gu.HK) (λs e=>xl_of s (y3d.mp e).1) XL.keeps (by rfl) (by rfl) (by rfl) (λs e=>recFacts_of (y3d.mp e).2) (by rfl) (by first|assumption|decide +kernel) (by decide +kernel) ⟨rfl,rfl,rfl,rfl,rfl,by decide +kernel⟩ ?hw ?hc;(case hw=>w_witness2)
 k_fill
 refine _root_.W.walk (l:=PySem.Challenge.rw_guisery_k57_refusals_apart) rfl rfl (λw h Y=>⟨PySem.W.km_in_of Y,PySem.W.km_tabs_of Y⟩) ?F;case F =>
  intro w mg fa h KX G hmg;apply _root_.W.all_mk (K:=Gu.KH w.params) KX G hmg;all_goals try first|k_is|(refine' _root_.W.FA.of ?_ ?_ ?_ ?_<;>try k_is)|(refine' _root_.W.MA.of ?_ ?_ ?_ ?_ ?_<;>try k_is)|kernel_rfl
