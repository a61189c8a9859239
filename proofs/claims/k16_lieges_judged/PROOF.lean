import PyProof.Rows.All
import KE.RegKIsAll
import KE.RegKTryMore
import Wide.All
import OpenK.KLine
import OpenK.KWalk
import OpenK.KOwn
import Wide.FinOn
import PyProof.EqAt
import PyProof.EqKinds
import PyProof.TupleCall
import PyProof.P3Eq
import PyProof.NeData
import KE.KTryDeep
import KE.KTryMore
import KE.KIsAll
import PyProof.NsDelKeeps
import PyProof.ExcArgsOwn
import OpenK.KTop
import PyProof.ExcBaseAll.ValueError
import PyProof.EnumMake
import PyProof.Draws
import KE.KSetDisp
import PyProof.SetRoads
import PyProof.Rows.SortStr
import PyProof.Rows.SortWalk
import PyProof.DictItems
import PyProof.DictValues
import KE.KSortTup
import PyProof.SetKind
import KE.KDictList
import KE.KItemsList
import KE.KDictOf
import PyProof.Rows.SetFrom
import KE.KEqDict
import KE.KDictLaws
import PyProof.ListRange
import KE.KSortKey
import KE.KListMore
import PyProof.AutoListH
import PyProof.DictTruth
import PySem.Challenge.RW_manrent_k16_lieges_judged
set_option hygiene false
local macro_rules
|`(0x0)=>`(⟨rfl,rfl,rfl,by decide +kernel,rfl,by decide +kernel,by decide +kernel⟩)
|`(0x1)=>`(fun vs H Q E h=>by cases h;subst_vars;rfl)
|`(0x2)=>`(fun cdv A outer s H vs Q E hr h=>?_)
|`(0x3)=>`(by lia)
|`(0x4)=>`(fun _ _=>rfl)
|`(0x5)=>`(by intro z;cases z)
|`(0x6)=>`(by decide)
|`(0x7)=>`(⟨_,rfl,r,_,_,_,rfl,rfl,bZ.of hx,aJ (j:=0) rfl,rfl,_,rfl,gj 0x1A ?_⟩)
|`(0x8)=>`(Or.inl rfl)
|`(0x9)=>`(model X.prog X.w)
|`(0xA)=>`(by simp)
|`(0xB)=>`(⟨rfl,by decide +kernel,by decide +kernel,by decide +kernel,rfl,by decide +kernel⟩)
|`(0xC)=>`(aZ (pv 0) rfl)
|`(0xD)=>`(es.filter fun y=>decide (y.n≠e0.n))
|`(0xE)=>`(by with_unfolding_all rfl)
|`(0xF)=>`(fun _=>rfl)
|`(0x10)=>`(pv 1)
|`(0x11)=>`(s.heap.objs.size+1)
|`(0x12)=>`(⟨_,rfl,r,_,_,_,rfl,rfl,bZ.of x2,aJ (j:=0) rfl,rfl,_,rfl,gj 0x1A ?_⟩)
|`(0x13)=>`(.dK kvs)
|`(0x14)=>`(model prog w)
|`(0x15)=>`(((eO items.size 0 lo:Nat):Int)==0&&(1:Int)==1&&(eO items.size items.size hi - eO items.size 0 lo)==items.size)
|`(0x16)=>`(by intro q;cases q)
|`(0x17)=>`(Addr×Obj)
|`(0x18)=>`(mod y.n (lY m) es)
|`(0x19)=>`(aN bA 0x10 aA 0x4)
|`(0x1A)=>`(by decide +kernel)
|`(0x1B)=>`(bH (u1 hr) (pv 0) aK 0x4)
|`(0x1C)=>`(.lst (all.map V.ref++[V.ref r]))
|`(0x1D)=>`(cF e0.n p e0.own es)
local macro_rules
|`(0x1E)=>`(eF p1 p2 p3 p4 p5 ph pd p8)
|`(0x1F)=>`(.ListComp elt [⟨tg,iter,ifs,0⟩] scope pos)
|`(0x20)=>`(cQ rfl mC ⟨_,rfl⟩ (v:=.str ""))
|`(0x21)=>`(fun _ z=>by cases z)
|`(0x22)=>`(Prod L2.Key V)
|`(0x23)=>`(⟨_,rfl,rfl,_,rfl,eq_int (fun hy=>absurd hy 0x3) (fun _=>?_)⟩)
|`(0x24)=>`(x==("__debug__" : Str))
|`(0x25)=>`(La X (ts++fr) scope s H fp C)
|`(0x26)=>`(ak 0x10 aC)
|`(0x27)=>`(show false=true from hs)
|`(0x28)=>`((.dK (uI (·.1) (fun p:Str×Addr=>V.ref p.2) (gs++[(a,e)]))))
|`(0x29)=>`(aN bD (pv 2) aA 0x4)
|`(0x2A)=>`(all.map Value.ref)
|`(0x2B)=>`(by simpa using c)
|`(0x2C)=>`(.inr n)
|`(0x2D)=>`(all.map V.ref)
|`(0x2E)=>`(.tup xs)
|`(0x2F)=>`(aN bD (pv 0) aA 0x4)
|`(0x30)=>`(Key×V)
|`(0x31)=>`(Wo.mk W.es W.ks W.hs (W.dd++[(a,dy)]) W.lg)
|`(0x32)=>`(⟨_,rfl,r,_,_,_,rfl,rfl,bZ.of hx,aJ (j:=0) rfl,rfl,_,rfl,Jd 0x1A ?_⟩)
|`(0x33)=>`(fun z=>by rw [z,hy0] at hc;cases hc)
|`(0x34)=>`(⟨_,rfl,_,_,rfl,rfl,⟨by decide,by decide⟩,_,_,rfl,rfl,(by show (0:Int)<3;decide),rfl,_,rfl,?_⟩)
|`(0x35)=>`(fun c=>?_)
|`(0x36)=>`((items.toList.drop (eO items.size 0 lo)).take (eO items.size items.size hi - eO items.size 0 lo))
|`(0x37)=>`(.ins CC dc (Cj n b m.z jl ll))
|`(0x38)=>`(stp y es t1 t2 b1 b2 cO)
|`(0x39)=>`(cj (pv 0) T.cl m1 G1 hr b1 .nil bC 0x26)
|`(0x3A)=>`(.lst [V.int 1,V.int 1,V.int 0,V.int 5,V.int 300])
|`(0x3B)=>`((∀ n∈ls,n≠""/\PyData.strOk n=true))
set_option Elab.async false
set_option linter.all false
set_option maxHeartbeats 16000000
set_option maxRecDepth 100000
set_option hygiene false
abbrev A4M:List PySem.Str:=["self", "estate"]
abbrev A4N:List PySem.Str:=["_law_book_here", "_law_man"]
abbrev A4O:List PySem.Str:=["realm", "row"]
abbrev A4P:List PySem.Str:=["_law_book_here", "_law_row_here"]
abbrev A4Q:List PySem.Str:=["self", "man"]
abbrev A4R:List PySem.Str:=["_law_book_here", "_law_estate"]
abbrev A4S:List PySem.Str:=["_law_book_here", "_law_pools_here", "_law_d", "_law_day", "_law_men", "_law_lands", "_law_there", "_law_estate", "_law_man", "_law_fresh", "_law_new_here", "_law_wide", "_law_many", "_law_way", "_law_others"]
abbrev A4T:List PySem.Str:=["_law_feed_here", "_law_at", "_law_many", "_law_pools_here", "_law_ways"]
abbrev A4U:List PySem.Str:=["_law_book_here", "_law_row_here", "_law_lord", "_law_due"]
abbrev A4V:List PySem.Str:=["_law_found", "_law_due"]
abbrev A4W:List PySem.Str:=["_law_pools_here", "_law_feed_here", "_law_rows_here"]
abbrev A4X:List PySem.Str:=["self", "name", "lord", "holder", "acres", "service"]
abbrev A4Y:List PySem.Str:=["self", "estate", "new", "man", "acres", "service"]
abbrev A4Z:List PySem.Str:=["_law_book_here", "_law_pools_here", "_law_d", "_law_day"]
abbrev A5a:List PySem.Str:=["_law_book_here", "_law_men", "_law_man", "_law_number"]
abbrev A5b:List PySem.Str:=["_law_court_here", "_law_pools_here", "_law_rows_here"]
abbrev A5c:List PySem.Str:=["self", "day", "man"]
abbrev A5d:List PySem.Str:=["self", "acres"]
abbrev A5e:List PySem.Str:=["_law_d", "_law_many", "_law_letters", "_law_k", "_law_base", "_law_at", "_law_names_here", "_law_sign", "_law_name"]
abbrev A5f:List PySem.Str:=["_law_acres", "_law_rows_here"]
abbrev A5g:List PySem.Str:=["_law_rows_here", "_law_day"]
abbrev A5h:List PySem.Str:=["_law_one", "_law_other"]
abbrev A5i:List PySem.Str:=["self", "acres", "bears", "rows"]
abbrev A5j:List PySem.Str:=["_law_court_here", "_law_pools_here", "_law_rows_here", "_law_words", "_law_told"]
abbrev A5k:List PySem.Str:=["_law_rows_here", "_law_number"]
local macro_rules | `(tactic| apply 0o1 $H $t $ht $s:ident $k:ident $X:ident) => `(tactic| (generalize hX : upd $H $t _ = $X; have $s : Same $H $X := hX ▸ aO $ht _; have $k := (congrFun hX $t).symm.trans ao; clear hX))
local macro_rules
  | `(0o7 $f $a*) => `($f (P := l.prog) (w := w) (mg := mg) (base := base) $a*)
theorem cg {α β:Type _}{as:List α} (f:α->β):(as.map f).length=as.length:=List.length_map f
theorem jR {α:Type _}{l:List α}{i:Nat} (h:i<l.length):l[i]?=some l[i]:=List.getElem?_eq_getElem h
theorem qQ {α:Type _}{l:List α}{i:Nat}{a:α}:l.getD i a=l[i]?.getD a:=List.getD_eq_getElem?_getD
theorem nU {p:Prop} [inst:Decidable p] (h:decide p=true):p:=of_decide_eq_true h
theorem jQ {α β:Type _}{f:α->β}{l:List α}{i:Nat}:(l.map f)[i]?=Option.map f l[i]?:=List.getElem?_map
theorem gZ {α:Type _}{as bs:List α}:(as++bs).length=as.length+bs.length:=List.length_append
theorem jT {α:Type _} (y:α) {a:α}{l:List α} (h:a∈l):a∈y::l:=List.mem_cons_of_mem y h
theorem vI {α:Type _}{a:α}{as:List α}:(a::as).length=as.length+1:=List.length_cons
theorem vm {α:Type _}{l:List α}{i:Nat}{a:α} (e:l[i]?=some a):a∈l:=List.mem_of_getElem? e
theorem iZ {α β:Type _}{f:α->β}{l₁ l₂:List α}:(l₁++l₂).map f=l₁.map f++l₂.map f:=List.map_append
section
open PySem PySem.Spec PyProof.Rows
def A0a:=@wpAny_bind
def A0b:=@List.mem_singleton
def A0c:=@Heap.get?_push_of_some
def A0d:=@List.mem_cons
def A0e:=@List.mem_map
def A0f:=@if_neg
def A0g:=@decide_eq_true
def A0h:=@Nat.le_refl
def A0i:=@if_pos
def A0j:=@List.getElem?_eq_some_iff
def A0k:=@Ne.symm
def A0l:=@List.mem_append
def A0m:=@List.map_cons
def A0n:=@decide_eq_false
def A0o:=@List.mem_cons_self
def A0p:=@Bool.false_ne_true
def A0q:=@List.mem_filter
def A0r:=@List.length_singleton
def A0s:=@wpAny_pure
def A0t:=@Option.map_eq_some_iff
def A0u:=@List.size_toArray
def A0v:=@Nat.lt_of_sub_eq_succ
def A0w:=@List.not_mem_nil
def A0x:=@Nat.lt_of_lt_of_le
def A0y:=@Heap.get?_push_size
def A0z:=@List.mem_append_right
def A0G:=@List.length_take
def A0H:=@PySem.F.plainAttrs_list
def A0I:=@Heap.lt_size
def A0J:=@List.length_filter_le
def A0K:=@List.append_nil
def A0L:=@Int.emod_lt_of_pos
def A0M:=@Nat.le_trans
def A0N:=@PassesOwn.never
def A0O:=@PySem.F.slot_list_append
def A0P:=@PySem.F.type_list_append
def A0Q:=@Int.emod_nonneg
def A0R:=@List.getElem_mem
def A0S:=@Nat.ne_of_lt
def A0T:=@List.nodup_cons
def A0U:=@List.mem_append_left
def A0V:=@Option.some.inj
def A0W:=@List.getElem?_append_right
def A0X:=@List.lookup_cons
def A0Y:=@List.filter_cons_of_pos
def A0Z:=@List.map_map
def A1a:=@List.take_add_one
def A1b:=@Bool.and_eq_true
def A1c:=@List.take_length
def A1d:=@Nat.le_of_ble_eq_true
def A1e:=@List.find?_cons_of_neg
def A1f:=@Nat.zero_le
def A1g:=@Bool.eq_iff_iff
def A1h:=@List.foldl_cons
def A1i:=@List.filter_append
def A1j:=@List.filter_cons_of_neg
def A1k:=@or_false
def A1l:=@List.getElem?_append_left
def A1m:=@PySem.boot_len
def A1n:=@List.find?_cons_of_pos
def A1o:=@PyProof.Rows.slot_tuple_getitem
def A1p:=@wpAny_mono
def A1q:=@List.pairwise_iff_getElem
def A1r:=@Calls.callWith_builtin
def A1s:=@Nat.lt_of_le_of_lt
def A1t:=@List.length_drop
def A1u:=@List.all_eq_true
def A1v:=@beq_eq_false_iff_ne
def A1w:=@Array.length_toList
def A1x:=@PySem.mem_of_lookup
def A1y:=@List.replicate_succ
def A1z:=@wpAny_callSpecial?_slot
def A1G:=@sizeLine_eq
def A1H:=@decide_eq_true_iff
def A1I:=@PySem.W.kia_one
def A1J:=@List.filterMap_cons
def A1K:=@List.map_congr_left
def A1L:=@wpAny_field
def A1M:=@List.append_assoc
def A1N:=@List.length_replicate
def A1O:=@List.nil_append
def A1P:=@Calls.spliced_cons
def A1Q:=@wpAny_Call_Name_kw
def A1R:=@congrArg
def A1S:=@List.mem_iff_getElem
def A1T:=@List.cons_append
def A1U:=@Nat.lt_irrefl
def A1V:=@Heap.get?_update_ne
def A1W:=@List.mem_of_find?_eq_some
def A1X:=@PySem.F.slot_dict_get
def A1Y:=@wpAny_call_entry
def A1Z:=@Bool.false_eq_true
def A2a:=@Calls.evalArgs_plain
def A2b:=@List.mem_of_mem_take
def A2c:=@wpAny_truthy_bool
def A2d:=@wpAny_newObj_type
def A2e:=@PySem.F.plainAttrs_dict
def A2f:=@List.filter_congr
def A2g:=@decide_eq_true_eq
def A2h:=@List.find?_cons
def A2i:=@Nat.min_eq_left
def A2j:=@PyProof.Rows.callWith_type1
def A2k:=@List.all_cons
def A2l:=@List.any_cons
def A2m:=@F.slot_tuple_iterator_next
def A2n:=@wpAny_seqItems
def A2o:=@wpAny_setField_rec
def A2p:=@tupleKind_room_in1
def A2q:=@List.foldl_nil
def A2r:=@wpAny_passesOwn
def A2s:=@Calls.spliced_nil
def A2t:=@Nat.le_succ
def A2u:=@List.flatten_cons
def A2v:=@List.nodup_append
def A2w:=@List.pairwise_append
def A2x:=@Option.isSome_iff_exists
def A2y:=@List.sum_cons
def A2z:=@List.flatten_append
def A2G:=@Heap.size_push
def A2H:=@beq_self_eq_true
def A2I:=@PySem.F.slot_list_index
def A2J:=@Nat.le_of_lt
def A2K:=@List.take_of_length_le
def A2L:=@call_meetsIn
def A2M:=@PySem.F.entry_dict_get
def A2N:=@List.filter_eq_nil_iff
def A2O:=@F.slot_zip_next
def A2P:=@Paired.length
def A2Q:=@wpAny_Call_method
def A2R:=@if_false
def A2S:=@List.mem_of_mem_drop
def A2T:=@Array.perm_iff_toList_perm
def A2U:=@if_true
def A2V:=@Nat.succ_le_succ
def A2W:=@Nat.sub_self
def A2X:=@List.filter_sublist
def A2Y:=@wpAny_standAt
def A2Z:=@wpAny_holding
def A3a:=@PySem.F.slot_dict_itemiterator_iter
def A3b:=@List.eq_of_mem_replicate
def A3c:=@List.idxOf_lt_length_iff
def A3d:=@List.of_mem_zip
def A3e:=@List.filter_map
def A3f:=@PySem.W.callWith_K
def A3g:=@strKind_is
def A3h:=@of_decide_eq_false
def A3i:=@List.getElem_idxOf
def A3j:=@List.getElem?_replicate
def A3k:=@List.pairwise_singleton
def A3l:=@PySem.F.type_list_index
def A3m:=@wpAny_pyIter_list
def A3n:=@List.any_eq_false
def A3o:=@Int.toNat_natCast
def A3p:=@List.map_nil
def A3q:=@List.length_pos_of_mem
def A3r:=@List.take_append_drop
def A3s:=@beq_iff_eq
def A3t:=@decide_eq_decide
def A3u:=@List.getElem!_eq_getElem?_getD
def A3v:=@List.getElem?_set_ne
def A3w:=@wpAny_updateSeq_pair
def A3x:=@List.replicate_succ'
def A3y:=@Nat.pow_le_pow_right
def A3z:=@wpAny_execs_nil
def A3G:=@wpAny_loadPart'
def A3H:=@List.forIn_cons
def A3I:=@F.args_tuple_iterator_next_1
def A3J:=@Option.map_some
def A3K:=@PySem.F.slot_dict_setdefault
def A3L:=@List.filter_nil
def A3M:=@PySem.W.plainGet_of
def A3N:=@PySem.W.callWith_K0
def A3O:=@List.filter_eq_self
def A3P:=@Nat.ne_of_gt
def A3Q:=@codeAny_mono
def A3R:=@F.entry_tuple_iterator_next
def A3S:=@Array.getD_eq_getD_getElem?
def A3T:=@eq_of_beq
def A3U:=@SeqAt.EqAt.int_str
def A3V:=@SeqAt.EqAt.str_int
def A3W:=@Calls.Name_function_global
def A3X:=@List.mem_filterMap
def A3Y:=@SeqAt.EqAt.str_str
def A3Z:=@call_meets
def A4a:=@List.drop_zero
def A4b:=@List.nodup_nil
def A4c:=@List.pairwise_cons
def A4d:=@slot_list_getitem
def A4e:=@Nat.lt_succ_of_lt
def A4f:=@F.args_zip_next_1
def A4g:=@Option.isSome_map
def A4h:=@not_false_eq_true
def A4i:=@List.getElem_take
def A4j:=@Nat.le_succ_of_le
def A4k:=@wpAny_onRaise
def A4l:=@wpAny_attempt
def A4m:=@listUpdate_at
def A4n:=@wpAny_eqBool_int
def A4o:=@Nat.lt_succ_self
def A4p:=@F.entry_zip_next
def A4q:=@List.getElem_map
def A4r:=@SeqAt.eqAt_reads
def A4s:=@List.prefix_refl
def A4t:=@List.append_inj'
def A4u:=@wpAny_rule
def A4v:=@not_or
def A4w:=@Int.ne_of_gt
def A4x:=@List.length_nil
def A4y:=@Nat.not_lt_zero
def A4z:=@get?_update_seq
def A4I:=@wpAny_letGo
def A4J:=@Paired.snoc
end
namespace M
inductive Ft where
 | d | n | c | a | s
 deriving DecidableEq
end M
variable {us:List PySem.Value}{C CC CK D a b b1 b2 c dc dx f g1 g2 g3 g4 g5 i1 i2 it jl li ll sl t t1 t2 z:PySem.Addr}{cd u vl vu:PySem.Value}{P prog:PySem.Program}{w:PySem.World}{base h h':PySem.Heap}{e iter tg value:PySem.Expr}{pins:List (PySem.Addr×PySem.Obj)}{s s':PySem.Shared}{ep i j n t' x1:Nat}{as ch fp lN pr ts:List PySem.Addr}{N ks ks' loose ls ps ss ws zs:List PySem.Str}{A:PySem.Around}{E Q:PySem.Value->PySem.Shared->Prop}{apos cpos pos pos' tp:PySem.Pos}{op:PySem.CmpOp}{K:PySem.W.Frag}{st:PySem.Stmt}{elts es:List PySem.Expr}{body:List PySem.Stmt}{l name p q qual:PySem.Str}{r:Option PySem.Str}{mA mg:PySem.Str->Option PySem.Value}{pl:PySem.Sem Bool}{kw:List (PySem.Str×PySem.Value)}{env:PySem.Env}{d1 d2 d3 d4 d5 fd:PySem.FuncData}{outer:List PySem.Env}{scope:PySem.Scope}{T:String}{hi:Option Int}{XP:(PySem.Str->Option PySem.Value)->PySem.Heap->Prop}{YP:PySem.World->PySem.Heap->Prop}{B:Prop}{ix:List Nat}{d dy now wd:Int}{hv:PySem.Str->Option PySem.Str}{lg:List (PySem.Str×Int×PySem.Str)}{tS:PySem.Tok}{fQ:PySem.Addr->Int}
namespace L2
open PySem PySem.Spec PyProof.Rows
abbrev Key:=Sum Int Str
def sW:Key->Value->Bool
 | .inl k,v=>Value.isInt k v
 | .inr x,v=>Value.isStrOf x v
def keyH (w:World):Key->Int
 | .inl k=>hashInt k
 | .inr x=>hashStr w x
theorem dJ:∀ {k:Key}{v:Value},sW k v=true->(∃ i t,k=Sum.inl i/\v=Value.int i t)\/(∃ x t,k=Sum.inr x/\v=Value.str x t)
 | .inl i,v,h=>by
  obtain ⟨t,e⟩:=Value.isInt_shape (k:=i) (v:=v) h;exact .inl ⟨i,t,rfl,e⟩
 | .inr x,v,h=>by
  obtain ⟨t,e⟩:=Value.isStrOf_shape (x:=x) (v:=v) h;exact .inr ⟨x,t,rfl,e⟩
theorem Jj (i:Int) (t:Tok):sW (.inl i) (.int i t)=true:=by simp [sW,Value.isInt]
theorem Jk (x:Str) (t:Tok):sW (.inr x) (.str x t)=true:=by simp [sW,Value.isStrOf]
theorem WM (a b:Int):decide ((Sum.inl a:Key)=Sum.inl b)=(a==b):=by
 by_cases e:a=b
 ·subst e;simp
 ·have h:¬ (Sum.inl a:Key)=Sum.inl b:=fun q=>e (Sum.inl.inj q);rw [A0n h];exact (A1v.mpr e).symm
theorem WQ (a b:Str):decide ((Sum.inr a:Key)=Sum.inr b)=decide (a=b):=by
 by_cases e:a=b
 ·subst e;simp
 ·have h:¬ (Sum.inr a:Key)=Sum.inr b:=fun q=>e (Sum.inr.inj q);rw [A0n h,A0n e]
theorem WR (a:Int) (b:Str):decide ((Sum.inl a:Key)=Sum.inr b)=false:=A0n (fun q=>nomatch q)
theorem WT (a:Str) (b:Int):decide ((Sum.inr a:Key)=Sum.inl b)=false:=A0n (fun q=>nomatch q)
def bY (prog:Program) (w:World):PySem.KeyKind prog w Key where
 is:=sW
 hash:=keyH w
 inj:=fun v a b ha hb=>by
  rcases dJ ha with ⟨i,t,rfl,rfl⟩ | ⟨x,t,rfl,rfl⟩
  ·rcases dJ hb with ⟨j,u,rfl,e⟩ | ⟨y,u,rfl,e⟩
   ·injection e with e1 _;rw [e1]
   ·exact nomatch e
  ·rcases dJ hb with ⟨j,u,rfl,e⟩ | ⟨y,u,rfl,e⟩
   ·exact nomatch e
   ·injection e with e1 _;rw [e1]
 byValue:=fun k v h=>by
  rcases dJ h with ⟨i,t,rfl,rfl⟩ | ⟨x,t,rfl,rfl⟩ <;> rfl
 pyHash:=fun hv h=>by
  rcases dJ hv with ⟨i,t,rfl,rfl⟩ | ⟨x,t,rfl,rfl⟩
  ·exact wpAny_pyHash_int h
  ·exact wpAny_pyHash_str h
 eqBool:=fun hu hv h=>by
  rcases dJ hu with ⟨i,t,rfl,rfl⟩ | ⟨x,t,rfl,rfl⟩
  ·rcases dJ hv with ⟨j,u,rfl,rfl⟩ | ⟨y,u,rfl,rfl⟩
   ·rw [WM] at h;exact A4n h
   ·rw [WR] at h;exact A3U i t y u _ _ _ _ h
  ·rcases dJ hv with ⟨j,u,rfl,rfl⟩ | ⟨y,u,rfl,rfl⟩
   ·rw [WT] at h;exact A3V x t j u _ _ _ _ h
   ·rw [WQ] at h;exact wpAny_eqBool_str h
 «strs»:=fun k x t v h=>by
  rcases dJ h with ⟨i,u,rfl,e⟩ | ⟨y,u,rfl,e⟩
  ·exact nomatch e
  ·injection e with e1 _;subst e1;cases v <;> rfl
theorem zO (prog:Program) (w:World) (i:Int) (t:Tok):(bY prog w).is (.inl i) (.int i t)=true:=Jj i t
theorem zP (prog:Program) (w:World) (x:Str) (t:Tok):(bY prog w).is (.inr x) (.str x t)=true:=Jk x t
inductive V where
 | non | bl (b:Bool) | int (i:Int) | str (x:Str) | Gm (b:Array UInt8) | flt (b:UInt64) | ref (a:Addr) | ty (n:String)
 deriving DecidableEq
variable {xs ys:List V}{v y:V}{du ho hs kvs lo ow:List 0x30}{fs':List (Str×V)}{dat:Addr->List V}
def RelV:V->Value->Prop
 | .non,u=>u=Value.none
 | .bl b,u=>u=Value.bool b
 | .int i,u=>∃ t,u=Value.int i t
 | .str x,u=>∃ t,u=Value.str x t
 | .Gm b,u=>∃ t,u=Value.bytes b t
 | .flt b,u=>∃ t,u=Value.float b t
 | .ref a,u=>u=Value.ref a
 | .ty n,u=>u=Value.type n
abbrev Vals:List V->List Value->Prop:=Paired RelV
theorem Vals.length (r:Vals xs us):xs.length=us.length:=A2P r
theorem Vals.get:∀ {xs:List V}{us:List Value}{i:Nat}{x:V},Vals xs us->xs[i]?=some x->∃ u,us[i]?=some u/\RelV x u
 | _,_,_,_,.nil,e=>by simp at e
 | _,_,0,_,.cons r _,e=>by simp at e;subst e;exact ⟨_,rfl,r⟩
 | _,_,i+1,x,.cons _ t,e=>by
  obtain ⟨u,h1,h2⟩:=Vals.get (i:=i) (x:=x) t (by simpa using e);exact ⟨u,by simpa using h1,h2⟩
theorem Vals.append:∀ {xs ys:List V}{us ws:List Value},Vals xs us->Vals ys ws->Vals (xs++ys) (us++ws)
 | _,_,_,_,.nil,s=>s
 | _,_,_,_,.cons r t,s=>.cons r (Vals.append t s)
theorem Vals.take:∀ {xs:List V}{us:List Value} (n:Nat),Vals xs us->Vals (xs.take n) (us.take n)
 | _,_,0,_=>.nil
 | _,_,_+1,.nil=>.nil
 | _,_,n+1,.cons r t=>.cons r (Vals.take n t)
theorem Vals.drop:∀ {xs:List V}{us:List Value} (n:Nat),Vals xs us->Vals (xs.drop n) (us.drop n)
 | _,_,0,r=>r
 | _,_,_+1,.nil=>.nil
 | _,_,n+1,.cons _ t=>Vals.drop n t
theorem Vals.none_of:∀ {xs:List V}{us:List Value}{i:Nat},Vals xs us->xs[i]?=none->us[i]?=none:=fun {xs us i} r e=>by
 have h1:=r.length;have h2:xs.length<=i:=List.getElem?_eq_none_iff.mp e;exact List.getElem?_eq_none_iff.mpr 0x3
def jk:Option V->Option Value->Prop
 | some v,some u=>RelV v u
 | none,none=>True
 | _,_=>False
def KV {κ:Type}:List (κ×V)->List (κ×Value)->Prop:=Paired fun (p:κ×V) (q:κ×Value)=>p.1=q.1/\RelV p.2 q.2
def kV:Key->V
 | .inl i=>.int i
 | .inr x=>.str x
inductive HO where
 | lst (xs:List V)
 | tup (xs:List V)
 | dK (kvs:List 0x30) | dT (kvs:List (List Key×V))
 | set (S:Int->Bool) (n:Nat)
 | ins (C dx:Addr) (fs:List (Str×V))
 | own (x:Addr)
 | xd (fs:List (Str×V))
 | met (f x:Addr)
 | rng (lo hi:Int)
 | iQ (o:Obj) (u:HO)
 | WW (ps:Array Value)
 | ext (φ:Heap->Prop)
variable {o:HO}
abbrev Hp:=Addr->Option HO
variable {H H' H1 H2:Hp}
def upd (H:Hp) (a:Addr) (o:HO):Hp:=fun b=>if b=a then some o else H b
theorem ao:upd H a o a=some o:=by unfold upd;rw [A0i rfl]
theorem aj (h:b≠a):upd H a o b=H b:=by unfold upd;rw [A0f h]
theorem S8 {u:HO}:upd (upd H a o) a u=upd H a u:=by
 funext b;unfold upd;split <;> rfl
theorem aM {u:HO} (h:H a=some o) (h':H b=some u) (d:o≠u):a≠b:=by
 intro e;subst e;rw [h] at h';exact d (A0V h')
theorem aq (h:H a=some o) (h':H b=none):a≠b:=by
 intro e;subst e;rw [h] at h';cases h'
section
variable (P:Program) (w:World)
def dW (H:Hp) (h:Heap) (a:Addr):HO->Prop
 | .lst xs=>xs.length<=sizeLine/\∃ (its:List Value) (n:Nat),Vals xs its/\h.get? a=some { cls:=.type "list",data:=.seq its.toArray n }
 | .tup xs=>xs.length<=sizeLine/\∃ its:List Value,Vals xs its/\IsTup h a its.toArray
 | .dK kvs=>kvs.length<=sizeLine/\(a==sysModules)=false/\∃ vs,KV kvs vs/\h.DictOf (bY P w) a vs
 | .dT kvs=>kvs.length<=sizeLine/\(a==sysModules)=false/\∃ xs:List (List Key×Addr×Value),
   Paired (fun (p:List Key×V) (q:List Key×Addr×Value)=>p.1=q.1/\H q.2.1=some (.tup (p.1.map kV))/\RelV p.2 q.2.2) kvs xs /\
   ∃ o es ep,h.get? a=some o/\o.ExactDict/\o.data=.dict es ep/\es.toList=xs.map (entryOfKey (tupleKind (bY P w)))/\(xs.map (·.1)).Nodup
 | .set S n=>h.SetOf (intKind P w) a S n
 | .ins C dx fs=>H dx=some (.own a)/\fs.length<=1000/\dx≠a/\h.get? a=some (PySem.W.instObj C dx) /\
   ∃ mA,h.Ns1 dx mA/\(∀ f,jk (fs.lookup f) (mA f))/\PySem.Within mA (fs.map (·.1))
 | .own _=>∃ o,h.get? a=some o
 | .xd fs=>∃ mA,h.Ns1 a mA/\∀ f,jk (fs.lookup f) (mA f)
 | .rng lo hi=>∃ t u v,h.get? a=some { cls:=.type "range",data:=.fields #[.int lo t,.int hi u,.int 1 v] }
 | .iQ o u=>h.get? a=some o/\dW H h a u
 | .WW ps=>h.get? a=some { cls:=.none,data:=.fields ps }
 | .met f x=>h.get? a=some (PySem.W.methodObj (.ref f) (.ref x))
 | .ext φ=>φ h/\(∃ o,h.get? a=some o)/\∀ h1 h2:Heap,φ h1->(∀ o,h1.get? a=some o->h2.get? a=some o)->φ h2
def nM (H:Hp) (h:Heap):Prop:=∀ a o,H a=some o->dW P w H h a o
end
theorem dW.lt (x:dW P w H h a o):a<h.objs.size:=by
 cases o with
 | lst xs=>obtain ⟨_,_,_,_,e⟩:=x;exact A0I e
 | tup xs=>obtain ⟨_,_,_,p⟩:=x;exact p.lt
 | dK kvs=>obtain ⟨_,_,_,_,o,_,_,e,_⟩:=x;exact A0I e
 | dT kvs=>obtain ⟨_,_,_,_,o,_,_,e,_⟩:=x;exact A0I e
 | set S n=>obtain ⟨o,_,_,_,e,_⟩:=x;exact A0I e
 | ins C dx fs=>obtain ⟨_,_,_,e,_⟩:=x;exact A0I e
 | own y=>obtain ⟨_,e⟩:=x;exact A0I e
 | xd fs=>obtain ⟨_,⟨_,_,_,e,_⟩,_⟩:=x;exact A0I e
 | rng lo hi=>obtain ⟨_,_,_,e⟩:=x;exact A0I e
 | iQ ob u=>obtain ⟨e,_⟩:=x;exact A0I e
 | WW ps=>exact A0I (show h.get? a=some _ from x)
 | met f y=>exact A0I (show h.get? a=some _ from x)
 | ext φ=>obtain ⟨_,⟨_,e⟩,_⟩:=x;exact A0I e
theorem Paired.Jl {α β:Type}{F G:α->β->Prop}:∀ {l₁:List α}{l₂:List β},Paired F l₁ l₂->(∀ a b,F a b->G a b)->Paired G l₁ l₂
 | _,_,.nil,_=>.nil
 | _,_,.cons r t,f=>.cons (f _ _ r) (Paired.Jl t f)
theorem Paired.imp' {α β:Type}{F G:α->β->Prop} (f:∀ a b,F a b->G a b) {l₁:List α}{l₂:List β} (r:Paired F l₁ l₂):Paired G l₁ l₂:=Paired.Jl r f
theorem dW.stay (x:dW P w H h a o) (k:∀ b u,(b=a\/H b=some (.own a))->h.get? b=some u->h'.get? b=some u)
  (ho:∀ b,H b=some (.own a)->H' b=some (.own a)) (ht:∀ b xs,H b=some 0x2E->H' b=some 0x2E):dW P w H' h' a o:=by
 induction o with
 | lst xs=>obtain ⟨z,its,n,r,e⟩:=x;exact ⟨z,its,n,r,k _ _ (.inl rfl) e⟩
 | tup xs=>obtain ⟨z,its,r,ob,e,c⟩:=x;exact ⟨z,its,r,ob,k _ _ (.inl rfl) e,c⟩
 | dK kvs=>obtain ⟨z,y,vs,r,ob,es,ep,e,c⟩:=x;exact ⟨z,y,vs,r,ob,es,ep,k _ _ (.inl rfl) e,c⟩
 | dT kvs =>
  obtain ⟨z,y,xs,r,ob,es,ep,e,c⟩:=x;exact ⟨z,y,xs,Paired.Jl r fun p q z=>⟨z.1,ht _ _ z.2.1,z.2.2⟩,ob,es,ep,k _ _ (.inl rfl) e,c⟩
 | set S n=>obtain ⟨ob,es,ep,t,e,c⟩:=x;exact ⟨ob,es,ep,t,k _ _ (.inl rfl) e,c⟩
 | ins C dx fs =>
  obtain ⟨d,z,ne,e,mA,⟨od,es,ep,e2,c⟩,r⟩:=x;exact ⟨ho _ d,z,ne,k _ _ (.inl rfl) e,mA,⟨od,es,ep,k _ _ (.inr d) e2,c⟩,r⟩
 | own y=>obtain ⟨ob,e⟩:=x;exact ⟨ob,k _ _ (.inl rfl) e⟩
 | xd fs=>obtain ⟨mA,⟨od,es,ep,e,c⟩,r⟩:=x;exact ⟨mA,⟨od,es,ep,k _ _ (.inl rfl) e,c⟩,r⟩
 | rng lo hi=>obtain ⟨t,u,v,e⟩:=x;exact ⟨t,u,v,k _ _ (.inl rfl) e⟩
 | iQ ob u ih=>obtain ⟨e,q⟩:=x;exact ⟨k _ _ (.inl rfl) e,ih q⟩
 | WW ps =>
  have e:h.get? a=some { cls:=.none,data:=.fields ps }:=x
  show h'.get? a=some { cls:=.none,data:=.fields ps }
  exact k a _ (.inl rfl) e
 | met f y =>
  have e:h.get? a=some (PySem.W.methodObj (.ref f) (.ref y)):=x
  show h'.get? a=some (PySem.W.methodObj (.ref f) (.ref y))
  exact k a _ (.inl rfl) e
 | ext φ=>obtain ⟨p,⟨o,e⟩,st⟩:=x;exact ⟨st _ _ p fun o q=>k _ _ (.inl rfl) q,⟨o,k _ _ (.inl rfl) e⟩,st⟩
theorem nM.lt (x:nM P w H h) (e:H a=some o):a<h.objs.size:=(x a o e).lt
theorem nM.fresh (x:nM P w H h) (e:h.objs.size<=a):H a=none:=by
 cases q:H a with
 | none=>rfl
 | some u=>exact absurd (A0x (x.lt q) e) (A1U _)
theorem nM.kept (x:nM P w H h) (k:∀ b u,h.get? b=some u->h'.get? b=some u):nM P w H h':=fun a o e =>
 (x a o e).stay (fun b u _ q=>k b u q) (fun _ q=>q) fun _ _ q=>q
theorem nM.laid (x:nM P w H h) (k:∀ b u,h.get? b=some u->h'.get? b=some u) (hp:h.objs.size<=a) (new:dW P w (upd H a o) h' a o):nM P w (upd H a o) h':=fun b u e=>by
 have hn:=x.fresh hp
 by_cases hb:b=a
 ·subst hb;rw [ao] at e;cases e;exact new
 ·rw [aj hb] at e;exact (x b u e).stay (fun c v _ q=>k c v q) (fun c q=>by rw [aj (aq q hn)];exact q) fun c xs q=>by rw [aj (aq q hn)];exact q
def Rd (H:Hp) (a:Addr) (u:HO):Prop:=H a=some u\/∃ o,H a=some (.iQ o u)
theorem Rd.ok {u:HO} (r:Rd H a u) (x:nM P w H h):dW P w H h a u:=by
 rcases r with r | ⟨o,r⟩
 ·exact x a u r
 ·obtain ⟨_,q⟩:=x a _ r;exact q
def ZS:Option HO->Prop
 | some (.lst _)=>True
 | some (.dK _)=>True
 | some (.dT _)=>True
 | some (.set _ _)=>True
 | some (.ins _ _ _)=>True
 | some (.ext _)=>True
 | _=>False
section
variable {x e:Addr}{o':HO}
theorem nM.write (ok:nM P w H h) (mu:ZS (H x)) (he:e=x\/H e=some (.own x)) (k:∀ b u,b≠e->h.get? b=some u->h'.get? b=some u) (heo:∃ u,h'.get? e=some u)
  (new:dW P w (upd H x o') h' x o'):nM P w (upd H x o') h':=fun b u q=>by
 have ZV:∀ c y,H c=some (.own y)->c≠x:=fun c y r z=>by subst z;rw [r] at mu;exact mu
 have ntup:∀ c xs,H c=some 0x2E->c≠x:=fun c xs r z=>by subst z;rw [r] at mu;exact mu
 by_cases hb:b=x
 ·subst hb;rw [ao] at q;cases q;exact new
 ·rw [aj hb] at q
  by_cases hbe:b=e
  ·have q':H b=some (.own x):=by
    rcases he with z | z
    ·exact absurd (hbe.trans z) hb
    ·rw [hbe];exact z
   rw [q] at q';cases q';obtain ⟨v,hv⟩:=heo;exact ⟨v,by rw [hbe];exact hv⟩
  ·refine (ok b u q).stay (fun c v hc r=>k c v ?_ r) (fun c r=>by rw [aj (ZV c b r)];exact r) fun c xs r=>by rw [aj (ntup c xs r)];exact r
   rcases hc with rfl | hc
   ·exact hbe
   ·rintro rfl;rcases he with z | z
    ·exact ZV c b hc z
    ·rw [hc] at z;cases z;exact hb rfl
end
structure Un (fs ex:List Addr) (H H':Hp) (h h':Heap):Prop where
 keep:∀ b o,h.get? b=some o->H b=none->b∉fs->b∉ex->h'.get? b=some o
 slot:∀ b o,h.get? b=some o->H b=none->b∈fs->b∉ex->∃ sl,h'.get? b=some { o with slots:=sl }
 free:∀ b o,h.get? b=some o->H b=none->b∉ex->H' b=none
 there:∀ b o,h.get? b=some o->b∉ex->∃ o',h'.get? b=some o'
 tups:∀ b xs,H b=some 0x2E->H' b=some 0x2E
 sX:∀ b o u,H b=some (.iQ o u)->H' b=some (.iQ o u)
 xg:∀ b ps,H b=some (.WW ps)->∃ more,H' b=some (.WW (ps++more))
section
variable {fs fs' ex ex':List Addr}{h1 h2:Heap}{x e:Addr}
theorem Un.any (u:Un fs ex H H1 h h1) {ob:Obj} (q:h.get? b=some ob) (n:H b=none) (hx:b∉ex):∃ sl,h1.get? b=some { ob with slots:=sl }:=by
 by_cases hb:b∈fs
 ·exact u.slot b ob q n hb hx
 ·exact ⟨ob.slots,u.keep b ob q n hb hx⟩
theorem Un.kept (k:∀ b u,h.get? b=some u->h'.get? b=some u):Un fs ex H H h h' :=
 ⟨fun b ob q _ _ _=>k b ob q,fun b ob q _ _ _=>⟨ob.slots,k b ob q⟩,fun _ _ _ n _=>n,fun b ob q _=>⟨ob,k b ob q⟩,fun _ _ q=>q,fun _ _ _ q=>q,fun _ ps q=>⟨#[],by rw [q];simp⟩⟩
theorem Un.refl:Un fs ex H H h h:=Un.kept fun _ _ q=>q
theorem Un.laid (k:∀ b u,h.get? b=some u->h'.get? b=some u) (hp:h.objs.size<=a) (hn:H a=none):Un fs ex H (upd H a o) h h' where
 keep:=fun b u q _ _ _=>k b u q
 slot:=fun b u q _ _ _=>⟨u.slots,k b u q⟩
 free:=fun b u q n _=>by rw [aj (A0S (A0x (A0I q) hp))];exact n
 there:=fun b u q _=>⟨u,k b u q⟩
 tups:=fun b xs q=>by rw [aj (aq q hn)];exact q
 sX:=fun b u xs q=>by rw [aj (aq q hn)];exact q
 xg:=fun b ps q=>⟨#[],by rw [aj (aq q hn),q];simp⟩
theorem Un.write (mu:ZS (H x)) (he:e=x\/H e=some (.own x)) (k:∀ b u,b≠e->h.get? b=some u->h'.get? b=some u) (heo:∃ u,h'.get? e=some u):Un fs ex H (upd H x o) h h':=by
 have hx:∀ b,H b=none->b≠x:=fun b n z=>by subst z;rw [n] at mu;exact mu
 have hb:∀ b,H b=none->b≠e:=fun b n z=>by
  subst z;rcases he with r | r
  ·exact hx b n r
  ·rw [n] at r;cases r
 have hm:∀ b u,H b=some u->¬ ZS (some u)->b≠x:=fun b u q nm z=>by subst z;rw [q] at mu;exact nm mu
 refine ⟨fun b u q n _ _=>k b u (hb b n) q,fun b u q n _ _=>⟨u.slots,k b u (hb b n) q⟩,fun b u q n _=>by rw [aj (hx b n)];exact n,fun b u q _=>?_,
  fun b xs q=>by rw [aj (hm b _ q fun z=>z)];exact q,fun b u xs q=>by rw [aj (hm b _ q fun z=>z)];exact q,fun b ps q=>⟨#[],by rw [aj (hm b _ q fun z=>z),q];simp⟩⟩
 by_cases hbe:b=e
 ·subst hbe;exact heo
 ·exact ⟨u,k b u hbe q⟩
end
def trk (h:Heap) (H:Hp):List Addr:=(List.range h.objs.size).filter fun a=>(H a).isSome
def xq (h:Heap) (H:Hp):Heap:=PySem.W.hideAll h (trk h H)
theorem Jm (h:Heap) (H:Hp):(xq h H).objs.size=h.objs.size:=PySem.W.hideAll_size _ _
theorem Lh {o:Obj} (e:h.get? b=some o) (n:H b=none):(xq h H).get? b=some o :=
 PySem.W.hideAll_get _ e fun hm=>by
  have q:(H b).isSome=true:=(A0q.mp hm).2;rw [n] at q;simp at q
theorem S9 {o:Obj} (e:(xq h H).get? b=some o):h.get? b=some o/\H b=none:=by
 have e':h.get? b=some o:=PySem.W.of_hideAll (trk h H) e;refine ⟨e',?_⟩;cases q:H b with
 | none=>rfl
 | some x =>
  have hm:b∈trk h H:=A0q.mpr ⟨List.mem_range.mpr (A0I e'),by simp [q]⟩;have z:(xq h H).get? b=none:=PySem.W.hideAll_none (trk h H) hm;rw [z] at e;cases e
structure Mod (K:PySem.W.Frag) (mg:Str->Option Value) (base:Heap):Prop where
 kin:K.In base
 glob:base.Ns mainGlobals mg
 blt:∃ mb,base.Ns builtinsNs mb/\∀ x:Str,x≠"__name__"->mb x=bootBuiltins x
 nolimit:base.NoLimit
structure Cx where
 prog:Program
 w:World
 K:PySem.W.Frag
 mg:Str->Option Value
 base:Heap
 A:Around
 N:List Str
 s₀:Shared
 H₀:Hp
 env:Env
 outer:List Env
 stack:List Env
 ex:List Addr
 fn:Str->Bool
 calm:Bool
 pn:List 0x17
 xe:Value->Shared->Prop
variable {X:Cx}
def frs (l:List Env):List Addr:=l.filterMap (·.frame)
abbrev Cx.fs (X:Cx):List Addr:=frs X.outer
def Vis (sc:Scope) (x:Str):Prop:=sc.names.lookup x=some .local\/sc.names.lookup x=some .cell\/sc.names.lookup x=some .free
def Loc (sc:Scope) (x:Str):Prop:=sc.names.lookup x=some .local\/sc.names.lookup x=some .cell
def Look (env:Env) (h:Heap) (m:Str->Option Value) (x:Str) (u:Value):Prop :=
 (env.kindOf x=some .local/\m x=some u)\/((env.kindOf x=some .cell\/env.kindOf x=some .free)/\∃ c,env.cells.lookup x=some c/\h.IsCell c (some u))
structure Cx.Ok (X:Cx):Prop where
 mod:Mod X.K X.mg X.base
 kind:X.env.scope.kind=.function
 glob:X.env.globals=mainGlobals
 blt:X.env.builtins=builtinsNs
 above:X.s₀.heap.objs.size<=X.env.locals
 inj:∀ x y c,X.env.cells.lookup x=some c->X.env.cells.lookup y=some c->x=y
 has:∀ x,(X.env.kindOf x=some .cell\/X.env.kindOf x=some .free)->∃ c,X.env.cells.lookup x=some c
 cab:∀ x c,X.fn x=true->X.env.cells.lookup x=some c->X.s₀.heap.objs.size<=c
 hd:X.calm=true->X.A.handled=none
 frames:X.A.frames=some X.stack
 stk:X.stack=X.outer\/(X.stack=X.env::X.outer/\X.env.frame=some X.env.locals)
 exf:∀ b∈X.ex,b≠X.env.locals/\∀ x c,X.env.cells.lookup x=some c->c≠b
 bs:∀ b o,X.base.get? b=some o->X.s₀.heap.get? b=some o/\X.H₀ b=none
 RT:X.base.objs.size<=X.s₀.heap.objs.size
 Jp:∀ b o,X.base.get? b=some o->b∉X.ex
 Li:∀ b∈X.ex,b∉X.fs
 qu:X.s₀.heap.FunFrames X.base X.outer
 Vv:∀ b∈X.fs,X.H₀ b=none
structure Inv (X:Cx) (pins:List 0x17) (σ:List (Option V)) (H:Hp) (s:Shared):Prop where
 ok:X.Ok
 os:s.os=X.s₀.os
 bare:AllBare s.gens
 base:Un X.fs X.ex X.H₀ H X.s₀.heap s.heap
 loc:∃ m,s.heap.Ns X.env.locals m/\∀ (i:Nat) (x:Str) (v:V),X.N[i]?=some x->σ[i]?=some (some v)->Vis X.env.scope x->∃ u,RelV v u/\Look X.env s.heap m x u
 cell:∀ x c,X.env.cells.lookup x=some c->∃ v,s.heap.IsCell c v
 free:H X.env.locals=none
 jU:∀ x c,X.env.cells.lookup x=some c->H c=none
 pin:∀ p∈X.pn++pins,s.heap.get? p.1=some p.2/\H p.1=none/\p.1≠X.env.locals/\p.1∉X.fs/\∀ v,p.2.data≠.cell v
 hok:nM X.prog X.w H s.heap
 len:σ.length=X.N.length
section
variable {σ:List (Option V)}
theorem Cx.Ok.nofr (ok:X.Ok) {o:Obj} (e:X.base.get? b=some o):b∉X.fs:=fun hb=>by
 have:=(ok.qu.mem hb).1;rw [e] at this;cases this
theorem Inv.bs (I:Inv X pins σ H s):∀ b o,X.base.get? b=some o->s.heap.get? b=some o/\H b=none:=fun b o e =>
 ⟨I.base.keep b o (I.ok.bs b o e).1 (I.ok.bs b o e).2 (I.ok.nofr e) (I.ok.Jp b o e),I.base.free b o (I.ok.bs b o e).1 (I.ok.bs b o e).2 (I.ok.Jp b o e)⟩
theorem Inv.bk (I:Inv X pins σ H s):∀ b o,X.base.get? b=some o->s.heap.get? b=some o:=fun b o e=>(I.bs b o e).1
theorem Inv.mod (I:Inv X pins σ H s):Mod X.K X.mg X.base:=I.ok.mod
theorem Inv.nO (I:Inv X pins σ H s):X.K.In s.heap:=I.ok.mod.kin.keeps I.bk
theorem Inv.fr (I:Inv X pins σ H s):∃ m,Fr X.base X.env.locals s.heap m :=
 let ⟨m,hn,_⟩:=I.loc
 ⟨m,hn,I.bk,A0M I.ok.RT I.ok.above⟩
theorem Inv.lt (I:Inv X pins σ H s):X.env.locals<s.heap.objs.size:=let ⟨_,hn,_⟩:=I.loc;hn.lt
theorem Inv.sz (I:Inv X pins σ H s):X.s₀.heap.objs.size<=s.heap.objs.size:=A0M I.ok.above (A2J I.lt)
theorem Inv.nofs (I:Inv X pins σ H s)  (h:s.heap.objs.size<=a):a∉X.fs:=fun hb=>by
 obtain ⟨_,o,ho,_⟩:=I.ok.qu.mem hb;exact absurd (A0x (A0I ho) (A0M I.sz h)) (A1U _)
theorem Inv.WX (I:Inv X pins σ H s):∀ x c,X.env.cells.lookup x=some c->c≠X.env.locals:=fun x c e z=>by
 obtain ⟨v,o,ho,hd⟩:=I.cell x c e;obtain ⟨m,⟨o',es,ep,ho',hd',_⟩,_⟩:=I.loc;rw [z,ho'] at ho;cases ho;rw [hd'] at hd;cases hd
theorem Inv.qu (I:Inv X pins σ H s):s.heap.FunFrames X.base X.outer:=by
 have all:∀ (l:List Env),(∀ b∈frs l,b∈X.fs)->X.s₀.heap.FunFrames X.base l->s.heap.FunFrames X.base l:=by
  intro l
  induction l with
  | nil=>intro _ _;trivial
  | cons env r ih =>
   intro hs hl;obtain ⟨hk,⟨L,o,hf,hn,ho,hd⟩,hr⟩:=hl;have hL:L∈X.fs:=hs L (by unfold frs;rw [A1J,hf];exact A0o);obtain ⟨sl,e⟩:=I.base.slot L o ho (I.ok.Vv L hL) hL fun z=>I.ok.Li L z hL;exact ⟨hk,⟨L,_,hf,hn,e,hd⟩,ih (fun b hb=>hs b (by unfold frs;rw [A1J,hf];exact jT _ hb)) hr⟩
 exact all X.outer (fun _ hb=>hb) I.ok.qu
theorem Inv.stack (I:Inv X pins σ H s):s.heap.FunFrames X.base X.stack:=by
 rcases I.ok.stk with e | ⟨e,hf⟩
 ·rw [e];exact I.qu
 ·rw [e];obtain ⟨m,hn,_⟩:=I.loc;refine .cons (by rw [I.ok.kind];decide) hf hn ?_ I.qu;exact Heap.get?_none_of_le (A0M I.ok.RT I.ok.above)
theorem Inv.Dg (I:Inv X pins σ H s):∀ b∈frs X.stack,b∈X.env.locals::X.fs:=fun b hb=>by
 rcases I.ok.stk with e | ⟨e,hf⟩
 ·rw [e] at hb;exact jT _ hb
 ·rw [e] at hb;unfold frs at hb;rw [A1J,hf] at hb;exact hb
theorem Inv.Gn (I:Inv X pins σ H s):∀ b∈frs X.stack,H b=none:=fun b hb=>by
 rcases A0d.mp (I.Dg b hb) with e | hb
 ·rw [e];exact I.free
 ·obtain ⟨_,o,ho,_⟩:=I.ok.qu.mem hb;exact I.base.free b o ho (I.ok.Vv b hb) fun z=>I.ok.Li b z hb
theorem Inv.step {g':Array GenState}{d':Drawn} (I:Inv X pins σ H s)
  (hch:∀ b∈ch,(b∈X.ex\/X.s₀.heap.objs.size<=b)/\b≠X.env.locals/\(∀ x c,X.env.cells.lookup x=some c->c≠b)/\∀ p∈X.pn++pins,p.1≠b)
  (keep:∀ b o,b≠X.env.locals->b∉X.fs->b∉ch->s.heap.get? b=some o->H b=none->h'.get? b=some o)
  (slot:∀ b o,b≠X.env.locals->b∈X.fs->b∉ch->s.heap.get? b=some o->H b=none->∃ sl,h'.get? b=some { o with slots:=sl }) (free:∀ b o,b∉ch->s.heap.get? b=some o->H b=none->H' b=none)
  (there:∀ b o,b∉ch->s.heap.get? b=some o->∃ o',h'.get? b=some o')
  (tups:∀ b xs,H b=some 0x2E->H' b=some 0x2E) (sX:∀ b o u,H b=some (.iQ o u)->H' b=some (.iQ o u)) (xg:∀ b ps,H b=some (.WW ps)->∃ more,H' b=some (.WW (ps++more)))
  (ns:∀ m,s.heap.Ns X.env.locals m->h'.Ns X.env.locals m) (hok:nM X.prog X.w H' h') (hg:AllBare g') :
  Inv X pins σ H' { s with heap:=h',gens:=g',drawn:=d',toks:=t' }:=by
 have neL:∀ b o,X.s₀.heap.get? b=some o->b≠X.env.locals:=fun b o e=>A0S (A0x (A0I e) I.ok.above);have neC:∀ b o,X.s₀.heap.get? b=some o->b∉X.ex->b∉ch:=fun b o e hx hb=>by
  rcases (hch b hb).1 with z | z
  ·exact hx z
  ·exact absurd (A0x (A0I e) z) (A1U _)
 have cellK:∀ x c,X.env.cells.lookup x=some c->∀ v,s.heap.IsCell c v->h'.IsCell c v:=fun x c e v ⟨o,ho,hd⟩=>by
  have ZW:c∉ch:=fun z=>(hch c z).2.2.1 x c e rfl
  by_cases hc:c∈X.fs
  ·obtain ⟨sl,q⟩:=slot c o (I.WX x c e) hc ZW ho (I.jU x c e);exact ⟨_,q,hd⟩
  ·exact ⟨o,keep c o (I.WX x c e) hc ZW ho (I.jU x c e),hd⟩
 refine ⟨I.ok,I.os,hg,⟨fun b o e n hb hx=>?_,fun b o e n hb hx=>?_,fun b o e n hx=>?_,fun b o e hx=>?_,fun b xs e=>tups b xs (I.base.tups b xs e),fun b o xs e=>sX b o xs (I.base.sX b o xs e),fun b ps e=>?_⟩,?_,fun x c e=>?_,?_,fun x c e=>?_,fun p hp=>?_,hok,I.len⟩
 ·exact keep b o (neL b o e) hb (neC b o e hx) (I.base.keep b o e n hb hx) (I.base.free b o e n hx)
 ·obtain ⟨sl,e1⟩:=I.base.slot b o e n hb hx;obtain ⟨sl',e2⟩:=slot b _ (neL b o e) hb (neC b o e hx) e1 (I.base.free b o e n hx);exact ⟨sl',e2⟩
 ·obtain ⟨o',e1⟩:=I.base.there b o e hx;exact free b o' (neC b o e hx) e1 (I.base.free b o e n hx)
 ·obtain ⟨o',e1⟩:=I.base.there b o e hx;exact there b o' (neC b o e hx) e1
 ·obtain ⟨m1,e1⟩:=I.base.xg b ps e;obtain ⟨m2,e2⟩:=xg b _ e1;exact ⟨m1++m2,by rw [e2,Array.append_assoc]⟩
 ·obtain ⟨m,hn,hl⟩:=I.loc;refine ⟨m,ns m hn,fun i x v e1 e2 e3=>?_⟩;obtain ⟨u,r,l⟩:=hl i x v e1 e2 e3;refine ⟨u,r,?_⟩;rcases l with l | ⟨k,c,e,z⟩
  ·exact .inl l
  ·exact .inr ⟨k,c,e,cellK x c e _ z⟩
 ·obtain ⟨v,z⟩:=I.cell x c e;exact ⟨v,cellK x c e v z⟩
 ·obtain ⟨m,⟨o,_,_,ho,_⟩,_⟩:=I.loc;exact free _ o (fun z=>(hch _ z).2.1 rfl) ho I.free
 ·obtain ⟨v,o,ho,hd⟩:=I.cell x c e;exact free c o (fun z=>(hch c z).2.2.1 x c e rfl) ho (I.jU x c e)
 ·obtain ⟨e,n,ne,nf,d⟩:=I.pin p hp;have ZW:p.1∉ch:=fun z=>(hch p.1 z).2.2.2 p hp rfl;exact ⟨keep p.1 p.2 ne nf ZW e n,free p.1 p.2 ZW e n,ne,nf,d⟩
theorem Inv.un (I:Inv X pins σ H s) (u:Un X.fs [] H H' s.heap h') (hok:nM X.prog X.w H' h'):Inv X pins σ H' { s with heap:=h',toks:=t' }:=by
 obtain ⟨m,⟨o,es,ep,ho,r⟩,_⟩:=id I.loc;obtain ⟨sl,hL⟩:=u.any ho I.free 0xA;exact I.step (g':=s.gens) (d':=s.drawn) (ch:=[]) (fun _ z=>nomatch z) (fun b o _ hb _ e n=>u.keep b o e n hb 0xA) (fun b o _ hb _ e n=>u.slot b o e n hb 0xA) (fun b o _ e n=>u.free b o e n 0xA) (fun b o _ e=>u.there b o e 0xA) u.tups u.sX u.xg (fun m' hm=>by
  obtain ⟨o',es',ep',ho',r'⟩:=hm;rw [ho] at ho';cases ho';exact ⟨_,es',ep',hL,r'⟩) hok I.bare
theorem Inv.call {g':Array GenState}{d':Drawn} (I:Inv X pins σ H s) (u:Un (frs X.stack) ch H H' s.heap h') (hok:nM X.prog X.w H' h') (hg:AllBare g')
  (hch:∀ b∈ch,(b∈X.ex\/X.s₀.heap.objs.size<=b)/\b≠X.env.locals/\(∀ x c,X.env.cells.lookup x=some c->c≠b)/\∀ p∈X.pn++pins,p.1≠b) :
  Inv X pins σ H' { s with heap:=h',gens:=g',drawn:=d',toks:=t' }:=by
 obtain ⟨m,⟨o,es,ep,ho,r⟩,_⟩:=id I.loc;obtain ⟨sl,hL⟩:=u.any ho I.free fun z=>(hch _ z).2.1 rfl;exact I.step (ch:=ch) hch (fun b o hL hb hc e n=>u.keep b o e n (fun z=>(A0d.mp (I.Dg b z)).elim hL hb) hc) (fun b o _ _ hc e n=>u.any e n hc) (fun b o hc e n=>u.free b o e n hc) (fun b o hc e=>u.there b o e hc) u.tups u.sX u.xg (fun m' hm=>by
  obtain ⟨o',es',ep',ho',r'⟩:=hm;rw [ho] at ho';cases ho';exact ⟨_,es',ep',hL,r'⟩) hok hg
theorem Inv.turned (I:Inv X pins σ H s) (k:∀ b o,b≠it->s.heap.get? b=some o->h'.get? b=some o) (hn:H it=none) (hL:it≠X.env.locals)
  (h1:it∈X.ex\/X.s₀.heap.objs.size<=it) (h2:∀ x c,X.env.cells.lookup x=some c->c≠it) (h3:∀ p∈X.pn++pins,p.1≠it):Inv X pins σ H { s with heap:=h',toks:=t' }:=by
 have nit:∀ b u,H b=some u->b≠it:=fun b u e z=>by rw [z,hn] at e;cases e
 refine I.step (g':=s.gens) (d':=s.drawn) (ch:=[it]) (fun b hb=>?_) (fun b o _ _ hc e _=>k b o (fun z=>hc (by simp [z])) e) (fun b o _ _ hc e _=>⟨o.slots,k b o (fun z=>hc (by simp [z])) e⟩) (fun _ _ _ _ n=>n)
  (fun b o hc e=>⟨o,k b o (fun z=>hc (by simp [z])) e⟩) (fun _ _ e=>e) (fun _ _ _ e=>e) (fun b ps e=>⟨#[],by rw [e];simp⟩) (fun m hm=>?_) (fun b u e=>?_) I.bare
 ·have e:b=it:=by simpa using hb
  subst e;exact ⟨h1,hL,h2,h3⟩
 ·obtain ⟨o,es,ep,ho,r⟩:=hm;exact ⟨o,es,ep,k _ o (A0k hL) ho,r⟩
 ·refine (I.hok b u e).stay (fun c v hc q=>k c v ?_ q) (fun _ q=>q) fun _ _ q=>q;rcases hc with z | z
  ·rw [z];exact nit b u e
  ·exact nit c _ z
theorem Inv.tok (I:Inv X pins σ H s) (t:Nat):Inv X pins σ H { s with toks:=t }:=I.un (h':=s.heap) (t':=t) Un.refl I.hok
theorem Inv.kept (I:Inv X pins σ H s) (k:∀ b u,s.heap.get? b=some u->h'.get? b=some u):Inv X pins σ H { s with heap:=h',toks:=t' }:=I.un (Un.kept k) (I.hok.kept k)
theorem Inv.laid (I:Inv X pins σ H s) (k:∀ b u,s.heap.get? b=some u->h'.get? b=some u) (hp:s.heap.objs.size<=a) (new:dW X.prog X.w (upd H a o) h' a o) :
  Inv X pins σ (upd H a o) { s with heap:=h',toks:=t' }:=I.un (Un.laid k hp (I.hok.fresh hp)) (I.hok.laid k hp new)
theorem Inv.write {x e:Addr} (I:Inv X pins σ H s) (mu:ZS (H x)) (he:e=x\/H e=some (.own x)) (k:∀ b u,b≠e->s.heap.get? b=some u->h'.get? b=some u) (heo:∃ u,h'.get? e=some u)
  (new:dW X.prog X.w (upd H x o) h' x o):Inv X pins σ (upd H x o) { s with heap:=h',toks:=t' }:=I.un (Un.write mu he k heo) (I.hok.write mu he k heo new)
theorem Inv.weak {σ':List (Option V)} (I:Inv X pins σ H s) (hl:σ'.length=σ.length) (w:∀ (i:Nat) v,σ'[i]?=some (some v)->σ[i]?=some (some v)):Inv X pins σ' H s :=
 ⟨I.ok,I.os,I.bare,I.base,let ⟨m,hn,hl'⟩:=I.loc;⟨m,hn,fun i x v e1 e2 e3=>hl' i x v e1 (w i v e2) e3⟩,I.cell,I.free,I.jU,I.pin,I.hok,hl.trans I.len⟩
theorem Inv.Gp {Lj:List 0x17} (I:Inv X pins σ H s) (h:∀ p∈Lj,s.heap.get? p.1=some p.2/\H p.1=none/\p.1≠X.env.locals/\p.1∉X.fs/\∀ v,p.2.data≠.cell v):Inv X Lj σ H s :=
 ⟨I.ok,I.os,I.bare,I.base,I.loc,I.cell,I.free,I.jU,fun p hp=>(A0l.mp hp).elim (fun z=>I.pin p (A0U _ z)) (h p),I.hok,I.len⟩
theorem zQ (hN:N.Nodup) {x:Str} (a:N[i]?=some x) (b:N[j]?=some x):i=j:=by
 obtain ⟨h1,e1⟩:=A0j.mp a;obtain ⟨h2,e2⟩:=A0j.mp b;exact (List.getElem_inj hN).mp (e1.trans e2.symm)
theorem vJ {M:Model}{x:Str}{Q:Unit->Shared->Prop} (I:Inv X pins σ H s) (hN:X.N.Nodup) (hi:X.N[i]?=some x) (hx:Loc X.env.scope x) (r:RelV v u)
  (h:∀ s',Inv X pins (σ.set i (some v)) H s'->(∃ a,Heap.SameBut a s.heap s'.heap/\(a=X.env.locals\/X.env.cells.lookup x=some a))->Q () s') (hf:X.fn x=true\/X.env.scope.names.lookup x=some .local:=by first | exact .inl rfl | exact .inr rfl | assumption):wpAny M A (storeName X.env x u) Q E s:=by
 obtain ⟨m,hn,hl⟩:=id I.loc;have hcls:(X.env.scope.kind==.class||(X.env.scope.kind==.module&&X.env.locals != X.env.globals))=false:=by rw [I.ok.kind];rfl
 have hiσ:i<σ.length:=by rw [I.len];exact (A0j.mp hi).1
 have WX:=I.WX;have tracked:∀ {a:Addr}{h':Heap},(∃ o,s.heap.get? a=some o/\H a=none)->Heap.SameBut a s.heap h'->nM X.prog X.w H h':=fun {a h'} ha hs b ob e=>by
  obtain ⟨_,_,hfree⟩:=ha;refine (I.hok b ob e).stay (fun c w' hc q=>(hs.2 c ?_).trans q) (fun _ q=>q) fun _ _ q=>q;rintro rfl;rcases hc with rfl | hc
  ·rw [hfree] at e;cases e
  ·rw [hfree] at hc;cases hc
 rcases hx with hk | hk
 ·refine wpAny_storeName_local hk hn (fun h' hn' hs=>?_) hcls;obtain ⟨oL,_,_,hoL,_⟩:=id hn;refine h _ ⟨I.ok,I.os,I.bare,⟨fun b o e n hb hx=>?_,fun b o e n hb hx=>?_,I.base.free,fun b o e hx=>?_,I.base.tups,I.base.sX,I.base.xg⟩,⟨_,hn',fun j y v' e1 e2 e3=>?_⟩,fun y c e=>?_,I.free,I.jU,fun p hp=>?_,tracked ⟨oL,hoL,I.free⟩ hs,by simpa using I.len⟩ ⟨_,hs,.inl rfl⟩
  ·exact (hs.2 b (A0S (A0x (A0I e) I.ok.above))).trans (I.base.keep b o e n hb hx)
  ·obtain ⟨sl,e1⟩:=I.base.slot b o e n hb hx;exact ⟨sl,(hs.2 b (A0S (A0x (A0I e) I.ok.above))).trans e1⟩
  ·obtain ⟨o',e1⟩:=I.base.there b o e hx;exact ⟨o',(hs.2 b (A0S (A0x (A0I e) I.ok.above))).trans e1⟩
  ·by_cases hj:j=i
   ·subst hj;rw [hi] at e1;cases e1;rw [List.getElem?_set_self hiσ] at e2;cases e2;exact ⟨u,r,.inl ⟨hk,by simp⟩⟩
   ·rw [A3v (A0k hj)] at e2;obtain ⟨u',r',q⟩:=hl j y v' e1 e2 e3;refine ⟨u',r',?_⟩;rcases q with ⟨k,e⟩ | ⟨k,c,e,z⟩
    ·refine .inl ⟨k,?_⟩;have:y≠x:=fun e=>hj (zQ hN e1 (e ▸ hi));simp [this,e]
    ·exact .inr ⟨k,c,e,z.sameBut hs (WX y c e)⟩
  ·obtain ⟨w',z⟩:=I.cell y c e;exact ⟨w',z.sameBut hs (WX y c e)⟩
  ·obtain ⟨e,n,ne,nf,d⟩:=I.pin p hp;exact ⟨(hs.2 p.1 ne).trans e,n,ne,nf,d⟩
 ·have hfn:X.fn x=true:=by
   rcases hf with z | z
   ·exact z
   ·rw [z] at hk;cases hk
  obtain ⟨c,hc⟩:=I.ok.has x (.inl hk);obtain ⟨w',z⟩:=I.cell x c hc;refine wpAny_storeName_cell I.ok.kind hk hc z (fun h' hc' hs=>?_);obtain ⟨oc,hoc,hocd⟩:=id z;refine h { s with heap:=h' } ⟨I.ok,I.os,I.bare,⟨fun b o e n hb hx=>?_,fun b o e n hb hx=>?_,I.base.free,fun b o e hx=>?_,I.base.tups,I.base.sX,I.base.xg⟩,⟨m,hn.sameBut hs (A0k (WX x c hc)),fun j y v' e1 e2 e3=>?_⟩,fun y c' e=>?_,I.free,I.jU,fun p hp=>?_,tracked ⟨oc,hoc,I.jU x c hc⟩ hs,by simpa using I.len⟩ ⟨c,hs,.inr hc⟩
  ·exact (hs.2 b (A0S (A0x (A0I e) (I.ok.cab x c hfn hc)))).trans (I.base.keep b o e n hb hx)
  ·obtain ⟨sl,e1⟩:=I.base.slot b o e n hb hx;exact ⟨sl,(hs.2 b (A0S (A0x (A0I e) (I.ok.cab x c hfn hc)))).trans e1⟩
  ·obtain ⟨o',e1⟩:=I.base.there b o e hx;exact ⟨o',(hs.2 b (A0S (A0x (A0I e) (I.ok.cab x c hfn hc)))).trans e1⟩
  ·by_cases hj:j=i
   ·subst hj;rw [hi] at e1;cases e1;rw [List.getElem?_set_self hiσ] at e2;cases e2;exact ⟨u,r,.inr ⟨.inl hk,c,hc,hc'⟩⟩
   ·rw [A3v (A0k hj)] at e2;obtain ⟨u',r',q⟩:=hl j y v' e1 e2 e3;refine ⟨u',r',?_⟩;rcases q with q | ⟨k,c',e,z'⟩
    ·exact .inl q
    ·refine .inr ⟨k,c',e,z'.sameBut hs ?_⟩;rintro rfl;exact hj (zQ hN e1 (I.ok.inj _ _ _ e hc ▸ hi))
  ·by_cases hcc:c'=c
   ·subst hcc;exact ⟨_,hc'⟩
   ·obtain ⟨w2,z2⟩:=I.cell y c' e;exact ⟨w2,z2.sameBut hs hcc⟩
  ·obtain ⟨e,n,ne,nf,d⟩:=I.pin p hp;refine ⟨(hs.2 p.1 ?_).trans e,n,ne,nf,d⟩;intro q;rw [q,hoc] at e;have q':oc=p.2:=A0V e;exact d w' (by rw [<- q'];exact hocd)
theorem zR {M:Model}{x:Str}{Q:Unit->Shared->Prop} (I:Inv X pins σ H s) (hN:X.N.Nodup) (hi:X.N[i]?=some x) (hx:Loc X.env.scope x) (r:RelV v u)
  (h:∀ s',Inv X pins (σ.set i (some v)) H s'->Q () s') (hf:X.fn x=true\/X.env.scope.names.lookup x=some .local:=by first | exact .inl rfl | exact .inr rfl | assumption):wpAny M A (storeName X.env x u) Q E s :=
 vJ I hN hi hx r (fun s' I' _=>h s' I') hf
theorem Inv.call' (I:Inv X pins σ H s) (ho:s'.os=s.os) (u:Un (frs X.stack) ch H H' s.heap s'.heap) (hok:nM X.prog X.w H' s'.heap) (hg:AllBare s'.gens)
  (hch:∀ b∈ch,(b∈X.ex\/X.s₀.heap.objs.size<=b)/\b≠X.env.locals/\(∀ x c,X.env.cells.lookup x=some c->c≠b)/\∀ p∈X.pn++pins,p.1≠b):Inv X pins σ H' s':=by
 obtain ⟨h',g',d',t',o'⟩:=s';have e:o'=s.os:=ho;subst e;exact I.call (g':=g') (t':=t') (d':=d') u hok hg hch
end
abbrev XK:=Value->Option Addr->Hp->Prop
abbrev St:=List (Option V)
variable {σ:St}
abbrev VK:=V->Hp->Prop
abbrev TE:=St->Hp->VK->Prop
variable {ta td te tl tv ty:TE}{Lb:List (TE×TE)}
abbrev TT:=St->Hp->(Bool->Hp->Prop)->Prop
variable {tt:TT}
abbrev TA:=St->Hp->(List V->Hp->Prop)->Prop
structure Ends where
 nx:St->Hp->Prop
 rt:VK
 bk:St->Hp->Prop:=fun _ _=>False
 ct:St->Hp->Prop:=fun _ _=>False
abbrev TS:=Ends->St->Hp->Prop
variable {tb:TS}
inductive EP (X:Cx) (pins:List 0x17) (σ:St) (Q:VK) (u:Value) (s':Shared):Prop
 | mk (v:V) (H':Hp) (_:Inv X pins σ H' s') (_:RelV v u) (_:Q v H'):EP X pins σ Q u s'
inductive TP (X:Cx) (pins:List 0x17) (σ:St) (Q:Bool->Hp->Prop) (b:Bool) (s':Shared):Prop
 | mk (H':Hp) (_:Inv X pins σ H' s') (_:Q b H'):TP X pins σ Q b s'
inductive AP (X:Cx) (pins:List 0x17) (σ:St) (Q:List V->Hp->Prop) (us:List Value) (s':Shared):Prop
 | mk (vs:List V) (H':Hp) (_:Inv X pins σ H' s') (_:Vals vs us) (_:Q vs H'):AP X pins σ Q us s'
def SP (X:Cx) (pins:List 0x17) (D:Ends) (f:Flow) (s':Shared):Prop :=
 match f with
 | .next=>∃ σ' H',Inv X pins σ' H' s'/\D.nx σ' H'
 | .brk=>∃ σ' H',Inv X pins σ' H' s'/\D.bk σ' H'
 | .cont=>∃ σ' H',Inv X pins σ' H' s'/\D.ct σ' H'
 | .ret u=>∃ v σ' H',Inv X pins σ' H' s'/\RelV v u/\D.rt v H'
def PE (X:Cx) (e:Expr) (t:TE):Prop :=
 ∀ (pins:List 0x17) (s:Shared) (σ:St) (H:Hp) (Q:VK),Inv X pins σ H s->t σ H Q->wpAny 0x9 X.A (eval e X.env) (EP X pins σ Q) X.xe s
def PT (X:Cx) (e:Expr) (t:TT):Prop :=
 ∀ (pins:List 0x17) (s:Shared) (σ:St) (H:Hp) (Q:Bool->Hp->Prop),Inv X pins σ H s->t σ H Q->wpAny 0x9 X.A (isTrue e X.env (eval e X.env)) (TP X pins σ Q) X.xe s
def PW (X:Cx) (e:Expr) (t:TT):Prop :=
 ∀ (whole:Sem Value) (pins:List 0x17) (s:Shared) (σ:St) (H:Hp) (Q:Bool->Hp->Prop),Inv X pins σ H s->t σ H Q->wpAny 0x9 X.A (isTrue e X.env whole) (TP X pins σ Q) X.xe s
theorem PW.pt {t:TT} (h:PW X e t):PT X e t:=h _
def PA (X:Cx) (es:List Expr) (t:TA):Prop :=
 ∀ (pos:Pos) (pins:List 0x17) (s:Shared) (σ:St) (H:Hp) (Q:List V->Hp->Prop),Inv X pins σ H s->t σ H Q->wpAny 0x9 X.A (spliced (backTo pos (starEach es X.env))) (AP X pins σ Q) X.xe s
def PS (X:Cx) (st:Stmt) (t:TS):Prop :=
 ∀ (pins:List 0x17) (s:Shared) (σ:St) (H:Hp) (D:Ends),Inv X pins σ H s->t D σ H->wpAny 0x9 X.A (exec st X.env) (SP X pins D) X.xe s
def CV (X:Cx) (st:List Stmt) (t:TS):Prop :=
 ∀ (pins:List 0x17) (s:Shared) (σ:St) (H:Hp) (D:Ends),Inv X pins σ H s->t D σ H->wpAny 0x9 X.A (execs st X.env) (SP X pins D) X.xe s
theorem cN {α:Type}{t:Sem α}{Q Q':α->Shared->Prop}{M:Model} (h:wpAny M A t Q E s) (hQ:∀ a s,Q a s->Q' a s):wpAny M A t Q' E s:=A1p h hQ fun _ _ x=>x
section
inductive zT (i:Nat) (σ:L2.St) (H:Hp) (Q:VK):Prop
 | mk (v:V) (_:σ[i]?=some (some v)) (_:Q v H):zT i σ H Q
def tC (v:V):TE:=fun _ H Q=>Q v H
theorem WY {x:Str} (hN:X.N[i]?=some x) (hv:Vis X.env.scope x) (hd:0x24=false:=by decide) (hcd:(x==("__classdict__" : Str))=false:=by decide):PE X (.Name x pos) (zT i):=by
 intro pins s σ H Q I h;obtain ⟨v,e,h⟩:=h;obtain ⟨m,hn,hl⟩:=I.loc;obtain ⟨u,r,l⟩:=hl i x v hN e hv;have fin:EP X pins σ Q u s:=⟨v,H,I,r,h⟩;rcases l with ⟨hk,hm⟩ | ⟨hk,c,hc,hcell⟩
 ·exact wpAny_Name (wpAny_loadName_local I.ok.kind hk hn hm fin) hd
 ·rcases hk with hk | hk
  ·exact wpAny_Name (wpAny_loadName_cell I.ok.kind hk hc hcell fin) hd
  ·exact wpAny_Name (wpAny_loadName_free I.ok.kind hk hc hcell fin hcd) hd
theorem aA {i j pos}:PE X (.Constant (.int i) j pos) (tC (.int i)):=fun _ _ _ H _ I h=>wpAny_Constant_int ⟨.int i,H,I.tok _,⟨_,rfl⟩,h⟩
theorem nW {b j pos}:PE X (.Constant (.bool b) j pos) (tC (.bl b)):=fun _ _ _ H _ I h=>Constant_bool ⟨.bl b,H,I,rfl,h⟩
theorem lB {j pos}:PE X (.Constant .none j pos) (tC .non):=fun _ _ _ H _ I h=>Constant_none ⟨.non,H,I,rfl,h⟩
theorem aK {x j pos}:PE X (.Constant (.str x) j pos) (tC (.str x)):=fun _ _ _ H _ I h=>Calls.Constant_str ⟨.str x,H,I.tok _,⟨_,rfl⟩,h⟩
def Gl (X:Cx) (x:Str):Prop:=X.env.kindOf x=some .globalImplicit
theorem oO {x:Str} (I:Inv X pins σ H s) (hg:Gl X x) (hm:X.mg x=some u) (h:Q u s)
  (hd:0x24=false:=by decide):wpAny 0x9 X.A (eval (.Name x pos) X.env) Q E s :=
 A3W I.ok.kind hg (Calls.loadGlobal_global (by rw [I.ok.glob];exact I.mod.glob.keeps I.bk) hm h) hd
theorem oA {x:Str} (I:Inv X pins σ H s) (hg:Gl X x) (hm:X.mg x=none) (hv:bootBuiltins x=some u) (h:Q u s)
  (hn:x≠"__name__":=by decide) (hd:0x24=false:=by decide):wpAny 0x9 X.A (eval (.Name x pos) X.env) Q E s:=by
 obtain ⟨mb,h1,h2⟩:=I.mod.blt;exact A3W I.ok.kind hg (Calls.loadGlobal_builtin (by rw [I.ok.glob];exact I.mod.glob.keeps I.bk) hm (by rw [I.ok.blt];exact h1.keeps I.bk) ((h2 x hn).trans hv) h) hd
theorem cQ {x:Str} (hg:Gl X x) (hm:X.mg x=some u) (r:RelV v u) (hd:0x24=false:=by decide):PE X (.Name x pos) (tC v) :=
 fun _ _ _ H _ I h=>oO I hg hm ⟨v,H,I,r,h⟩ hd
theorem j8 {x:Str} (hg:Gl X x) (hm:X.mg x=none) (hv:bootBuiltins x=some u) (r:RelV v u) (hn:x≠"__name__":=by decide) (hd:0x24=false:=by decide):PE X (.Name x pos) (tC v) :=
 fun _ _ _ H _ I h=>oA I hg hm hv ⟨v,H,I,r,h⟩ hn hd
variable {a b:Expr}{tb:TE}
def PC (X:Cx) (op:CmpOp) (a b:Expr) (t:TE):Prop :=
 ∀ (pins:List 0x17) (s:Shared) (σ:St) (H:Hp) (Q:VK),Inv X pins σ H s->t σ H Q ->
  wpAny 0x9 X.A (eval a X.env) (fun v s₁=>wpAny 0x9 X.A (eval b X.env) (fun u s₂=>wpAny 0x9 X.A (compareOp op v u) (EP X pins σ Q) X.xe s₂) X.xe s₁) X.xe s
theorem zU (b:Expr)  (h:op≠.In) (h2:op≠.NotIn):behindInMarks op b=false:=by
 have e1:(op==CmpOp.In)=false:=by cases op <;> first | rfl | exact absurd rfl h
 have e2:(op==CmpOp.NotIn)=false:=by cases op <;> first | rfl | exact absurd rfl h2
 cases b <;> simp [behindInMarks,e1,e2]
def tIsN (ta:TE):TE:=fun σ H Q=>ta σ H fun x H1=>Q (.bl (decide (x=.non))) H1
theorem RelV.Lk {x:V}{v:Value} (r:RelV x v):(v==Value.none)=decide (x=.non):=by
 cases x with
 | non=>cases r;rfl
 | bl _=>cases r;rfl
 | int _=>obtain ⟨t,rfl⟩:=r;rfl
 | str _=>obtain ⟨t,rfl⟩:=r;rfl
 | Gm _=>obtain ⟨t,rfl⟩:=r;rfl
 | flt _=>obtain ⟨t,rfl⟩:=r;rfl
 | ref _=>cases r;rfl
 | ty _=>cases r;rfl
theorem Lp {j pos'} (ha:PE X a ta):PC X .Is a (.Constant .none j pos') (tIsN ta):=by
 intro pins s σ H Q I h;refine cN (ha pins s σ H _ I h) fun v s1 zq=>?_;obtain ⟨x,H1,I1,r1,q1⟩:=zq;exact Constant_none (is_none_gen ⟨.bl _,H1,I1,by rw [r1.Lk];rfl,q1⟩)
inductive ZX (Q:Bool->Hp->Prop) (x:V) (H1:Hp):Prop
 | mk (c:Bool) (_:x=.bl c) (_:Q c H1):ZX Q x H1
def tB (t:TE):TT:=fun σ H Q=>t σ H fun x H1=>ZX Q x H1
theorem xr {t:TE} (h:PC X op a b t) (h1:behindInMarks op b=false:=by first | exact zU _ (by decide) (by decide) | rfl):PE X (.Compare a [op] [b] pos) t:=fun pins s σ H Q I hw=>wpAny_Compare1 (h pins s σ H Q I hw) h1
theorem xu {t:TE} (h:PC X op a b t) (h1:behindInMarks op b=false:=by first | exact zU _ 0x6 0x6 | rfl):PT X (.Compare a [op] [b] pos) (tB t):=by
 intro pins s σ H Q I hw;refine wpAny_isTrue_Compare1 (cN (h pins s σ H _ I hw) fun v s1 h1=>cN h1 fun u s2 h2=>cN h2 fun c s3 ⟨x,H1,I1,r1,q1⟩=>?_) h1;obtain ⟨d,rfl,q⟩:=q1;cases r1;exact A2c ⟨H1,I1,q⟩
theorem dZ {t:TE} (h:PE X e t) (he:∀ whole,isTrue e X.env whole=(do let v <- whole;standAt e.pos;holding [v] (truthy v)):=by intro _;rfl):PT X e (tB t):=by
 intro pins s σ H Q I hw;refine isTrue_plain (cN (h pins s σ H _ I hw) fun v s1 ⟨x,H1,I1,r1,q1⟩=>?_) (he _);obtain ⟨d,rfl,q⟩:=q1;cases r1;exact A2c ⟨H1,I1,q⟩
variable {tA tB':TT}{rest:List Expr}
def tAnd (t u:TT):TT:=fun σ H Q=>t σ H fun c H1=>if c=true then u σ H1 Q else Q false H1
def tOr (t u:TT):TT:=fun σ H Q=>t σ H fun c H1=>if c=true then Q true H1 else u σ H1 Q
def tNot (t:TT):TT:=fun σ H Q=>t σ H fun c H1=>Q (!c) H1
theorem jC (ha:PT X a tA):PW X (.BoolOp .And [a] pos) tA:=by
 intro wh pins s σ H Q I h;refine isTrue_and (cN (ha pins s σ H Q I h) fun c s1 e=>?_);cases c with
 | true=>exact isTrue_and_nil e
 | false=>exact e
theorem sY (ha:PT X a tA):PW X (.BoolOp .Or [a] pos) tA:=by
 intro wh pins s σ H Q I h;refine isTrue_or (cN (ha pins s σ H Q I h) fun c s1 e=>?_);cases c with
 | false=>exact isTrue_or_nil e
 | true=>exact e
theorem lZ (ha:PT X a tA) (hb:PW X (.BoolOp .And (b::rest) pos) tB'):PW X (.BoolOp .And (a::b::rest) pos) (tAnd tA tB'):=by
 intro wh pins s σ H Q I h;refine isTrue_and (cN (ha pins s σ H _ I h) fun c s1 zq=>?_);obtain ⟨H1,I1,q1⟩:=zq;cases c with
 | true=>exact hb wh pins s1 σ H1 Q I1 q1
 | false=>exact ⟨H1,I1,q1⟩
theorem zV (ha:PT X a tA) (hb:PW X (.BoolOp .Or (b::rest) pos) tB'):PW X (.BoolOp .Or (a::b::rest) pos) (tOr tA tB'):=by
 intro wh pins s σ H Q I h;refine isTrue_or (cN (ha pins s σ H _ I h) fun c s1 zq=>?_);obtain ⟨H1,I1,q1⟩:=zq;cases c with
 | true=>exact ⟨H1,I1,q1⟩
 | false=>exact hb wh pins s1 σ H1 Q I1 q1
theorem iT (ha:PT X a tA):PT X (.UnaryOp .Not a pos) (tNot tA):=by
 intro pins s σ H Q I h;exact isTrue_not (cN (ha pins s σ H (fun c H1=>Q (!c) H1) I h) fun c s1 ⟨H1,I1,q1⟩=>⟨H1,I1,q1⟩)
inductive Gq (tb:TE) (σ:L2.St) (Q:VK) (x:V) (H1:Hp):Prop
 | mk (c:Bool) (_:x=.bl c) (_:if c=true then tb σ H1 Q else Q (.bl false) H1):Gq tb σ Q x H1
def a0a (ta tb:TE):TE:=fun σ H Q=>ta σ H fun x H1=>Gq tb σ Q x H1
inductive Gr (Q:VK) (x:V) (H1:Hp):Prop
 | mk (c:Bool) (_:x=.bl c) (_:Q (.bl (!c)) H1):Gr Q x H1
def a0b (ta:TE):TE:=fun σ H Q=>ta σ H fun x H1=>Gr Q x H1
theorem sZ {op}{t:TE} (h:PE X a t):PE X (.BoolOp op [a] pos) t:=fun pins s σ H Q I hw=>BoolOp_one (h pins s σ H Q I hw)
theorem m7 (ha:PE X a ta) (hb:PE X (.BoolOp .And (b::rest) pos) tb):PE X (.BoolOp .And (a::b::rest) pos) (a0a ta tb):=by
 intro pins s σ H Q I h;refine BoolOp_and (cN (ha pins s σ H _ I h) fun v s1 zq=>?_);obtain ⟨x,H1,I1,r1,q1⟩:=zq;obtain ⟨c,rfl,q1⟩:=q1;cases r1;refine A2c ?_;cases c with
 | true=>exact hb pins s1 σ H1 Q I1 q1
 | false=>exact ⟨.bl false,H1,I1,rfl,q1⟩
theorem X3 (ha:PE X a ta):PE X (.UnaryOp .Not a pos) (a0b ta):=by
 intro pins s σ H Q I h;refine UnaryOp_ (cN (ha pins s σ H _ I h) fun v s1 zq=>?_);obtain ⟨x,H1,I1,r1,q1⟩:=zq;obtain ⟨c,rfl,q1⟩:=q1;cases r1;exact not_of (A2c ⟨.bl (!c),H1,I1,rfl,q1⟩)
end
def bR (K:PySem.W.Frag) (H:Hp) (a:Addr) (xs:List V):Prop :=
 Rd H a (.lst xs) \/
  ∃ (o:Obj) (its:Array Value) (n:Nat),K.lookup a=some o/\o.cls=.type "list"/\o.dict=none/\o.data=.seq its n/\its.size<=sizeLine/\Vals xs its.toList
def bZ (K:PySem.W.Frag) (H:Hp) (a:Addr) (xs:List V):Prop :=
 Rd H a 0x2E \/
  ∃ (o:Obj) (its:Array Value) (n:Nat),K.lookup a=some o/\o.cls=.type "tuple"/\o.data=.seq its n/\its.size<=sizeLine/\Vals xs its.toList
def absV:Value->Option V
 | .none=>some .non
 | .bool b=>some (.bl b)
 | .int i _=>some (.int i)
 | .str x _=>some (.str x)
 | .bytes b _=>some (.Gm b)
 | .float b _=>some (.flt b)
 | .ref a=>some (.ref a)
 | .type n=>some (.ty n)
 | _=>none
theorem RelV.abs {x:V} (r:RelV x u):absV u=some x:=by
 cases x with
 | non=>cases r;rfl
 | bl _=>cases r;rfl
 | int _=>obtain ⟨t,rfl⟩:=r;rfl
 | str _=>obtain ⟨t,rfl⟩:=r;rfl
 | Gm _=>obtain ⟨t,rfl⟩:=r;rfl
 | flt _=>obtain ⟨t,rfl⟩:=r;rfl
 | ref _=>cases r;rfl
 | ty _=>cases r;rfl
theorem RelV.inj {x:V} (r:RelV x u) (q:RelV y u):x=y:=A0V (r.abs.symm.trans q.abs)
theorem Vals.inj:∀ {xs ys:List V}{us:List Value},Vals xs us->Vals ys us->xs=ys
 | _,_,_,.nil,.nil=>rfl
 | _,_,_,.cons r t,.cons r' t'=>by rw [r.inj r',Vals.inj t t']
theorem bR.of (h:H a=some (.lst xs)):bR K H a xs:=.inl (.inl h)
theorem bZ.of (h:H a=some 0x2E):bZ K H a xs:=.inl (.inl h)
theorem Inv.list (I:Inv X pins σ H s) (h:bR X.K H a xs):∃ its:List Value,Vals xs its/\PlainL s.heap a its.toArray/\xs.length<=sizeLine:=by
 rcases h with h | ⟨o,its,n,hk,hc,hd,hs,hz,r⟩
 ·obtain ⟨z,its,n,r,e⟩:=h.ok I.hok;exact ⟨its,r,⟨_,n,e,rfl,rfl,rfl⟩,z⟩
 ·refine ⟨its.toList,r,⟨o,n,I.nO a o hk,hc,hd,by simpa using hs⟩,?_⟩;have e:=r.length;simp only [A1w] at e;lia
theorem Inv.tuple (I:Inv X pins σ H s) (h:bZ X.K H a xs):∃ its:List Value,Vals xs its/\IsTup s.heap a its.toArray/\xs.length<=sizeLine:=by
 rcases h with h | ⟨o,its,n,hk,hc,hs,hz,r⟩
 ·obtain ⟨z,its,r,p⟩:=h.ok I.hok;exact ⟨its,r,p,z⟩
 ·refine ⟨its.toList,r,⟨o,I.nO a o hk,hc,n,by simpa using hs⟩,?_⟩;have e:=r.length;simp only [A1w] at e;lia
theorem Inv.zW (I:Inv X pins σ H s) (h:bR X.K H a xs) (h':bR X.K H a ys):xs=ys:=by
 obtain ⟨its,r,⟨o,n,e,_,_,d⟩,_⟩:=I.list h;obtain ⟨its',r',⟨o',n',e',_,_,d'⟩,_⟩:=I.list h';rw [e] at e';cases e';rw [d] at d';injection d' with d1 _;have:its=its':=by simpa using A1R Array.toList d1
 subst this;exact r.inj r'
theorem Inv.Jq (I:Inv X pins σ H s) (h:bZ X.K H a xs) (h':bZ X.K H a ys):xs=ys:=by
 obtain ⟨its,r,⟨o,e,_,n,d⟩,_⟩:=I.tuple h;obtain ⟨its',r',⟨o',e',_,n',d'⟩,_⟩:=I.tuple h';rw [e] at e';cases e';rw [d] at d';injection d' with d1 _;have:its=its':=by simpa using A1R Array.toList d1
 subst this;exact r.inj r'
abbrev Cx.wish (X:Cx) (E:Value->Shared->Prop):Cx:={ X with xe:=E }
abbrev Cx.Zz (X:Cx):Cx:=X.wish fun _ _=>False
theorem Cx.Ok.wish (ok:X.Ok) (E:Value->Shared->Prop):(X.wish E).Ok :=
 ⟨ok.mod,ok.kind,ok.glob,ok.blt,ok.above,ok.inj,ok.has,ok.cab,ok.hd,ok.frames,ok.stk,ok.exf,ok.bs,ok.RT,ok.Jp,ok.Li,ok.qu,ok.Vv⟩
theorem Cx.Ok.m8 (ok:(X.wish E).Ok):X.Ok :=
 ⟨ok.mod,ok.kind,ok.glob,ok.blt,ok.above,ok.inj,ok.has,ok.cab,ok.hd,ok.frames,ok.stk,ok.exf,ok.bs,ok.RT,ok.Jp,ok.Li,ok.qu,ok.Vv⟩
theorem Inv.wish (I:Inv X pins σ H s) (E:Value->Shared->Prop):Inv (X.wish E) pins σ H s:=⟨I.ok.wish E,I.os,I.bare,I.base,I.loc,I.cell,I.free,I.jU,I.pin,I.hok,I.len⟩
theorem Inv.m8 (I:Inv (X.wish E) pins σ H s):Inv X pins σ H s:=⟨I.ok.m8,I.os,I.bare,I.base,I.loc,I.cell,I.free,I.jU,I.pin,I.hok,I.len⟩
theorem SP.m8 {D:Ends}{f:Flow} (h:SP (X.wish E) pins D f s'):SP X pins D f s':=by
 cases f with
 | next=>obtain ⟨σ',H',I,q⟩:=h;exact ⟨σ',H',I.m8,q⟩
 | brk=>obtain ⟨σ',H',I,q⟩:=h;exact ⟨σ',H',I.m8,q⟩
 | cont=>obtain ⟨σ',H',I,q⟩:=h;exact ⟨σ',H',I.m8,q⟩
 | ret u=>obtain ⟨v,σ',H',I,r,q⟩:=h;exact ⟨v,σ',H',I.m8,r,q⟩
theorem CV.Zz {st:List Stmt}{t:TS} (h:CV X.Zz st t):CV X st t:=fun pins s σ H D I hw =>
 A1p (h pins s σ H D (I.wish _) hw) (fun _ _ q=>q.m8) fun _ _ z=>False.elim z
section
variable {rest:List Stmt}{t u:TS}
def a0c:TS:=fun D σ H=>D.nx σ H
def Lq (t u:TS):TS:=fun D σ H=>t { D with nx:=u D } σ H
theorem aR:CV X [] a0c:=fun _ _ σ H _ I h=>A3z ⟨σ,H,I,h⟩
theorem au (h1:PS X st t) (h2:CV X rest u):CV X (st::rest) (Lq t u):=by
 intro pins s σ H D I h;refine wpAny_execs_cons (cN (h1 pins s σ H { D with nx:=u D } I h) fun f s1 q=>?_);cases f with
 | next =>
  obtain ⟨σ',H',I',q⟩:=q;exact h2 pins s1 σ' H' D I' q
 | ret v=>exact q
 | brk=>exact q
 | cont=>exact q
theorem aG (h1:PS X st t):CV X [st] t:=by
 intro pins s σ H D I h;refine wpAny_execs_cons (cN (h1 pins s σ H D I h) fun f s1 q=>?_);cases f with
 | next=>exact A3z q
 | ret v=>exact q
 | brk=>exact q
 | cont=>exact q
theorem Inv.quiet (I:Inv X pins σ H s):interactive X.env=false:=by simp [interactive,I.ok.kind]
def a0d (te:TE):TS:=fun D σ H=>te σ H fun _ H1=>D.nx σ H1
theorem bV (he:PE X e te) (hs:swapsWith e none pos.line X.env=pure false:=by rfl):PS X (.Expr e pos) (a0d te):=by
 intro pins s σ H D I h;exact wpAny_Expr_any (cN (he pins s σ H _ I h) fun v s1 ⟨x,H1,I1,r1,q1⟩=>⟨σ,H1,I1,q1⟩) I.quiet hs
def Sd (te:TE):TS:=fun D σ H=>te σ H D.rt
theorem aV (he:PE X e te):PS X (.Return (some e) pos) (Sd te):=by
 intro pins s σ H D I h;exact wpAny_Return_some (cN (he pins s σ H _ I h) fun v s1 ⟨x,H1,I1,r1,q1⟩=>⟨x,σ,H1,I1,r1,q1⟩)
def Dh (c:TT) (t u:TS):TS:=fun D σ H=>c σ H fun b H1=>if b=true then t D σ H1 else u D σ H1
theorem bK {c:Expr}{a b:List Stmt}{tc:TT} (hc:PT X c tc) (ha:CV X a t) (hb:CV X b u):PS X (.If c a b pos) (Dh tc t u):=by
 intro pins s σ H D I h;refine wpAny_If (cN (hc pins s σ H _ I h) fun d s1 zq=>?_);obtain ⟨H1,I1,q1⟩:=zq;cases d with
 | true=>exact ha pins s1 σ H1 D I1 q1
 | false=>exact hb pins s1 σ H1 D I1 q1
def X4:TS:=fun _ _ _=>False
theorem dM {sts:List Stmt}:CV X sts X4:=fun _ _ _ _ _ _ h=>h.elim
end
abbrev TG:=V->St->Hp->(St->Hp->Prop)->Prop
variable {g:TG}
abbrev X5:=List V->St->Hp->(St->Hp->Prop)->Prop
def PG (X:Cx) (target:Expr) (t:TG):Prop :=
 ∀ (pins:List 0x17) (s:Shared) (σ:St) (H:Hp) (v:V) (u:Value) (Q:St->Hp->Prop),Inv X pins σ H s->RelV v u->t v σ H Q ->
  wpAny 0x9 X.A (assign target X.env u) (fun _ s'=>∃ σ' H',Inv X pins σ' H' s'/\Q σ' H') X.xe s
def PGs (X:Cx) (ts:List Expr) (t:X5):Prop :=
 ∀ (pins:List 0x17) (s:Shared) (σ:St) (H:Hp) (vs:List V) (us:List Value) (Q:St->Hp->Prop),Inv X pins σ H s->Vals vs us->t vs σ H Q ->
  wpAny 0x9 X.A (assignInOrder ((assignEach ts X.env).map (·.2)) us) (fun _ s'=>∃ σ' H',Inv X pins σ' H' s'/\Q σ' H') X.xe s
def oR (i:Nat):TG:=fun v σ H Q=>Q (σ.set i (some v)) H
theorem bf {x:Str} (hN:X.N.Nodup) (hi:X.N[i]?=some x) (hx:Loc X.env.scope x) (hf:X.fn x=true\/X.env.scope.names.lookup x=some .local:=by first | exact .inl rfl | exact .inr rfl | assumption):PG X (.Name x pos) (oR i):=by
 intro pins s σ H v u Q I r h;exact wpAny_assign_Name (zR I hN hi hx r (fun s' I'=>⟨_,H,I',h⟩) hf)
def gNil:X5:=fun vs σ H Q=>vs=[]/\Q σ H
inductive Vw (t:TG) (u:X5) (vs:List V) (σ:L2.St) (H:Hp) (Q:L2.St->Hp->Prop):Prop
 | mk (v:V) (r:List V) (_:vs=v::r) (_:t v σ H fun σ' H'=>u r σ' H' Q):Vw t u vs σ H Q
theorem gC:PGs X [] gNil:=by
 intro pins s σ H vs us Q I r h;obtain ⟨e,h⟩:=h;subst e;cases r;exact assignInOrder_nil ⟨σ,H,I,h⟩
theorem bT {t:TG}{u:X5} (h1:PG X e t) (h2:PGs X es u)
  (hs:(assignEach (e::es) X.env).map (·.2)=assign e X.env::(assignEach es X.env).map (·.2):=by rfl):PGs X (e::es) (Vw t u):=by
 intro pins s σ H vs us Q I r h;obtain ⟨v,vr,e1,h⟩:=h;subst e1;cases r with
 | cons r rr =>
  rw [hs];refine assignInOrder_cons (cN (h1 pins s σ H _ _ _ I r h) fun _ s1 zq=>?_);obtain ⟨σ1,H1,I1,q1⟩:=zq;exact h2 pins s1 σ1 H1 _ _ Q I1 rr q1
inductive X6 (K:W.Frag) (n:Nat) (t:X5) (v:V) (σ:L2.St) (H:Hp) (Q:L2.St->Hp->Prop):Prop
 | mk (a:Addr) (xs:List V) (_:v=.ref a) (_:bZ K H a xs) (_:xs.length=n) (_:t xs σ H Q):X6 K n t v σ H Q
theorem lC {k:Nat}{t:X5} (hc:X.calm=true) (h:PGs X es t)
  (hn:(assignEach es X.env).length=n:=by rfl) (hst:(assignEach es X.env).findIdx? (·.1)=none:=by rfl):PG X (.Tuple es k pos) (X6 X.K n t):=by
 intro pins s σ H v u Q I r hw;obtain ⟨a,xs,e1,hq,hl,hw⟩:=hw;subst e1;cases r;obtain ⟨its,rv,ht,hz⟩:=I.tuple hq;refine assign_Tuple_tuple (I.ok.hd hc) ht (by simp [hn,<- hl,rv.length]) hst fun h' hx=>?_;have I1:Inv X pins σ H { s with heap:=h' }:=I.kept (t':=s.toks) fun b o e=>hx b o (A0S (A0I e)) e;exact h pins _ σ H xs _ Q I1 (by simpa using rv) hw
def Sg (te:TE) (g:TG):TS:=fun D σ H=>te σ H fun x H1=>g x σ H1 D.nx
theorem tu (he:PE X e te) (hg:PG X tg g) (hs:swapsWithSole [tg] e pos.line X.env=pure false:=by rfl) (hw:swappedStores [tg] e X.env=pure none:=by rfl)
  (h1:(assignEach [tg] X.env).map (·.2)=[assign tg X.env]:=by rfl):PS X (.Assign [tg] e pos) (Sg te g):=by
 intro pins s σ H D I h;refine wpAny_Assign_stores (cN (he pins s σ H _ I h) fun v s1 ⟨x,H1,I1,r1,q1⟩=>?_) hs hw;rw [h1];exact cN (hg pins s1 σ H1 x v _ I1 r1 q1) fun _ s2 q=>q
theorem aY {x:Str} (hN:X.N.Nodup) (hi:X.N[i]?=some x) (hx:Loc X.env.scope x) (he:PE X e te) (hs:swapsWith e (some (.Name x pos')) pos.line X.env=pure false:=by rfl) (hf:X.fn x=true\/X.env.scope.names.lookup x=some .local:=by first | exact .inl rfl | exact .inr rfl | assumption) :
  PS X (.Assign [.Name x pos'] e pos) (Sg te (oR i)):=by
 intro pins s σ H D I h;refine wpAny_Assign_Name (cN (he pins s σ H _ I h) fun v s1 ⟨y,H1,I1,r1,q1⟩=>?_) hs;exact zR I1 hN hi hx r1 (fun s2 I2=>⟨_,H1,I2,q1⟩) hf
def X7 (c:TT) (tb:TS):TS:=fun D σ H=>∃ W:Nat->St->Hp->Prop,(∃ m,W m σ H)/\∀ m σ H,W m σ H ->
 c σ H fun b H1=>if b=true then ∃ N:St->Hp->Prop,(∀ σ' H',N σ' H'->∃ m',m'<m/\W m' σ' H')/\tb { D with nx:=N,ct:=N,bk:=D.nx } σ H1 else D.nx σ H1
theorem tD {c:Expr}{tc:TT} (hp:PassesOwn 0x9 X.A X.env X.xe) (hc:PT X c tc) (hb:CV X body tb):PS X (.While c body [] pos) (X7 tc tb):=by
 intro pins s σ H D I h;obtain ⟨W,⟨m0,w0⟩,turn⟩:=h;refine wpAny_While (codeAny_whileLoop (fun n s'=>∃ σ' H',Inv X pins σ' H' s'/\W n σ' H') ?_ m0 ⟨σ,H,I,w0⟩);rintro n s1 ⟨σ1,H1,I1,w1⟩;refine A2r hp (cN (hc pins s1 σ1 H1 _ I1 (turn n σ1 H1 w1)) fun b s2 zq=>?_);obtain ⟨H2,I2,q2⟩:=zq;cases b with
 | true =>
  obtain ⟨N,hN,q2⟩:=q2;rw [A0i rfl];refine A2r hp (cN (hb pins s2 σ1 H2 _ I2 q2) fun f s3 q3=>?_);cases f with
  | next =>
   obtain ⟨σ3,H3,I3,n3⟩:=q3;obtain ⟨m',hm,w3⟩:=hN σ3 H3 n3;exact ⟨m',hm,σ3,H3,I3,w3⟩
  | cont =>
   obtain ⟨σ3,H3,I3,n3⟩:=q3;obtain ⟨m',hm,w3⟩:=hN σ3 H3 n3;exact ⟨m',hm,σ3,H3,I3,w3⟩
  | brk=>exact q3
  | ret v=>exact q3
 | false =>
  rw [A0f A0p];exact A3z ⟨σ1,H2,I2,q2⟩
structure It where
 go:Nat->Hp->Prop
 Jr:Nat->Hp->V->Hp->Prop
 stop:Nat->Hp->Prop
def jm (X:Cx) (pins:List 0x17) (H:Hp) (b:Addr):Prop :=
 H b=none/\b≠X.env.locals/\b∉X.fs/\(b∈X.ex\/X.s₀.heap.objs.size<=b)/\(∀ x c,X.env.cells.lookup x=some c->c≠b)/\∀ p∈X.pn++pins,p.1≠b
theorem Inv.xG (I:Inv X pins σ H s) (hb:s.heap.objs.size<=b) (hn:H' b=none):jm X pins H' b:=by
 refine ⟨hn,A3P (A0x I.lt hb),I.nofs hb,.inr (A0M I.sz hb),fun x c e z=>?_,fun p hp z=>?_⟩
 ·obtain ⟨v,q⟩:=I.cell x c e;exact absurd (A0x q.lt (by rw [z];exact hb)) (A1U _)
 ·exact absurd (A0x (A0I (I.pin p hp).1) (by rw [z];exact hb)) (A1U _)
structure Turn (P:Program) (w:World) (K:PySem.W.Frag) (tg:Expr) (J:It) (fp:List Addr) (it:Addr) (tn:Nat->Heap->Prop):Prop where
 mem:it∈fp
 obj:∀ i h,tn i h->∀ b∈fp,∃ o,h.get? b=some o/\∀ v,o.data≠.cell v
 keep:∀ i h h',tn i h->(∀ b∈fp,∀ o,h.get? b=some o->h'.get? b=some o)->tn i h'
 item:∀ (X:Cx),X.prog=P->X.w=w->X.K=K->X.calm=true->∀ (i:Nat) (pins:List 0x17) (s:Shared) (σ:St) (H:Hp) (E:Value->Shared->Prop),Inv X pins σ H s->(∀ b∈fp,jm X pins H b)->tn i s.heap->J.go i H ->
  wpAny (model P w) X.A (pyNext (.ref it)) (fun r s1=>∃ u,r=some u /\
   wpAny (model P w) X.A (letOwnedTupleGo tg (.ref it) u) (fun _ s2=>∃ x H',Inv X pins σ H' s2/\RelV x u/\J.Jr i H x H'/\tn (i+1) s2.heap/\∀ b∈fp,H' b=none) E s1) E s
 done:∀ (X:Cx),X.prog=P->X.w=w->X.K=K->X.calm=true->∀ (i:Nat) (pins:List 0x17) (s:Shared) (σ:St) (H:Hp) (E:Value->Shared->Prop),Inv X pins σ H s->(∀ b∈fp,jm X pins H b)->tn i s.heap->J.stop i H ->
  wpAny (model P w) X.A (pyNext (.ref it)) (fun r s1=>r=none/\Inv X pins σ H s1) E s
 self:∀ (A:Around) (i:Nat) (s:Shared) (Q:Value->Shared->Prop) (E:Value->Shared->Prop),tn i s.heap->Q (.ref it) s->wpAny (model P w) A (pyIter (.ref it)) Q E s
abbrev TI:=St->Hp->(It->Hp->Prop)->Prop
variable {wi:TI}
inductive PIE (X:Cx) (pins:List 0x17) (σ:St) (tg:Expr) (R:It->Hp->Prop) (itv:Value) (s2:Shared):Prop
 | mk (it:Addr) (fp:List Addr) (tn:Nat->Heap->Prop) (J:It) (H':Hp) (_:itv=.ref it) (_:Inv X pins σ H' s2) (_:Turn X.prog X.w X.K tg J fp it tn) (_:tn 0 s2.heap) (_:(∀ b∈fp,jm X pins H' b)) (_:R J H'):PIE X pins σ tg R itv s2
def PI (X:Cx) (tg iter:Expr) (wi:TI):Prop :=
 ∀ (pins:List 0x17) (s:Shared) (σ:St) (H:Hp) (R:It->Hp->Prop),Inv X pins σ H s->wi σ H R ->
  wpAny 0x9 X.A (eval iter X.env) (fun v s1=>wpAny 0x9 X.A (pyIter v) (PIE X pins σ tg R) X.xe s1) X.xe s
theorem Lr {M:Model}{o:Obj}{n:String}{vs:Array Value}{Q:Unit->Shared->Prop} (ho:s.heap.get? it=some o) (hc:o.cls=.type n) (hd:o.data=.fields vs)
  (hn:["enumerate", "zip", "dict_itemiterator", "dict_reverseitemiterator", "odict_iterator", "itertools.zip_longest", "itertools.pairwise"].contains n=false) (hQ:Q () s):wpAny M A (letOwnedTupleGo tg (.ref it) u) Q E s:=by
 unfold letOwnedTupleGo;cases tg <;> first
  | exact A0s hQ
  | (cases u <;> first
    | exact A0s hQ
    | (refine A0a (wpAny_load ho ?_)
       rw [hc,hd]
       show wpAny M A (if (["enumerate", "zip", "dict_itemiterator", "dict_reverseitemiterator", "odict_iterator", "itertools.zip_longest", "itertools.pairwise"].contains n&&vs[0]?==some (rawInt _))=true then _ else _) Q E s
       rw [A0f (by intro h;rw [hn,Bool.false_and] at h;cases h)];exact A0s hQ))
def X8 (K:PySem.W.Frag) (a:Addr):It :=
 ⟨fun i H=>∃ xs x,bR K H a xs/\xs[i]?=some x,fun i H x H'=>H'=H/\∀ xs,bR K H a xs->xs[i]?=some x,fun i H=>∃ xs,bR K H a xs/\xs.length<=i⟩
def Xa (lo:Int) (n:Nat):It:=⟨fun i _=>i<n,fun i H x H'=>H'=H/\x=.int (lo+i),fun i _=>n<=i⟩
theorem Js (a it:Addr):Turn P w K tg (X8 K a) [it] it (fun i h=>h.IsListIter it a i) where
 mem:=by simp
 obj:=fun i h st b hb=>by
  have e:b=it:=by simpa using hb
  subst e;obtain ⟨o,e,c,d⟩:=st;exact ⟨o,e,fun v z=>by rw [d] at z;cases z⟩
 keep:=fun i h h' st k=>st.at fun o e=>k it 0xA o e
 item:=by
  intro X hP hw hK hc i pins s σ H E I hf st hg;subst hP hw hK;obtain ⟨xs,x,hq,hx⟩:=hg;obtain ⟨its,rv,p,hz⟩:=I.list hq;obtain ⟨u,hu,ru⟩:=rv.get hx;obtain ⟨f0,f1,f2,f3,f4,f5⟩:=hf it 0xA;refine wpAny_pyNext_list_item st p.isList (x:=u) (by simpa using hu) fun h' st' sb=>?_;have I1:Inv X pins σ H { s with heap:=h' }:=I.turned (t':=s.toks) (fun b o hb e=>(sb.2 b hb).trans e) f0 f1 f3 f4 f5;obtain ⟨o,e,c,d⟩:=id st';exact ⟨u,rfl,Lr (s:={ s with heap:=h' }) e c d 0x6 ⟨x,H,I1,ru,⟨rfl,fun ys hy=>by rw [I.zW hy hq];exact hx⟩,st',fun b hb=>(hf b hb).1⟩⟩
 done:=by
  intro X hP hw hK hc i pins s σ H E I hf st hg;subst hP hw hK;obtain ⟨xs,hq,hx⟩:=hg;obtain ⟨its,rv,p,hz⟩:=I.list hq;obtain ⟨f0,f1,f2,f3,f4,f5⟩:=hf it 0xA;have hl:=rv.length;exact wpAny_pyNext_list_end (I.ok.hd hc) st p.isList (by simp;lia) fun h' eb=>⟨rfl,I.turned (t':=s.toks) (fun b o hb e=>eb b o hb e) f0 f1 f3 f4 f5⟩
 self:=fun _ _ _ _ _ st h=>wpAny_pyIter_listiter st h
theorem Di (it:Addr) (lo:Int) (n:Nat):Turn P w K tg (Xa lo n) [it] it (fun i h=>IsRangeIter h it (lo+(i:Nat) * 1) ((n:Int) - (i:Nat)) 1) where
 mem:=by simp
 obj:=fun i h st b hb=>by
  have e:b=it:=by simpa using hb
  subst e;exact ⟨_,st,fun v z=>by
   have z':Data.fields _=Data.cell v:=z;cases z'⟩
 keep:=fun i h h' st k=>k it 0xA _ st
 item:=by
  intro X hP hw hK hc i pins s σ H E I hf st hg;subst hP hw hK;obtain ⟨f0,f1,f2,f3,f4,f5⟩:=hf it 0xA;have W:=Walks.range (prog:=X.prog) (w:=X.w) (I.ok.hd hc) it lo 1 n;refine W.item i s _ _ hg st fun v h' tk hv st' kk=>?_;obtain ⟨t,rfl⟩:=hv;have I1:Inv X pins σ H { s with heap:=h',toks:=tk }:=I.turned (fun b o hb e=>kk b o (by simpa using hb) e) f0 f1 f3 f4 f5;refine ⟨_,rfl,Lr (s:={ s with heap:=h',toks:=tk }) (n:="range_iterator") st' rfl rfl 0x6 ⟨.int (lo+i),H,I1,⟨t,?_⟩,⟨rfl,rfl⟩,st',fun b hb=>(hf b hb).1⟩⟩;rw [Int.mul_one]
 done:=by
  intro X hP hw hK hc i pins s σ H E I hf st hg;subst hP hw hK;obtain ⟨f0,f1,f2,f3,f4,f5⟩:=hf it 0xA;exact wpAny_pyNext_range_end (I.ok.hd hc) st (by have:n<=i:=hg;lia) fun h' eb=>⟨rfl,I.turned (t':=s.toks) (fun b o hb e=>eb b o hb e) f0 f1 f3 f4 f5⟩
 self:=fun _ _ _ _ _ st h=>wpAny_pyIter_rangeiter st h
inductive Gs (K:W.Frag) (R:It->Hp->Prop) (x:V) (H1:Hp):Prop
 | mk (a:Addr) (_:x=.ref a) (_:(∃ xs,bR K H1 a xs)) (_:R (X8 K a) H1):Gs K R x H1
def a0e (K:PySem.W.Frag) (tl:TE):TI:=fun σ H R=>tl σ H fun x H1=>Gs K R x H1
theorem cX {l:Expr} (hl:PE X l tl):PI X tg l (a0e X.K tl):=by
 intro pins s σ H R I h;refine cN (hl pins s σ H _ I h) fun v s1 zq=>?_;obtain ⟨x,H1,I1,r1,q1⟩:=zq;obtain ⟨a,e,⟨xs,hq⟩,q⟩:=q1;subst e;cases r1;obtain ⟨its,rv,p,hz⟩:=I1.list hq;refine A3m p.isList ?_;refine ⟨s1.heap.objs.size,[s1.heap.objs.size],_,_,H1,rfl,I1.kept (t':=s1.toks) fun b o e=>A0c _ e,Js a _,⟨_,A0y _ rfl,rfl,rfl⟩,fun b hb=>?_,q⟩;have e:b=s1.heap.objs.size:=by simpa using hb
 subst e;exact I1.xG (A0h _) (I1.hok.fresh (A0h _))
theorem Ls {R:It->Hp->Prop}{lo hi:Int}{t u v:Tok}{tk:Nat} (I:Inv X pins σ H s) (h1:-(2 ^ 62)<=lo) (h2:lo<2 ^ 62) (h3:-(2 ^ 62)<=hi) (h4:hi<2 ^ 62)
  (q:R (Xa lo (hi - lo).toNat) H):wpAny 0x9 X.A (pyIter (.ref s.heap.objs.size)) (PIE X pins σ tg R) E { s with heap:=s.heap.push { cls:=.type "range",data:=.fields #[.int lo t,.int hi u,.int 1 v] },toks:=tk }:=by
 refine wpAny_pyIter_range (IsRange.new ..) (small_one h1 h2 h3 h4) ?_;have I1:Inv X pins σ H { s with heap:=s.heap.push { cls:=.type "range",data:=.fields #[.int lo t,.int hi u,.int 1 v] },toks:=tk }:=I.kept fun b o e=>A0c _ e;refine ⟨(s.heap.push { cls:=.type "range",data:=.fields #[.int lo t,.int hi u,.int 1 v] }).objs.size,[(s.heap.push { cls:=.type "range",data:=.fields #[.int lo t,.int hi u,.int 1 v] }).objs.size],_,_,H,rfl,
  I1.kept (t':=tk) fun b o e=>A0c _ e,Di _ lo (hi - lo).toNat,?_,fun b hb=>?_,q⟩
 ·have e1:lo+((0:Nat):Int) * 1=lo:=by simp
  have e2:(((hi - lo).toNat:Nat):Int) - ((0:Nat):Int)=Builtin.Range.rangeSize lo hi 1:=by rw [rangeSize_one];split <;> lia
  show IsRangeIter _ _ (lo+((0:Nat):Int) * 1) ((((hi - lo).toNat:Nat):Int) - ((0:Nat):Int)) 1
  rw [e1,e2];exact A0y _ rfl
 ·have e:b=(s.heap.push { cls:=.type "range",data:=.fields #[.int lo t,.int hi u,.int 1 v] }).objs.size:=by simpa using hb
  subst e;exact I1.xG (A0h _) (I1.hok.fresh (A0h _))
inductive Gu (R:It->Hp->Prop) (vs:List V) (H1:Hp):Prop
 | mk (j:Int) (_:vs=[.int j]) (_:-(2 ^ 62)<=j) (_:j<2 ^ 62) (_:R (Xa 0 j.toNat) H1):Gu R vs H1
def a0f (ta:TA):TI:=fun σ H R=>ta σ H fun vs H1=>Gu R vs H1
theorem jV {a:Expr}{ta:TA}{p:Pos} (hg:Gl X "range") (hm:X.mg "range"=none) (ha:PA X [a] ta) (hs:starEach [a] X.env=[(false,eval a X.env)]:=by rfl):PI X tg (.Call (.Name "range" p) [a] [] pos) (a0f ta):=by
 intro pins s σ H R I h;refine Call_ (oA I hg hm boot_range (A2j (cN (ha pos pins s σ H _ I h) fun us s1 ⟨vs,H1,I1,r1,q1⟩=>?_) hs rfl));obtain ⟨j,e,q1,q2,q⟩:=q1;subst e;cases r1 with
 | cons r rr =>
  cases rr;obtain ⟨t,rfl⟩:=r;exact call_range_1 (Ls I1 0x3 0x3 q1 q2 (by simpa using q))
def tFor (wi:TI) (g:TG) (tb:TS):TS:=fun D σ H=>wi σ H fun J H1=>∃ W:Nat->Nat->St->Hp->Prop,(∃ m,W 0 m σ H1)/\∀ i m σ H,W i m σ H ->
 (J.stop i H/\D.nx σ H)\/(J.go i H/\∃ N:St->Hp->Prop,(∀ σ' H',N σ' H'->∃ m',m'<m/\W (i+1) m' σ' H')/\∀ x H',J.Jr i H x H'->g x σ H' fun σ2 H2=>tb { D with nx:=N,ct:=N,bk:=D.nx } σ2 H2)
def tE (fp:List Addr) (h:Heap):List 0x17:=fp.filterMap fun b=>(h.get? b).map fun o=>(b,o)
theorem iU {o:Obj} (hb:b∈fp) (e:h.get? b=some o):(b,o)∈tE fp h:=A3X.mpr ⟨b,hb,by rw [e];rfl⟩
theorem Jt {p:Addr×Obj} (hp:p∈tE fp h):p.1∈fp/\h.get? p.1=some p.2:=by
 obtain ⟨b,hb,e⟩:=A3X.mp hp;cases q:h.get? b with
 | none=>rw [q] at e;cases e
 | some o =>
  rw [q] at e;have e':(b,o)=p:=A0V e;subst e';exact ⟨hb,q⟩
theorem Inv.pinned (I:Inv X pins σ H s) (hf:∀ b∈fp,jm X pins H b) (ho:∀ b∈fp,∃ o,s.heap.get? b=some o/\∀ v,o.data≠.cell v):Inv X (pins++tE fp s.heap) σ H s :=
 I.Gp fun p hp=>(A0l.mp hp).elim (fun z=>I.pin p (A0z _ z)) fun z=>by
  obtain ⟨hb,e⟩:=Jt z;obtain ⟨f0,f1,f2,_⟩:=hf p.1 hb;obtain ⟨o,e',d⟩:=ho p.1 hb;rw [e] at e';cases e';exact ⟨e,f0,f1,f2,d⟩
theorem Inv.mj {pl:List 0x17} (I:Inv X (pins++pl) σ H s):Inv X pins σ H s:=I.Gp fun p hp=>I.pin p (A0z _ (A0U _ hp))
theorem fM (hp:PassesOwn 0x9 X.A X.env X.xe) (hc:X.calm=true) (hi:PI X tg iter wi) (hg:PG X tg g) (hb:CV X body tb)
  (hs:∀ x,foldedSetIterable iter X.env x=pure x:=by intro _;rfl):PS X (.For tg iter body [] pos) (tFor wi g tb):=by
 intro pins s σ H D I h;refine wpAny_For (cN (hi pins s σ H _ I h) fun v s1 h1=>cN h1 fun itv s2 h2=>?_) hs;obtain ⟨it,fp,tn,J,H2,e,I2,T,st2,f2,W,⟨m0,w0⟩,turn⟩:=h2;subst e;have stat:∀ {H':Hp},(∀ b∈fp,H' b=none)->∀ b∈fp,jm X pins H' b:=fun hn b hb=>⟨hn b hb,(f2 b hb).2⟩;refine codeAny_forLoop_any (fun n s'=>∃ i σ' H',Inv X pins σ' H' s'/\tn i s'.heap/\(∀ b∈fp,H' b=none)/\W i n σ' H') ?_ m0 ⟨0,σ,H2,I2,st2,fun b hb=>(f2 b hb).1,w0⟩;rintro n s3 ⟨i,σ3,H3,I3,st3,fr3,w3⟩;rcases turn i n σ3 H3 w3 with ⟨stop,qn⟩ | ⟨go,N,hN,step⟩
 ·refine A2r hp (cN (T.done X rfl rfl rfl hc i pins s3 σ3 H3 X.xe I3 (stat fr3) st3 stop) fun r s4 zq=>?_);obtain ⟨hr,I4⟩:=zq;subst hr;exact A3z ⟨σ3,H3,I4,qn⟩
 ·refine A2r hp (cN (T.item X rfl rfl rfl hc i pins s3 σ3 H3 X.xe I3 (stat fr3) st3 go) fun r s4 zq=>?_);obtain ⟨u,hr,h4⟩:=zq;subst hr;refine A2r hp (cN h4 fun _ s5 zq=>?_);obtain ⟨x,H5,I5,r5,y5,Xb,fr5⟩:=zq;have I5':=I5.pinned (stat fr5) (T.obj _ _ Xb);refine A2r hp (cN (hg _ s5 σ3 H5 x u _ I5' r5 (step x H5 y5)) fun _ s6 zq=>?_);obtain ⟨σ6,H6,I6,q6⟩:=zq;refine A2r hp (cN (hb _ s6 σ6 H6 _ I6 q6) fun f s7 q7=>?_);have again:∀ {σ7:St}{H7:Hp},Inv X (pins++tE fp s5.heap) σ7 H7 s7->N σ7 H7->∃ m,m<n/\∃ i σ' H',Inv X pins σ' H' s7/\tn i s7.heap/\(∀ b∈fp,H' b=none)/\W i m σ' H':=fun {σ7 H7} I7 n7=>by
   obtain ⟨m',hm,w7⟩:=hN σ7 H7 n7;refine ⟨m',hm,i+1,σ7,H7,I7.mj,T.keep _ _ _ Xb fun b hb o e=>(I7.pin (b,o) (A0z _ (A0z _ (iU hb e)))).1,fun b hb=>?_,w7⟩;obtain ⟨o,e,d⟩:=T.obj _ _ Xb b hb;exact (I7.pin (b,o) (A0z _ (A0z _ (iU hb e)))).2.1
  cases f with
  | next=>obtain ⟨σ7,H7,I7,n7⟩:=q7;exact again I7 n7
  | cont=>obtain ⟨σ7,H7,I7,n7⟩:=q7;exact again I7 n7
  | brk=>obtain ⟨σ7,H7,I7,q7⟩:=q7;exact ⟨σ7,H7,I7.mj,q7⟩
  | ret v=>obtain ⟨x7,σ7,H7,I7,r7,q7⟩:=q7;exact ⟨x7,σ7,H7,I7.mj,r7,q7⟩
theorem dX {D:Ends} (Pv:Nat->St->Hp->Prop) (h0:Pv 0 σ H) (hl:∀ i σ H,i<=xs.length->Pv i σ H->bR K H a xs)
  (hs:∀ i x σ H,xs[i]?=some x->Pv i σ H->g x σ H fun σ2 H2=>tb { D with nx:=Pv (i+1),ct:=Pv (i+1),bk:=D.nx } σ2 H2) (hd:∀ σ H,Pv xs.length σ H->D.nx σ H) :
  ∃ W:Nat->Nat->St->Hp->Prop,(∃ m,W 0 m σ H)/\∀ i m σ H,W i m σ H ->
   ((X8 K a).stop i H/\D.nx σ H)\/((X8 K a).go i H/\∃ N:St->Hp->Prop,(∀ σ' H',N σ' H'->∃ m',m'<m/\W (i+1) m' σ' H')/\∀ x H',(X8 K a).Jr i H x H'->g x σ H' fun σ2 H2=>tb { D with nx:=N,ct:=N,bk:=D.nx } σ2 H2):=by
 refine ⟨fun i m σ H=>m=xs.length - i/\i<=xs.length/\Pv i σ H,⟨xs.length,by simp,A1f _,h0⟩,?_⟩;rintro i m σ H ⟨rfl,hi,p⟩;have q:=hl i σ H hi p
 by_cases hlt:i<xs.length
 ·refine .inr ⟨⟨xs,xs[i],q,by simp [hlt]⟩,Pv (i+1),fun σ' H' p'=>⟨xs.length - (i+1),by lia,rfl,hlt,p'⟩,fun x H' y=>?_⟩;obtain ⟨e,y⟩:=y;subst e;exact hs i x σ _ (y xs q) p
 ·have e:i=xs.length:=by lia
  subst e;exact .inl ⟨⟨xs,q,A0h _⟩,hd σ H p⟩
theorem jW {lo:Int}{D:Ends} (Pv:Nat->St->Hp->Prop) (h0:Pv 0 σ H)
  (hs:∀ i σ H,i<n->Pv i σ H->g (.int (lo+i)) σ H fun σ2 H2=>tb { D with nx:=Pv (i+1),ct:=Pv (i+1),bk:=D.nx } σ2 H2) (hd:∀ σ H,Pv n σ H->D.nx σ H) :
  ∃ W:Nat->Nat->St->Hp->Prop,(∃ m,W 0 m σ H)/\∀ i m σ H,W i m σ H ->
   ((Xa lo n).stop i H/\D.nx σ H)\/((Xa lo n).go i H/\∃ N:St->Hp->Prop,(∀ σ' H',N σ' H'->∃ m',m'<m/\W (i+1) m' σ' H')/\∀ x H',(Xa lo n).Jr i H x H'->g x σ H' fun σ2 H2=>tb { D with nx:=N,ct:=N,bk:=D.nx } σ2 H2):=by
 refine ⟨fun i m σ H=>m=n - i/\i<=n/\Pv i σ H,⟨n,by simp,A1f _,h0⟩,?_⟩;rintro i m σ H ⟨rfl,hi,p⟩
 by_cases hlt:i<n
 ·refine .inr ⟨hlt,Pv (i+1),fun σ' H' p'=>⟨n - (i+1),by lia,rfl,hlt,p'⟩,fun x H' y=>?_⟩;obtain ⟨e,y⟩:=y;subst e y;exact hs i σ _ hlt p
 ·have e:i=n:=by lia
  subst e;exact .inl ⟨A0h _,hd σ H p⟩
abbrev R2:=V->V->Hp->VK->Prop
def mq (X:Cx) (f:Value->Value->Sem Value) (r:R2):Prop :=
 ∀ (pins:List 0x17) (s:Shared) (σ:St) (H:Hp) (x y:V) (v u:Value) (Q:VK),Inv X pins σ H s->RelV x v->RelV y u->r x y H Q ->
  wpAny 0x9 X.A (f v u) (EP X pins σ Q) X.xe s
def UnR (X:Cx) (f:Value->Sem Value) (r:V->Hp->VK->Prop):Prop :=
 ∀ (pins:List 0x17) (s:Shared) (σ:St) (H:Hp) (x:V) (v:Value) (Q:VK),Inv X pins σ H s->RelV x v->r x H Q ->
  wpAny 0x9 X.A (f v) (EP X pins σ Q) X.xe s
def jj (X:Cx) (f:Value) (r:List V->Hp->VK->Prop):Prop :=
 ∀ (pins:List 0x17) (s:Shared) (σ:St) (H:Hp) (xs:List V) (us:List Value) (Q:VK),Inv X pins σ H s->Vals xs us->r xs H Q ->
  wpAny 0x9 X.A (call f us) (EP X pins σ Q) X.xe s
def tOp (r:R2) (ta tb:TE):TE:=fun σ H Q=>ta σ H fun x H1=>tb σ H1 fun y H2=>r x y H2 Q
def tUn (r:V->Hp->VK->Prop) (ta:TE):TE:=fun σ H Q=>ta σ H fun x H1=>r x H1 Q
inductive rI (C:Int->Int->Prop) (g:Int->Int->V) (x y:V) (H:Hp) (Q:VK):Prop
 | mk (i j:Int) (_:x=.int i) (_:y=.int j) (_:C i j) (_:Q (g i j) H):rI C g x y H Q
inductive Vx (g:Int->Int->V) (x y:V) (H:Hp) (Q:VK):Prop
 | mk (i j:Int) (_:x=.int i) (_:y=.int j) (_:Q (g i j) H):Vx g x y H Q
inductive rU (g:Int->V) (x:V) (H:Hp) (Q:VK):Prop
 | mk (i:Int) (_:x=.int i) (_:Q (g i) H):rU g x H Q
section
variable {a b c:Expr}{tb tc:TE}
theorem Xc (ha:PE X a ta) (hb:PE X b tb) {R:V->V->Hp->Prop} (I:Inv X pins σ H s)
  (h:ta σ H fun x H1=>tb σ H1 fun y H2=>R x y H2) {f:Value->Value->Sem Value}
  (hf:∀ v u s2 x y H2,Inv X pins σ H2 s2->RelV x v->RelV y u->R x y H2->wpAny 0x9 X.A (f v u) Q X.xe s2) :
  wpAny 0x9 X.A (eval a X.env) (fun v s₁=>wpAny 0x9 X.A (eval b X.env) (fun u s₂=>wpAny 0x9 X.A (f v u) Q X.xe s₂) X.xe s₁) X.xe s:=by
 refine cN (ha pins s σ H _ I h) fun v s1 zq=>?_;obtain ⟨x,H1,I1,r1,q1⟩:=zq;refine cN (hb pins s1 σ H1 _ I1 q1) fun u s2 zq=>?_;obtain ⟨y,H2,I2,r2,q2⟩:=zq;exact hf v u s2 x y H2 I2 r1 r2 q2
theorem aX {op:Operator}{r:R2} (ho:mq X (binaryOp op) r) (ha:PE X a ta) (hb:PE X b tb):PE X (.BinOp a op b pos) (tOp r ta tb):=by
 intro pins s σ H Q I h;exact wpAny_BinOp (Xc ha hb I h fun v u s2 x y H2 I2 rx ry q=>ho pins s2 σ H2 x y v u Q I2 rx ry q)
theorem zX {op:UnaryOp}{r:V->Hp->VK->Prop} (ho:UnR X (unaryOp op) r) (ha:PE X a ta):PE X (.UnaryOp op a pos) (tUn r ta):=by
 intro pins s σ H Q I h;exact UnaryOp_ (cN (ha pins s σ H _ I h) fun v s1 ⟨x,H1,I1,r1,q1⟩=>ho pins s1 σ H1 x v Q I1 r1 q1)
theorem opI {f:Value->Value->Sem Value}{C:Int->Int->Prop}{g:Int->Int->Int}
  (rule:∀ (i j:Int) (t u:Tok) (s:Shared) (Q:Value->Shared->Prop) (E:Value->Shared->Prop),C i j->Q (.int (g i j) s.toks) { s with toks:=s.toks+1 }->wpAny 0x9 X.A (f (.int i t) (.int j u)) Q E s) :
  mq X f (rI C fun i j=>.int (g i j)):=by
 intro pins s σ H x y v u Q I rx ry h;obtain ⟨i,j,rfl,rfl,hc,q⟩:=h;obtain ⟨t,rfl⟩:=rx;obtain ⟨t',rfl⟩:=ry;exact rule i j t t' s _ _ hc ⟨.int (g i j),H,I.tok _,⟨_,rfl⟩,q⟩
theorem opI0 {f:Value->Value->Sem Value}{g:Int->Int->Int}
  (rule:∀ (i j:Int) (t u:Tok) (s:Shared) (Q:Value->Shared->Prop) (E:Value->Shared->Prop),Q (.int (g i j) s.toks) { s with toks:=s.toks+1 }->wpAny 0x9 X.A (f (.int i t) (.int j u)) Q E s) :
  mq X f (Vx fun i j=>.int (g i j)):=by
 intro pins s σ H x y v u Q I rx ry h;obtain ⟨i,j,rfl,rfl,q⟩:=h;obtain ⟨t,rfl⟩:=rx;obtain ⟨t',rfl⟩:=ry;exact rule i j t t' s _ _ ⟨.int (g i j),H,I.tok _,⟨_,rfl⟩,q⟩
theorem Xd {f:Value->Value->Sem Value}{g:Int->Int->Bool}
  (rule:∀ (i j:Int) (t u:Tok) (s:Shared) (Q:Value->Shared->Prop) (E:Value->Shared->Prop),Q (.bool (g i j)) s->wpAny 0x9 X.A (f (.int i t) (.int j u)) Q E s) :
  mq X f (Vx fun i j=>.bl (g i j)):=by
 intro pins s σ H x y v u Q I rx ry h;obtain ⟨i,j,rfl,rfl,q⟩:=h;obtain ⟨t,rfl⟩:=rx;obtain ⟨t',rfl⟩:=ry;exact rule i j t t' s _ _ ⟨.bl (g i j),H,I,rfl,q⟩
def CDiv (i j:Int):Prop:=0<j/\j<1073741824
def CPow (i j:Int):Prop:=0<=j/\j<=1000000/\i.natAbs<2 ^ 64
def Xe (i j:Int):Prop:=(-(2 ^ 64)<i/\i<2 ^ 64)\/(-(2 ^ 64)<j/\j<2 ^ 64)
theorem Xe.ok {i j:Int} (h:Xe i j):IntMulOk i j:=by
 rcases h with ⟨h1,h2⟩ | ⟨h1,h2⟩
 ·exact .of_left (intBits_le_64 h1 h2)
 ·exact .of_right (intBits_le_64 h1 h2)
theorem cY:mq X (binaryOp .Add) (Vx fun i j=>.int (i+j)):=opI0 fun _ _ _ _ _ _ _ q=>add_int q
theorem tG:mq X (binaryOp .Sub) (Vx fun i j=>.int (i - j)):=opI0 fun _ _ _ _ _ _ _ q=>sub_int q
theorem jM:mq X (binaryOp .Mult) (rI Xe fun i j=>.int (i * j)):=opI fun _ _ _ _ _ _ _ hc q=>mul_int q hc.ok
theorem jo:mq X (binaryOp .FloorDiv) (rI CDiv fun i j=>.int (i / j)):=opI fun i j _ _ _ _ _ hc q=>by
 have h1:(0:Int)<j:=hc.1;have h2:j<1073741824:=hc.2;exact floordiv_int 0x3 (by rw [Int.fdiv_eq_ediv_of_nonneg i 0x3];exact q) (.inl (PyProof.noPylong_small 0x3))
theorem bW:mq X (binaryOp .Mod) (rI (fun _ j=>0<j) fun i j=>.int (i % j)):=opI fun i j _ _ _ _ _ hc q=>by
 have h1:(0:Int)<j:=hc;exact mod_int' 0x3 (by rw [Int.fmod_eq_emod_of_nonneg i 0x3];exact q)
theorem Xf:mq X (binaryOp .Pow) (rI CPow fun i j=>.int (i ^ j.toNat)):=opI fun _ _ _ _ _ _ _ hc q=>pow_int_small hc.1 hc.2.1 hc.2.2 q
theorem unI {f:Value->Sem Value}{g:Int->Int}
  (rule:∀ (i:Int) (t:Tok) (s:Shared) (Q:Value->Shared->Prop) (E:Value->Shared->Prop),Q (.int (g i) s.toks) { s with toks:=s.toks+1 }->wpAny 0x9 X.A (f (.int i t)) Q E s) :
  UnR X f (rU fun i=>.int (g i)):=by
 intro pins s σ H x v Q I rx h;obtain ⟨i,rfl,q⟩:=h;obtain ⟨t,rfl⟩:=rx;exact rule i t s _ _ ⟨.int (g i),H,I.tok _,⟨_,rfl⟩,q⟩
theorem tH:UnR X (unaryOp .USub) (rU fun i=>.int (-i)):=unI fun _ _ _ _ _ q=>neg_int q
def Lw:V->V->Bool
 | .non,.non=>true | .non,.int _=>true | .int _,.non=>true | .non,.bl _=>true | .bl _,.non=>true | .non,.str _=>true | .str _,.non=>true
 | .int _,.int _=>true | .bl _,.bl _=>true | .str _,.str _=>true | .Gm _,.Gm _=>true
 | .int _,.str _=>true | .str _,.int _=>true | .bl _,.str _=>true | .str _,.bl _=>true
 | _,_=>false
def rEq:R2:=fun x y H Q=>Lw x y=true/\Q (.bl (decide (x=y))) H
def rNe:R2:=fun x y H Q=>Lw x y=true/\Q (.bl (!decide (x=y))) H
theorem Gv {i j:Int}:decide (V.int i=V.int j)=(i==j):=by
 rw [A1g];simp
theorem Ly {i j:Bool}:decide (V.bl i=V.bl j)=(i==j):=by
 rw [A1g];simp
theorem iu {i j:Str}:decide (V.str i=V.str j)=(i==j):=by
 rw [A1g];simp
theorem Gw {i j:Array UInt8}:decide (V.Gm i=V.Gm j)=(i.toList==j.toList):=by
 rw [A1g];cases i;cases j;simp
theorem cu {Q:VK}{k k':Bool} (I:Inv X pins σ H s) (q:Q (.bl k) H) (e:k=k'):EP X pins σ Q (.bool k') s:=by
 subst e;exact ⟨.bl k,H,I,rfl,q⟩
theorem cV:mq X (compareOp .Eq) rEq:=by
 intro pins s σ H x y v u Q I rx ry h;obtain ⟨hs,q⟩:=h;cases x with
 | non =>
  cases rx;cases y with
  | non=>cases ry;exact PySem.EqNone.eq_none_none (cu I q 0xA)
  | bl j=>cases ry;exact PySem.EqNone.eq_none_bool (cu I q 0xA)
  | int j=>obtain ⟨t',rfl⟩:=ry;exact PySem.EqNone.eq_none_int (cu I q 0xA)
  | str j=>obtain ⟨t',rfl⟩:=ry;exact PySem.EqNone.eq_none_str (cu I q 0xA)
  | _=>exact absurd 0x27 A0p
 | bl i =>
  cases rx;cases y with
  | non=>cases ry;exact PySem.EqNone.eq_bool_none (cu I q 0xA)
  | bl j=>cases ry;exact eq_bool (cu I q Ly)
  | str j=>obtain ⟨t',rfl⟩:=ry;exact PySem.EqMixed.eq_bool_str (cu I q 0xA)
  | _=>exact absurd 0x27 A0p
 | int i =>
  obtain ⟨t,rfl⟩:=rx;cases y with
  | non=>cases ry;exact PySem.EqNone.eq_int_none (cu I q 0xA)
  | int j=>obtain ⟨t',rfl⟩:=ry;exact eq_int (cu I q Gv)
  | str j=>obtain ⟨t',rfl⟩:=ry;exact PySem.EqMixed.eq_int_str (cu I q 0xA)
  | _=>exact absurd 0x27 A0p
 | str i =>
  obtain ⟨t,rfl⟩:=rx;cases y with
  | non=>cases ry;exact PySem.EqNone.eq_str_none (cu I q 0xA)
  | bl j=>cases ry;exact PySem.EqMixed.eq_str_bool (cu I q 0xA)
  | int j=>obtain ⟨t',rfl⟩:=ry;exact PySem.EqMixed.eq_str_int (cu I q 0xA)
  | str j=>obtain ⟨t',rfl⟩:=ry;exact eq_str (cu I q iu)
  | _=>exact absurd 0x27 A0p
 | Gm i =>
  obtain ⟨t,rfl⟩:=rx;cases y with
  | Gm j=>obtain ⟨t',rfl⟩:=ry;exact PySem.W.eq_bytes (cu I q Gw)
  | _=>exact absurd 0x27 A0p
 | _=>cases y <;> exact absurd 0x27 A0p
theorem oU:mq X (compareOp .NotEq) rNe:=by
 intro pins s σ H x y v u Q I rx ry h;obtain ⟨hs,q⟩:=h;cases x with
 | non =>
  cases rx;cases y with
  | non=>cases ry;exact PySem.EqNone.ne_none_none (cu I q 0xA)
  | bl j=>cases ry;exact PySem.EqNone.ne_none_bool (cu I q 0xA)
  | int j=>obtain ⟨t',rfl⟩:=ry;exact PySem.EqNone.ne_none_int (cu I q 0xA)
  | str j=>obtain ⟨t',rfl⟩:=ry;exact PySem.EqNone.ne_none_str (cu I q 0xA)
  | _=>exact absurd 0x27 A0p
 | bl i =>
  cases rx;cases y with
  | non=>cases ry;exact PySem.EqNone.ne_bool_none (cu I q 0xA)
  | bl j=>cases ry;exact ne_bool (cu I q (A1R not Ly))
  | str j=>obtain ⟨t',rfl⟩:=ry;exact PySem.EqMixed.ne_bool_str (cu I q 0xA)
  | _=>exact absurd 0x27 A0p
 | int i =>
  obtain ⟨t,rfl⟩:=rx;cases y with
  | non=>cases ry;exact PySem.EqNone.ne_int_none (cu I q 0xA)
  | int j=>obtain ⟨t',rfl⟩:=ry;exact ne_int (cu I q (A1R not Gv))
  | str j=>obtain ⟨t',rfl⟩:=ry;exact PySem.EqMixed.ne_int_str (cu I q 0xA)
  | _=>exact absurd 0x27 A0p
 | str i =>
  obtain ⟨t,rfl⟩:=rx;cases y with
  | non=>cases ry;exact PySem.EqNone.ne_str_none (cu I q 0xA)
  | bl j=>cases ry;exact PySem.EqMixed.ne_str_bool (cu I q 0xA)
  | int j=>obtain ⟨t',rfl⟩:=ry;exact PySem.EqMixed.ne_str_int (cu I q 0xA)
  | str j=>obtain ⟨t',rfl⟩:=ry;exact ne_str (cu I q (A1R not iu))
  | _=>exact absurd 0x27 A0p
 | Gm i =>
  obtain ⟨t,rfl⟩:=rx;cases y with
  | Gm j=>obtain ⟨t',rfl⟩:=ry;exact PySem.W.ne_bytes (cu I q (A1R not Gw))
  | _=>exact absurd 0x27 A0p
 | _=>cases y <;> exact absurd 0x27 A0p
theorem tK:mq X (compareOp .Lt) (Vx fun i j=>.bl (decide (i<j))):=Xd fun _ _ _ _ _ _ _ q=>lt_int q
theorem tL:mq X (compareOp .LtE) (Vx fun i j=>.bl (decide (i<=j))):=Xd fun _ _ _ _ _ _ _ q=>le_int q
theorem Lz:mq X (compareOp .Gt) (Vx fun i j=>.bl (decide (j<i))):=Xd fun _ _ _ _ _ _ _ q=>gt_int q
theorem LC:mq X (compareOp .Is) (fun x y H Q=>y=.non/\Q (.bl (decide (x=.non))) H):=by
 intro pins s σ H x y v u Q I rx ry h;obtain ⟨rfl,q⟩:=h;cases ry;refine is_none_gen (cu I q ?_);cases x <;> first
  | (cases rx;rfl)
  | (obtain ⟨t,rfl⟩:=rx;rfl)
theorem Sh:mq X (compareOp .IsNot) (fun x y H Q=>y=.non/\Q (.bl (!decide (x=.non))) H):=by
 intro pins s σ H x y v u Q I rx ry h;obtain ⟨rfl,q⟩:=h;cases ry;refine isnot_none_gen (cu I q ?_);cases x <;> first
  | (cases rx;rfl)
  | (obtain ⟨t,rfl⟩:=rx;rfl)
theorem bB (b:Expr)  (h:op≠.In:=by decide) (h2:op≠.NotIn:=by decide):behindInMarks op b=false:=by
 have e1:(op==CmpOp.In)=false:=by cases op <;> first | rfl | exact absurd rfl h
 have e2:(op==CmpOp.NotIn)=false:=by cases op <;> first | rfl | exact absurd rfl h2
 cases b <;> simp [behindInMarks,e1,e2]
theorem gK {r:R2} (ho:mq X (compareOp op) r) (ha:PE X a ta) (hb:PE X b tb) (hm:behindInMarks op b=false):PE X (.Compare a [op] [b] pos) (tOp r ta tb):=by
 intro pins s σ H Q I h;exact wpAny_Compare1 (Xc ha hb I h fun v u s2 x y H2 I2 rx ry q=>ho pins s2 σ H2 x y v u Q I2 rx ry q) hm
inductive Gx (Q:Bool->Hp->Prop) (x:V) (H':Hp):Prop
 | mk (k:Bool) (_:x=.bl k) (_:Q k H'):Gx Q x H'
def a0g (t:TE):TT:=fun σ H Q=>t σ H fun x H'=>Gx Q x H'
theorem aQ {r:R2} (ho:mq X (compareOp op) r) (ha:PE X a ta) (hb:PE X b tb) (hm:behindInMarks op b=false):PT X (.Compare a [op] [b] pos) (a0g (tOp r ta tb)):=by
 intro pins s σ H Q I h;refine wpAny_isTrue_Compare1 (cN (ha pins s σ H _ I h) fun v s1 ⟨x,H1,I1,r1,q1⟩=>cN (hb pins s1 σ H1 _ I1 q1) fun u s2 ⟨y,H2,I2,r2,q2⟩ =>
  cN (ho pins s2 σ H2 x y v u _ I2 r1 r2 q2) fun c s3 ⟨z,H3,I3,r3,k,e,q3⟩=>?_) hm
 subst e;cases r3;exact A2c ⟨H3,I3,q3⟩
inductive zY (r':R2) (tc:TE) (σ:L2.St) (Q:VK) (y z:V) (H3:Hp):Prop
 | mk (k:Bool) (_:z=.bl k) (_:(if k=true then tc σ H3 fun w' H4=>r' y w' H4 Q else Q (.bl false) H3)):zY r' tc σ Q y z H3
def Xg (r r':R2) (ta tb tc:TE):TE:=fun σ H Q=>ta σ H fun x H1=>tb σ H1 fun y H2=>r x y H2 fun z H3=>zY r' tc σ Q y z H3
theorem zZ {op':CmpOp}{r r':R2} (ho:mq X (compareOp op) r) (ho':mq X (compareOp op') r') (ha:PE X a ta) (hb:PE X b tb) (hc:PE X c tc)
  (hm:lastMarks [op,op'] [b,c]=false:=by with_unfolding_all rfl):PE X (.Compare a [op,op'] [b,c] pos) (Xg r r' ta tb tc):=by
 intro pins s σ H Q I h;refine Compare_chain (cN (ha pins s σ H _ I h) fun v s1 ⟨x,H1,I1,r1,q1⟩=>chain_link (cN (hb pins s1 σ H1 _ I1 q1) fun u s2 ⟨y,H2,I2,r2,q2⟩ =>
  cN (ho pins s2 σ H2 x y v u _ I2 r1 r2 q2) fun d s3 ⟨z,H3,I3,r3,k,e,q3⟩=>?_)) hm
 subst e;cases r3;refine A2c ?_;cases k with
 | false=>exact ite_ff ⟨.bl false,H3,I3,rfl,q3⟩
 | true=>exact ite_tt (chain_last (cN (hc pins s3 σ H3 _ I3 q3) fun w' s4 ⟨z',H4,I4,r4,q4⟩=>ho' pins s4 σ H4 y z' u w' Q I4 r2 r4 q4))
theorem tM:(sizeLine:Nat)<2 ^ 63:=by rw [A1G];decide
theorem tO:mq X (binaryOp .Add) (fun x y H Q=>∃ i j,x=.str i/\y=.str j/\i.length+j.length<=sizeLine/\Q (.str (i++j)) H):=by
 intro pins s σ H x y v u Q I rx ry h;obtain ⟨i,j,rfl,rfl,hz,q⟩:=h;obtain ⟨t,rfl⟩:=rx;obtain ⟨t',rfl⟩:=ry;exact add_str (fun t' tk=>⟨.str (i++j),H,I.tok _,⟨_,rfl⟩,q⟩) hz
theorem vals1 {x:V} (r:Vals [x] us):∃ u,us=[u]/\RelV x u:=by
 cases r with
 | cons r1 r2=>cases r2;exact ⟨_,rfl,r1⟩
theorem vals2 {x:V} (r:Vals [x,y] us):∃ u w',us=[u,w']/\RelV x u/\RelV y w':=by
 cases r with
 | cons r1 r2 =>
  cases r2 with
  | cons r3 r4=>cases r4;exact ⟨_,_,rfl,r1,r3⟩
theorem qw (hc:X.calm=true):jj X (.builtin "max") (fun xs H Q=>∃ i j,xs=[.int i,.int j]/\Q (.int (if j > i then j else i)) H):=by
 intro pins s σ H xs us Q I r h;obtain ⟨i,j,rfl,q⟩:=h;obtain ⟨u,w',rfl,⟨t,rfl⟩,⟨t',rfl⟩⟩:=vals2 r;refine max_two_ints (I.ok.hd hc) fun h' tk k=>⟨_,H,I.kept k,?_,q⟩
 by_cases hj:j > i
 ·rw [A0i hj,A0i hj];exact ⟨_,rfl⟩
 ·rw [A0f hj,A0f hj];exact ⟨_,rfl⟩
theorem qx (hc:X.calm=true):jj X (.builtin "min") (fun xs H Q=>∃ i j,xs=[.int i,.int j]/\Q (.int (if j<i then j else i)) H):=by
 intro pins s σ H xs us Q I r h;obtain ⟨i,j,rfl,q⟩:=h;obtain ⟨u,w',rfl,⟨t,rfl⟩,⟨t',rfl⟩⟩:=vals2 r;refine min_two_ints (I.ok.hd hc) fun h' tk k=>⟨_,H,I.kept k,?_,q⟩
 by_cases hj:j<i
 ·rw [A0i hj,A0i hj];exact ⟨_,rfl⟩
 ·rw [A0f hj,A0f hj];exact ⟨_,rfl⟩
end
structure Dj (h:Heap) (x dx C:Addr) (mA:Str->Option Value):Prop where
 obj:h.get? x=some (PySem.W.instObj C dx)
 ns:h.Ns1 dx mA
 ne:dx≠x
theorem Ju (n:h.Ns1 dx mA):∃ od,h.get? dx=some od/\∀ name,PySem.W.lookIn name od=some (mA name):=by
 obtain ⟨o,es,ep,ho,hd,hk,_,hm⟩:=n;refine ⟨o,ho,fun name=>?_⟩;have e:=hm name;unfold nsFind findBy at e;rw [<- Array.find?_toList] at e;unfold PySem.W.lookIn;rw [hd];dsimp only
 split
 ·rename_i y q
  rw [q] at e;exact A1R some e
 ·rename_i q
  rw [q] at e;have a:es.toList.any (·.refKey)=false:=by
   rw [A3n];intro y hy;obtain ⟨z,t,hkey⟩:=hk y (Array.mem_toList_iff.mp hy);simp [DictEntry.refKey,hkey]
  have a':¬ es.toList.any (·.refKey)=true:=by rw [a];exact A0p
  rw [A0f a'];exact A1R some e
theorem Dj.look {x:Addr} (I:Dj h x dx C mA):∃ od,PySem.W.InstAt h x (PySem.W.instObj C dx) C (some od)/\∀ name,PySem.W.lookIn name od=some (mA name) :=
 let ⟨od,ho,hl⟩:=Ju I.ns
 ⟨od,⟨I.obj,rfl,rfl,ho⟩,hl⟩
section
variable {x:Addr}{v:Value}
theorem get_map {expr:Bool} (X:K.In s.heap) (I:Dj s.heap x dx C mA) (hg:PySem.W.plainGet K C name=true) (hh:PySem.W.hasDictIn K C=true)
  (ha:PySem.W.findIn K (.ref C) name=some none) (hv:mA name=some v) (hv':PySem.W.handedIn v=true) (h:Q v { s with toks:=s.toks+1 }) :
  wpAny 0x14 A (getAttr (.ref x) name expr) Q E s:=by
 obtain ⟨od,J,hl⟩:=I.look;exact PySem.W.get_value X J (A3M hg).1 (PySem.W.findObj_own hh ha rfl (by rw [hl,hv])) hv' h
theorem LK {Q:Value×List Value->Shared->Prop} (X:K.In s.heap) (I:Dj s.heap x dx C mA) (hg:PySem.W.plainGet K C name=true)
  (hf:PySem.W.findIn K (.ref C) name=some (some (.ref f))) (ht:PySem.W.isFn K (.ref f)=true) (hv:mA name=none) (h:Q (.ref f,[.ref x]) s) :
  wpAny 0x14 A (getMethod (.ref x) name pl) Q E s:=by
 obtain ⟨od,J,hl⟩:=I.look;exact PySem.W.method_fn X J (A3M hg).1 (A3M hg).2 hf (A3s.mp ht) (by show (PySem.W.lookIn name od).map (·.isSome)=some false;rw [hl,hv];rfl) h
theorem Sq {ns:List Str}{Q:Unit->Shared->Prop} (X:K.In s.heap) (I:Dj s.heap x dx C mA)
  (hs:PySem.W.findIn K (.ref C) "__setattr__"=some (some (.builtin "object.__setattr__"))) (hp:PySem.W.plainOver K C=true) (ht:PySem.W.takerIn K C name=some none) (hh:PySem.W.hasDictIn K C=true)
  (hw:PySem.Within mA ns) (hsz:ns.length<=sizeLine)
  (h:∀ h',Dj h' x dx C (fun y=>if y=name then some v else mA y)->Heap.SameBut dx s.heap h'->Q () { s with heap:=h',toks:=s.toks+2 }) :
  wpAny 0x14 A (setAttr (.ref x) name v) Q E s:=by
 obtain ⟨od,J,hl⟩:=I.look;refine PySem.W.set_plain X J hs (PySem.W.osa_open (s:={ s with toks:=s.toks+1 }) (r:=none) X J hp ht fun b=>?_);obtain ⟨cd,hc,hd'⟩:=PySem.W.any_some hh;have hx:s.heap.get? x=some ⟨.ref C,some dx,.plain,#[]⟩:=I.obj;refine A0a (A0s (A0a (A0a (wpAny_loadPart hx (A0a (PySem.W.Looks.here (s:={ s with toks:=s.toks+1 }) (PySem.W.looks_clsIn X hc) ?_))))));rw [hd'];refine A0s (a:=some dx) (A0a (A0s (A0a ?_)));refine wpAny_nsSet1 (s:={ s with toks:=s.toks+1 }) I.ns fun h' hn2 hs2=>?_;obtain ⟨oD,esD,epD,hoD,hdD,hcD⟩:=hn2.count (PySem.Within.cons name v hw);refine A0a (wpAny_lookBehind hoD (by rw [hdD];exact pastItsLine_dict (A0M hcD (by rw [vI];lia))) ?_);exact A0s (h _ ⟨(hs2.2 _ (A0k I.ne)).trans I.obj,hn2,I.ne⟩ hs2)
theorem LQ {R:Result->Shared->Prop}{vs:List Value} (X:K.In s.heap) (hm:PySem.W.makesIn K C=true)
  (hi:PySem.W.findIn K (.ref C) "__init__"=some (some (.ref f))) (hf:PySem.W.typeIn K (.ref f)=some (.type "function"))
  (h:codeAny 0x14 (A.under (.builtin "type.__call__" ⟨.ref C::vs,kw⟩)) (.call (.ref f) ⟨.ref 0x11::vs,kw⟩) (PySem.W.InitBack 0x11 R)
   { s with heap:=(s.heap.push PySem.W.emptyDict).push (PySem.W.instObj C s.heap.objs.size) }) :
  codeAny 0x14 A (.call (.ref C) ⟨vs,kw⟩) R s:=by
 obtain ⟨hh,g,d,t,os⟩:=s;exact PySem.W.make_core (PySem.W.makes_of X hm) (PySem.W.looks_findIn X hi) (fun self=>PySem.W.bind_fn X self hf) (.inl rfl) h
end
def mG (f:Str) (v:V):List (Str×V)->List (Str×V)
 | []=>[(f,v)]
 | (g,x)::r=>if g=f then (g,v)::r else (g,x)::mG f v r
theorem qR (f g:Str) (v:V):∀ fs:List (Str×V),(mG f v fs).lookup g=if g=f then some v else fs.lookup g
 | []=>by
  show List.lookup g [(f,v)]=_
  by_cases h:g=f
  ·have hb:(g==f)=true:=A3s.mpr h;simp only [List.lookup,hb,A0i h]
  ·have hb:(g==f)=false:=A1v.mpr h;simp only [List.lookup,hb,A0f h]
 | (k,x)::r=>by
  have ih:=qR f g v r;rw [show mG f v ((k,x)::r)=(if k=f then (k,v)::r else (k,x)::mG f v r) from rfl]
  by_cases hk:k=f
  ·rw [A0i hk]
   by_cases h:g=k
   ·have hb:(g==k)=true:=A3s.mpr h;simp only [List.lookup,hb,A0i (h.trans hk)]
   ·have hb:(g==k)=false:=A1v.mpr h;simp only [List.lookup,hb,A0f (fun e:g=f=>h (e.trans hk.symm))]
  ·rw [A0f hk]
   by_cases h:g=k
   ·have hb:(g==k)=true:=A3s.mpr h;simp only [List.lookup,hb,A0f (fun e:g=f=>hk (h.symm.trans e))]
   ·have hb:(g==k)=false:=A1v.mpr h;simp only [List.lookup,hb];exact ih
theorem qy (f:Str) (v:V):∀ fs:List (Str×V),f∈(mG f v fs).map (·.1)/\∀ g,g∈fs.map (·.1)->g∈(mG f v fs).map (·.1)
 | []=>⟨by simp [mG],fun g h=>by simp at h⟩
 | (k,x)::r=>by
  obtain ⟨i1,i2⟩:=qy f v r;rw [show mG f v ((k,x)::r)=(if k=f then (k,v)::r else (k,x)::mG f v r) from rfl]
  by_cases hk:k=f
  ·rw [A0i hk];subst hk;exact ⟨by simp,fun g h=>by simpa using h⟩
  ·rw [A0f hk];refine ⟨?_,fun g h=>?_⟩
   ·rw [A0m];exact jT _ i1
   ·rw [A0m] at h ⊢;rcases A0d.mp h with e | e
    ·exact A0d.mpr (.inl e)
    ·exact jT _ (i2 g e)
theorem qT (f:Str) (v:V):∀ fs:List (Str×V),(mG f v fs).length<=fs.length+1
 | []=>by simp [mG]
 | (k,x)::r=>by
  have ih:=qT f v r;rw [show mG f v ((k,x)::r)=(if k=f then (k,v)::r else (k,x)::mG f v r) from rfl]
  by_cases hk:k=f
  ·rw [A0i hk,vI,vI];lia
  ·rw [A0f hk,vI,vI];lia
theorem jk.some_of {o:Option Value} (r:jk (some v) o):∃ u,o=some u/\RelV v u:=by
 cases o with
 | none=>exact (show False from r).elim
 | some u=>exact ⟨u,rfl,r⟩
theorem jk.none_of {o:Option Value} (r:jk none o):o=none:=by
 cases o with
 | none=>rfl
 | some u=>exact (show False from r).elim
theorem Jv (r:RelV v u):PySem.W.handedIn u=true:=by
 cases v with
 | non=>cases (show u=Value.none from r);rfl
 | bl b=>cases (show u=Value.bool b from r);rfl
 | int i=>obtain ⟨t,e⟩:=(show ∃ t,u=Value.int i t from r);cases e;rfl
 | str x=>obtain ⟨t,e⟩:=(show ∃ t,u=Value.str x t from r);cases e;rfl
 | Gm b=>obtain ⟨t,e⟩:=(show ∃ t,u=Value.bytes b t from r);cases e;rfl
 | flt b=>obtain ⟨t,e⟩:=(show ∃ t,u=Value.float b t from r);cases e;rfl
 | ref a=>cases (show u=Value.ref a from r);rfl
 | ty n=>cases (show u=Value.type n from r);rfl
section
variable {fs:List (Str×V)}
theorem rJ (hok:nM P w H h) (e:H a=some (.ins C dx fs)):∃ mA,Dj h a dx C mA/\(∀ f,jk (fs.lookup f) (mA f))/\PySem.Within mA (fs.map (·.1))/\fs.length<=1000/\H dx=some (.own a):=by
 obtain ⟨d,z,ne,ob,mA,n,r,q⟩:=(show dW P w H h a (.ins C dx fs) from hok a _ e)
 exact ⟨mA,⟨ob,n,ne⟩,r,q,z,d⟩
end
structure Cls (K:PySem.W.Frag) (C:Addr):Prop where
 pg:PySem.W.plainGet K C Str.empty=true
 hd:PySem.W.hasDictIn K C=true
 po:PySem.W.plainOver K C=true
 sa:PySem.W.findIn K (.ref C) "__setattr__"=some (some (.builtin "object.__setattr__"))
theorem Cls.get (c:Cls K C) (f:Str):PySem.W.plainGet K C f=true:=c.pg
def dN (K:PySem.W.Frag) (C:Addr) (f:Str):Prop:=PySem.W.findIn K (.ref C) f=some none
theorem dN.taker {f:Str} (n:dN K C f):PySem.W.takerIn K C f=some none:=by
 unfold PySem.W.takerIn;rw [show PySem.W.findIn K (.ref C) f=some none from n]
 rfl
structure Con (K:PySem.W.Frag) (C:Addr) (f:Str) (v:V) (u:Value):Prop where
 at_:PySem.W.findIn K (.ref C) f=some (some u)
 rel:RelV v u
 get:PySem.W.specialIn K u "__get__"=some none
 cp:PySem.W.copiedNames.contains f=false
structure Meth (K:PySem.W.Frag) (C:Addr) (m:Str) (f:Addr):Prop where
 at_:PySem.W.findIn K (.ref C) m=some (some (.ref f))
 fn:PySem.W.isFn K (.ref f)=true
 kp:PySem.W.keepIn K (.ref f)=true
section
variable {fs:List (Str×V)}{f:Str}
theorem Dk {b:Bool} (I:Inv X pins σ H s) (e:H a=some (.ins C dx fs)) (c:Cls X.K C) (n:dN X.K C f) (l:fs.lookup f=some v)
  (h:∀ u s',Inv X pins σ H s'->RelV v u->Q u s'):wpAny 0x9 A (getAttr (.ref a) f b) Q E s:=by
 obtain ⟨mA,O,r,_,_,_⟩:=rJ I.hok e;obtain ⟨u,hu,ru⟩:=jk.some_of (v:=v) (o:=mA f) (by rw [<- l];exact r f);exact get_map I.nO O (c.get f) c.hd n hu (Jv ru) (h u _ (I.tok _) ru)
theorem tQ {m:Str}{g:Addr}{Q:Value×List Value->Shared->Prop} (I:Inv X pins σ H s) (e:H a=some (.ins C dx fs)) (c:Cls X.K C) (k:Meth X.K C m g) (l:fs.lookup m=none)
  (h:Q (.ref g,[.ref a]) s):wpAny 0x9 A (getMethod (.ref a) m pl) Q E s:=by
 obtain ⟨mA,O,r,_,_,_⟩:=rJ I.hok e;have hn:mA m=none:=jk.none_of (by rw [<- l];exact r m);exact LK I.nO O (c.get m) k.at_ k.fn hn h
theorem Dl {Q:Unit->Shared->Prop} (I:Inv X pins σ H s) (e:H a=some (.ins C dx fs)) (c:Cls X.K C) (n:dN X.K C f) (hl:fs.length<1000) (ry:RelV y u)
  (h:∀ s',Inv X pins σ (upd H a (.ins C dx (mG f y fs))) s'->Q () s'):wpAny 0x9 A (setAttr (.ref a) f u) Q E s:=by
 obtain ⟨mA,O,r,wi,_,ho⟩:=rJ I.hok e;have hz:(fs.map (·.1)).length<=sizeLine:=by rw [cg,A1G];lia
 refine Sq I.nO O c.sa c.po n.taker c.hd wi hz fun h' O' sb=>h _ ?_;have hd:∃ o,h'.get? dx=some o:=let ⟨o,_,_,e',_⟩:=O'.ns;⟨o,e'⟩
 refine I.write (x:=a) (e:=dx) (by rw [e];exact True.intro) (.inr ho) (fun b q hb z=>(sb.2 b hb).trans z) hd ?_;refine ⟨by rw [aj O.ne];exact ho,?_,O.ne,O'.obj,_,O'.ns,fun g=>?_,fun g hg=>?_⟩
 ·have:=qT f y fs;lia
 ·show jk ((mG f y fs).lookup g) (if g=f then some u else mA g)
  rw [qR]
  by_cases q:g=f
  ·rw [A0i q,A0i q];exact ry
  ·rw [A0f q,A0f q];exact r g
 ·by_cases q:g=f
  ·rw [q];exact (qy f y fs).1
  ·refine (qy f y fs).2 g (wi g fun z=>hg ?_)
   show (if g=f then some u else mA g)=none
   rw [A0f q];exact z
theorem Inv.made (I:Inv X pins σ H s):Inv X pins σ (upd (upd H s.heap.objs.size (.own 0x11)) 0x11 (.ins C s.heap.objs.size []))
  { s with heap:=(s.heap.push PySem.W.emptyDict).push (PySem.W.instObj C s.heap.objs.size) }:=by
 have e1:(s.heap.push PySem.W.emptyDict).get? s.heap.objs.size=some PySem.W.emptyDict:=A0y s.heap rfl;have e2:((s.heap.push PySem.W.emptyDict).push (PySem.W.instObj C s.heap.objs.size)).get? 0x11=some (PySem.W.instObj C s.heap.objs.size):=by
  have:=A0y (s.heap.push PySem.W.emptyDict) (o:=PySem.W.instObj C s.heap.objs.size) rfl
  rwa [A2G] at this
 have e3:(s.heap.push PySem.W.emptyDict).Ns s.heap.objs.size (fun _=>none):=⟨PySem.W.emptyDict,#[],_,e1,rfl,(fun e he=>absurd he 0xA),fun _=>rfl⟩;have I1:=I.laid (a:=s.heap.objs.size) (o:=.own 0x11) (h':=s.heap.push PySem.W.emptyDict) (t':=s.toks) (fun b u q=>A0c _ q) (A0h _) ⟨_,e1⟩;refine I1.laid (a:=s.heap.objs.size+1) (o:=.ins C s.heap.objs.size []) (t':=s.toks) (fun b u q=>A0c _ q) (Nat.le_of_eq (A2G _ _)) ?_;have ne:s.heap.objs.size≠s.heap.objs.size+1:=A0S (A4o _);refine ⟨by rw [aj ne,ao],A1f _,ne,e2,fun _=>none,(Heap.Ns1.of_empty e3).at fun o q=>A0c _ q,fun _=>True.intro,fun y hy=>absurd rfl hy⟩
theorem Ss {f:Str} (hb:attributeBase e f env (eval e env)=eval e env)
  (h:wpAny 0x14 A (eval e env) (fun o s₁=>wpAny 0x14 A (getAttr o f true) Q E s₁) E s):wpAny 0x14 A (eval (.Attribute e f pos) env) Q E s :=
 Attribute_any_ h (by rw [arm_eval_Attribute,hb])
end
inductive LR (K:W.Frag) (f:Str) (Q:VK) (x:V) (H1:Hp):Prop
 | mk (a C dx:Addr) (fs:List (Prod Str V)) (v:V) (_:x=.ref a) (_:H1 a=some (.ins C dx fs)) (_:Cls K C) (_:dN K C f) (_:fs.lookup f=some v) (_:Q v H1):LR K f Q x H1
def tFld (K:PySem.W.Frag) (ta:TE) (f:Str):TE:=fun σ H Q=>ta σ H fun x H1=>LR K f Q x H1
inductive xH (K:W.Frag) (f:Str) (D:Ends) (σ:L2.St) (y x:V) (H2:Hp):Prop
 | mk (a C dx:Addr) (fs:List (Prod Str V)) (_:x=.ref a) (_:H2 a=some (.ins C dx fs)) (_:Cls K C) (_:dN K C f) (_:fs.length<1000) (_:D.nx σ (upd H2 a (.ins C dx (mG f y fs)))):xH K f D σ y x H2
def Xh (K:PySem.W.Frag) (ta tv:TE) (f:Str):TS:=fun D σ H=>tv σ H fun y H1=>ta σ H1 fun x H2=>xH K f D σ y x H2
def Xi (X:Cx) (op:Operator) (rd:V->V->Hp->VK->Prop):Prop :=
 ∀ (pins:List 0x17) (s:Shared) (σ:St) (H:Hp) (x y:V) (u v:Value) (Q:VK),Inv X pins σ H s->RelV x u->RelV y v->rd x y H Q->wpAny 0x9 X.A (inplaceOp op u v) (EP X pins σ Q) X.xe s
section
variable {o:Expr}{f:Str}{tpos:Pos}
theorem aZ (he:PE X e ta) (hb:attributeBase e f X.env (eval e X.env)=eval e X.env):PE X (.Attribute e f pos) (tFld X.K ta f):=by
 intro pins s σ H Q I h;refine Ss hb (cN (he pins s σ H _ I h) fun u s1 zq=>?_);obtain ⟨x,H1,I1,rx,a,C,dx,fs,v,ex,ea,c,n,l,q⟩:=zq;subst ex;obtain rfl:u=Value.ref a:=rx;exact Dk I1 ea c n l fun u' s2 I2 ru=>⟨v,H1,I2,ru,q⟩
theorem dO (ha:PE X o ta) (hv:PE X value tv) (hs:swapsWith value (some (.Attribute o f pos')) pos.line X.env=pure false):PS X (.Assign [.Attribute o f pos'] value pos) (Xh X.K ta tv f):=by
 intro pins s σ H D I h;refine plainObj_wpAny_Assign_Attribute (cN (hv pins s σ H _ I h) fun u s1 ⟨y,H1,I1,ry,q⟩=>cN (ha pins s1 σ H1 _ I1 q) fun ov s2 ⟨x,H2,I2,rx,a,C,dx,fs,ex,ea,c,n,l,q2⟩=>?_) hs;subst ex;obtain rfl:ov=Value.ref a:=rx;exact Dl I2 ea c n l ry fun s3 I3=>⟨σ,_,I3,q2⟩
inductive rAdd (x y:V) (H:Hp) (Q:VK):Prop
 | mk (i j:Int) (_:x=.int i) (_:y=.int j) (_:Q (.int (i+j)) H):rAdd x y H Q
inductive rSub (x y:V) (H:Hp) (Q:VK):Prop
 | mk (i j:Int) (_:x=.int i) (_:y=.int j) (_:Q (.int (i - j)) H):rSub x y H Q
theorem Ma:Xi X .Add rAdd:=by
 rintro pins s σ H x y u v Q I rx ry ⟨i,j,rfl,rfl,q⟩;obtain ⟨t,rfl⟩:=(show ∃ t,u=Value.int i t from rx)
 obtain ⟨t',rfl⟩:=(show ∃ t',v=Value.int j t' from ry)
 exact PyProof.Rows.iadd_int ⟨.int (i+j),H,I.tok _,⟨_,rfl⟩,q⟩
theorem Mg:Xi X .Sub rSub:=by
 rintro pins s σ H x y u v Q I rx ry ⟨i,j,rfl,rfl,q⟩;obtain ⟨t,rfl⟩:=(show ∃ t,u=Value.int i t from rx)
 obtain ⟨t',rfl⟩:=(show ∃ t',v=Value.int j t' from ry)
 exact PyProof.Rows.isub_int ⟨.int (i - j),H,I.tok _,⟨_,rfl⟩,q⟩
end
section
variable {c:Value}{b:Bool}
inductive oV (K:PySem.W.Frag) (H:Hp):V->Value->Prop where
 | non:oV K H .non (.type "NoneType")
 | bl (x:Bool):oV K H (.bl x) (.type "bool")
 | int (i:Int):oV K H (.int i) (.type "int")
 | str (x:Str):oV K H (.str x) (.type "str")
 | flt (x:UInt64):oV K H (.flt x) (.type "float")
 | lst {a:Addr}{xs:List V} (e:H a=some (.lst xs)):oV K H (.ref a) (.type "list")
 | iQ {a:Addr}{o:Obj}{xs:List V} (e:H a=some (.iQ o (.lst xs))):oV K H (.ref a) (.type "list")
 | tup {a:Addr}{xs:List V} (e:H a=some 0x2E):oV K H (.ref a) (.type "tuple")
 | dK {a:Addr}{kvs:List 0x30} (e:H a=some 0x13):oV K H (.ref a) (.type "dict")
 | dT {a:Addr}{kvs:List (List Key×V)} (e:H a=some (.dT kvs)):oV K H (.ref a) (.type "dict")
 | ins {a C dx:Addr}{fs:List (Str×V)} (e:H a=some (.ins C dx fs)) (cl:Cls K C) (ha:PySem.W.findIn K (.ref C) "__class__"=some (some (.builtin "object.__class__")))
   (hn:PySem.W.specialIn K (.builtin "object.__class__") "__get__"=some (some (.builtin "getset_descriptor.__get__"))) (htk:PySem.W.takesIn K (.builtin "object.__class__")=some true)
   (hm:PySem.W.mroIn K C (.type "object")=some true):oV K H (.ref a) (.ref C)
theorem Jw {x:V}{t:Value} (I:Inv X pins σ H s) (rx:RelV x u) (ty:oV X.K H x t) (e:PySem.W.kitOne X.K t c=some b) (h:∀ tk,Q (.bool b) { s with toks:=tk }) :
  wpAny 0x9 A (call (.builtin "isinstance") [u,c]) Q E s:=by
 cases ty with
 | non=>cases (show u=Value.none from rx);exact A1I PySem.W.kitx_none I.nO True.intro e (fun z=>nomatch z) h
 | bl y=>cases (show u=Value.bool y from rx);exact A1I PySem.W.kitx_bool I.nO True.intro e (fun z=>nomatch z) h
 | int i=>obtain ⟨t,q⟩:=(show ∃ t,u=Value.int i t from rx);cases q;exact A1I PySem.W.kitx_int I.nO True.intro e (fun z=>nomatch z) h
 | str y=>obtain ⟨t,q⟩:=(show ∃ t,u=Value.str y t from rx);cases q;exact A1I PySem.W.kitx_str I.nO True.intro e (fun z=>nomatch z) h
 | flt y=>obtain ⟨t,q⟩:=(show ∃ t,u=Value.float y t from rx);cases q;exact A1I PySem.W.kitx_float I.nO True.intro e (fun z=>nomatch z) h
 | @lst a xs ea =>
  cases (show u=Value.ref a from rx)
  obtain ⟨_,_,n,_,h1⟩:=(show dW X.prog X.w H s.heap a (.lst xs) from I.hok a _ ea)
  exact A1I PySem.W.kitx_list I.nO ⟨_,h1,rfl⟩ e (fun z=>nomatch z) h
 | @iQ a ob xs ea =>
  cases (show u=Value.ref a from rx)
  obtain ⟨_,_,_,n,_,h1⟩:=(show dW X.prog X.w H s.heap a (.iQ ob (.lst xs)) from I.hok a _ ea)
  exact A1I PySem.W.kitx_list I.nO ⟨_,h1,rfl⟩ e (fun z=>nomatch z) h
 | @tup a xs ea =>
  cases (show u=Value.ref a from rx)
  obtain ⟨_,_,_,p⟩:=(show dW X.prog X.w H s.heap a 0x2E from I.hok a _ ea)
  obtain ⟨o,h1,h2,_⟩:=p;exact A1I PySem.W.kitx_tuple I.nO ⟨o,h1,h2⟩ e (fun z=>nomatch z) h
 | @dK a kvs ea =>
  cases (show u=Value.ref a from rx)
  obtain ⟨_,_,vs,_,p⟩:=(show dW X.prog X.w H s.heap a 0x13 from I.hok a _ ea)
  obtain ⟨o,es,ep,h1,h2,_⟩:=p;exact A1I PySem.W.kitx_dict I.nO ⟨o,h1,h2.1⟩ e (fun z=>nomatch z) h
 | @dT a kvs ea =>
  cases (show u=Value.ref a from rx)
  obtain ⟨_,_,xs,_,o,es,ep,h1,h2,_⟩:=(show dW X.prog X.w H s.heap a (.dT kvs) from I.hok a _ ea)
  exact A1I PySem.W.kitx_dict I.nO ⟨o,h1,h2.1⟩ e (fun z=>nomatch z) h
 | @ins a C dx fs ea cl ha hn htk hm =>
  cases (show u=Value.ref a from rx)
  obtain ⟨mA,O,_⟩:=rJ I.hok ea;obtain ⟨od,J,_⟩:=O.look;exact A1I (PySem.W.kitx_own (cl.get _) cl.hd ha hn htk hm) I.nO J e (fun z=>nomatch z) h
end
structure cH (k:Nat) (A:Around):Prop where
 hd:A.handled=none
 dp:A.depth+3 * k+5<recursionLimit
 un:A.units+16 * k+200<cLine
theorem cH.mono {k:Nat} (r:cH k A) (h:j<=k):cH j A:=⟨r.hd,by have:=r.dp;lia,by have:=r.un;lia⟩
theorem cH.deeper {k:Nat} (r:cH (k+1) A) (env:Env):cH k (A.deeper env) :=
 ⟨r.hd,by have:=r.dp;show A.depth+1+3 * k+5<_;lia,by have:=r.un;show A.units+3+16 * k+200<_;lia⟩
theorem cH.in1 {k:Nat} (r:cH (k+1) A):cH k A.in1 :=
 ⟨r.hd,by have:=r.dp;show A.depth+3 * k+5<_;lia,by have:=r.un;show A.units+1+16 * k+200<_;lia⟩
theorem Dm:(A.under (.builtin "type.__call__" ⟨.ref C::us,kw⟩)).depth=A.depth+1:=by
 first | rfl | simp [Around.under,Code.weight,Code.isCreation,Code.isGuard,Code.isCaller,Code.frames,Code.isFrame,guardIds]
theorem Dn:(A.under (.builtin "type.__call__" ⟨.ref C::us,kw⟩)).units=A.units+1:=by
 first | rfl | simp [Around.under,Code.cUnits,Code.frames,Code.isFrame]
theorem cH.make {k:Nat} (r:cH (k+1) A) (C:Addr) (us:List Value) (kw:List (Str×Value)):cH k (A.under (.builtin "type.__call__" ⟨.ref C::us,kw⟩)) :=
 ⟨r.hd,by have:=r.dp;rw [Dm];lia,by have:=r.un;rw [Dn];lia⟩
theorem cH.depth {k:Nat} (r:cH k A):A.depth<recursionLimit:=by have:=r.dp;lia
theorem cH.units {k:Nat} (r:cH k A):A.units+64<cLine:=by have:=r.un;lia
def nP:TA:=fun _ H Q=>Q [] H
def qU (ta:TE) (tr:TA):TA:=fun σ H Q=>ta σ H fun x H1=>tr σ H1 fun xs H2=>Q (x::xs) H2
section
variable {t:TA}
theorem aC:PA X [] nP:=fun _ _ _ _ H Q I h=>A2s ⟨[],H,I,.nil,h⟩
theorem ak (ha:PE X e te) (hr:PA X es t) (hs:starEach (e::es) X.env=(false,eval e X.env)::starEach es X.env:=by rfl):PA X (e::es) (qU te t):=by
 intro pos pins s σ H Q I h;rw [hs]
 show wpAny _ _ (spliced ((false,eval e X.env)::backTo pos (starEach es X.env))) _ _ s
 refine A1P (cN (ha pins s σ H _ I h) fun u s1 zq=>?_);obtain ⟨x,H1,I1,r1,q1⟩:=zq;exact cN (hr pos pins s1 σ H1 _ I1 q1) fun us s2 ⟨xs,H2,I2,r2,q2⟩=>⟨x::xs,H2,I2,.cons r1 r2,q2⟩
def Sv (t:TA):TE:=fun σ H Q=>t σ H fun xs H1=>xs.length<=sizeLine/\∀ p,H1 p=none->Q (.ref p) (upd H1 p 0x2E)
def Xj (t:TA):TE:=fun σ H Q=>t σ H fun xs H1=>xs.length<=sizeLine/\∀ p,H1 p=none->Q (.ref p) (upd H1 p (.lst xs))
theorem cZ {x1} (h:PA X es t):PE X (.Tuple es x1 pos) (Sv t):=by
 intro pins s σ H Q I hq;refine wpAny_Tuple_spliced (cN (h pos pins s σ H _ I hq) fun us s1 ⟨xs,H1,I1,r,z,q⟩=>⟨by rw [<- r.length];exact z,?_⟩);have hf:H1 s1.heap.objs.size=none:=I1.hok.fresh (A0h _);refine ⟨.ref s1.heap.objs.size,upd H1 s1.heap.objs.size 0x2E,I1.laid (t':=s1.toks) (fun b u e=>A0c _ e) (A0h _) ?_,rfl,q _ hf⟩;exact ⟨z,us,r,⟨_,A0y _ rfl,rfl,_,rfl⟩⟩
theorem cU (h:PA X es t):PE X (.List es pos) (Xj t):=by
 intro pins s σ H Q I hq;refine wpAny_List_spliced (cN (h pos pins s σ H _ I hq) fun us s1 ⟨xs,H1,I1,r,z,q⟩=>⟨by rw [<- r.length];exact z,?_⟩);have hf:H1 s1.heap.objs.size=none:=I1.hok.fresh (A0h _);refine ⟨.ref s1.heap.objs.size,upd H1 s1.heap.objs.size (.lst xs),I1.laid (t':=s1.toks) (fun b u e=>A0c _ e) (A0h _) ?_,rfl,q _ hf⟩;exact ⟨z,us,0,r,A0y _ rfl⟩
end
abbrev Sp:=List V->Hp->VK->XK->Prop
variable {sp:Sp}
abbrev Gy:=List Env->Hp->Shared->XK->Value->Shared->Prop
variable {CX:Gy}
structure vB (P:Program) (w:World) (K:PySem.W.Frag) (mg:Str->Option Value) (base:Heap) (A:Around) (outer:List Env) (s:Shared) (H:Hp):Prop where
 frames:A.frames=some outer
 mod:Mod K mg base
 bs:∀ b o,base.get? b=some o->s.heap.get? b=some o/\H b=none
 RT:base.objs.size<=s.heap.objs.size
 qu:s.heap.FunFrames base outer
 Vv:∀ b∈frs outer,H b=none
 hok:nM P w H s.heap
 bare:AllBare s.gens
inductive CE (outer:List Env) (P:Program) (w:World) (H:Hp) (s:Shared) (Q:VK) (u:Value) (s':Shared):Prop
 | mk (v:V) (H':Hp) (_:s'.os=s.os) (_:AllBare s'.gens) (_:Un (frs outer) [] H H' s.heap s'.heap) (_:nM P w H' s'.heap) (_:RelV v u) (_:Q v H'):CE outer P w H s Q u s'
def CR (CX:Gy) (outer:List Env) (P:Program) (w:World) (H:Hp) (s:Shared) (Q:VK) (E:XK) (r:Result) (s':Shared):Prop :=
 match r with
 | .ok (.ret u)=>CE outer P w H s Q u s'
 | .ok _=>False
 | .error e=>CX outer H s E e s'
structure aL (P:Program) (w:World) (K:PySem.W.Frag) (mg:Str->Option Value) (base:Heap) (CX:Gy) (k:Nat) (f:Addr) (fd:FuncData) (ps:List Str) (sp:Sp):Prop where
 len:∀ vs H Q E,sp vs H Q E->vs.length=ps.length
 run:∀ (A:Around) (outer:List Env) (s:Shared) (H:Hp) (args:Args) (us:List Value) (vs:List V) (Q:VK) (E:XK),cH k A->vB P w K mg base A outer s H->BindsTo s fd args (ps.zip us)->Vals vs us->sp vs H Q E ->
  codeAny (model P w) A (.call (.ref f) args) (CR CX outer P w H s Q E) s
theorem aL.mono {k:Nat} (F:aL P w K mg base CX j f fd ps sp) (h:j<=k) :
  aL P w K mg base CX k f fd ps sp:=⟨F.len,fun A outer s H args us vs Q E hr=>F.run A outer s H args us vs Q E (hr.mono h)⟩
theorem vB.make (e:vB P w K mg base A outer s H) (C:Addr) (us:List Value) (kw:List (Str×Value)) :
  vB P w K mg base (A.under (.builtin "type.__call__" ⟨.ref C::us,kw⟩)) outer s H:=⟨by first | exact e.frames | (simpa [Around.under,Code.envs,Code.isFrame,pushEnvs] using e.frames),e.mod,e.bs,e.RT,e.qu,e.Vv,e.hok,e.bare⟩
theorem vB.in1 (e:vB P w K mg base A outer s H) :
  vB P w K mg base A.in1 outer s H:=⟨e.frames,e.mod,e.bs,e.RT,e.qu,e.Vv,e.hok,e.bare⟩
theorem Inv.env0 (I:Inv X pins σ H s):vB X.prog X.w X.K X.mg X.base X.A X.stack s H :=
 ⟨I.ok.frames,I.ok.mod,I.bs,A0M I.ok.RT I.sz,I.stack,I.Gn,I.hok,I.bare⟩
theorem Inv.after {Q:VK} (I:Inv X pins σ H s) (h:CE X.stack X.prog X.w H s Q u s'):EP X pins σ Q u s':=by
 obtain ⟨v,H',os,bare,un,hok,r,q⟩:=h;obtain ⟨hh,g,d,t,os'⟩:=s';obtain rfl:os'=s.os:=os;exact ⟨v,H',I.call (h':=hh) (g':=g) (d':=d) (t':=t) (ch:=[]) un hok bare (fun b z=>absurd z 0xA),r,q⟩
def Vy (sp:Sp) (oW:List V) (E:XK) (t:TA):TE:=fun σ H Q=>t σ H fun vs H1=>sp (vs++oW) H1 Q E
inductive Gz (C:Addr) (m:Str) (sp:Sp) (oW:List V) (E:XK) (t:TA) (σ:L2.St) (Q:VK) (x:V) (H1:Hp):Prop
 | mk (a dx:Addr) (fs:List (Prod Str V)) (_:x=.ref a) (_:H1 a=some (.ins C dx fs)) (_:fs.lookup m=none) (_:t σ H1 fun vs H2=>sp (x::(vs++oW)) H2 Q E):Gz C m sp oW E t σ Q x H1
def Vz (C:Addr) (m:Str) (sp:Sp) (oW:List V) (E:XK) (ta:TE) (t:TA):TE:=fun σ H Q=>ta σ H fun x H1=>Gz C m sp oW E t σ Q x H1
def VB (C:Addr) (sp:Sp) (oW:List V) (E:XK) (t:TA):TE:=fun σ H Q=>t σ H fun vs H1=>∀ x dx,H1 x=none->H1 dx=none->dx≠x ->
 sp (.ref x::(vs++oW)) (upd (upd H1 dx (.own x)) x (.ins C dx [])) (fun v H2=>v=.non/\Q (.ref x) H2) E
def Binds (K:PySem.W.Frag) (fd:FuncData) (ps:List Str) (ds:List Value):Prop :=
 ∀ (s:Shared) (us:List Value),K.In s.heap->(us++ds).length=ps.length->BindsTo s fd ⟨us,[]⟩ (ps.zip (us++ds))
theorem Binds.all (h:∀ us:List Value,us.length=ps.length->bindArgs fd ⟨us,[]⟩=pure (ps.zip us)):Binds K fd ps []:=fun s us _ hl=>by
 rw [A0K] at hl ⊢;exact .of_eq (h us hl)
def Passes (CX:Gy) (X:Cx) (E:XK):Prop:=∀ (pins:List 0x17) (σ:St) (H:Hp) (s:Shared) (e:Value) (s':Shared),Inv X pins σ H s->CX X.stack H s E e s'->X.xe e s'
section
variable {k:Nat}{oW:List V}{ds:List Value}{E:XK}{x m:Str}{p:Pos}{o:Expr}{t:TA}
theorem tR {Q:VK}{vs:List V} (F:aL X.prog X.w X.K X.mg X.base CX k f fd ps sp) (hr:cH k X.A) (hb:Binds X.K fd ps ds) (hd:Vals oW ds) (hx:Passes CX X E)
  (I:Inv X pins σ H s) (r:Vals vs us) (h:sp (vs++oW) H Q E):wpAny 0x9 X.A (call (.ref f) us) (EP X pins σ Q) X.xe s:=by
 have r2:Vals (vs++oW) (us++ds):=r.append hd;have hl:(us++ds).length=ps.length:=by rw [<- r2.length];exact F.len _ _ _ _ h
 refine wpAny_call (A3Q (F.run X.A X.stack s H ⟨us,[]⟩ (us++ds) (vs++oW) Q E hr I.env0 (hb s us I.nO hl) r2 h) fun r s' hq=>?_);cases r with
 | error e=>exact hx pins σ H s e s' I hq
 | ok fl =>
  cases fl with
  | ret u=>exact I.after hq
  | next=>exact False.elim hq
  | brk=>exact False.elim hq
  | cont=>exact False.elim hq
theorem bJ (F:aL X.prog X.w X.K X.mg X.base CX k f fd ps sp) (hr:cH k X.A) (hg:Gl X x) (hm:X.mg x=some (.ref f)) (hk:PySem.W.keepIn X.K (.ref f)=true) (hb:Binds X.K fd ps ds) (hd:Vals oW ds) (hx:Passes CX X E)
  (ha:PA X (e::es) t) (hdb:0x24=false:=by decide) (he:starEach (e::es) X.env=(false,eval e X.env)::starEach es X.env:=by rfl) (hpl:(backTo pos (starEach es X.env)).any (·.1)=false:=by rfl) :
  PE X (.Call (.Name x p) (e::es) [] pos) (Vy sp oW E t):=by
 intro pins s σ H Q I h;refine A1Q (oO I hg hm ?_ hdb);refine A3f (h₀:=X.base) I.ok.mod.kin hk (cN (ha pos pins s σ H _ I h) fun us s1 ⟨vs,H1,I1,r,q⟩=>⟨I1.nO,?_⟩) he hpl;exact tR F hr hb hd hx I1 r q
theorem Mh (F:aL X.prog X.w X.K X.mg X.base CX k f fd ps sp) (hr:cH k X.A) (hg:Gl X x) (hm:X.mg x=some (.ref f)) (hk:PySem.W.keepIn X.K (.ref f)=true) (hb:Binds X.K fd ps ds) (hd:Vals oW ds) (hx:Passes CX X E)
  (hdb:0x24=false:=by decide):PE X (.Call (.Name x p) [] [] pos) (Vy sp oW E nP):=by
 intro pins s σ H Q I h;refine A1Q (oO I hg hm ?_ hdb);exact A3N I.nO hk (tR (us:=[]) F hr hb hd hx I .nil h)
theorem cj (he:PE X o ta) (c:Cls X.K C) (hm:Meth X.K C m f) (F:aL X.prog X.w X.K X.mg X.base CX k f fd ps sp) (hr:cH k X.A) (hb:Binds X.K fd ps ds) (hd:Vals oW ds) (hx:Passes CX X E) (ha:PA X (e::es) t)
  (hst:starEach (e::es) X.env=(false,eval e X.env)::starEach es X.env:=by rfl) (hpl:(backTo pos (starEach es X.env)).any (·.1)=false:=by rfl)
  (ht:eval (.Call (.Attribute o m apos) (e::es) [] pos) X.env=(do
   let ov <- eval o X.env
   standAt apos.atName
   let (f,first) <- holding [ov] (getMethod ov m pl)
   callWith pos f first (backTo pos (starEach (e::es) X.env)) (backToKw pos (keywordEach [] X.env))):=by rfl) :
  PE X (.Call (.Attribute o m apos) (e::es) [] pos) (Vz C m sp oW E ta t):=by
 intro pins s σ H Q I h;refine PySem.W.methodCall_KW (pl:=pl) (cN (he pins s σ H _ I h) fun u s1 ⟨x,H1,I1,rx,a,dx,fs,ex,ea,l,q⟩=>?_) ht;subst ex;obtain rfl:u=Value.ref a:=rx;refine tQ I1 ea c hm l ?_;refine A3f (first:=[.ref a]) (h₀:=X.base) I.ok.mod.kin hm.kp (cN (ha pos pins s1 σ H1 _ I1 q) fun us s2 ⟨vs,H2,I2,r,q2⟩=>⟨I2.nO,?_⟩) hst hpl
 exact tR (us:=.ref a::us) (vs:=.ref a::vs) F hr hb hd hx I2 (.cons rfl r) q2
theorem mH (he:PE X o ta) (c:Cls X.K C) (hm:Meth X.K C m f) (F:aL X.prog X.w X.K X.mg X.base CX k f fd ps sp) (hr:cH k X.A) (hb:Binds X.K fd ps ds) (hd:Vals oW ds) (hx:Passes CX X E)
  (ht:eval (.Call (.Attribute o m apos) [] [] pos) X.env=(do
   let ov <- eval o X.env
   standAt apos.atName
   let (f,first) <- holding [ov] (getMethod ov m pl)
   callWith pos f first (backTo pos (starEach [] X.env)) (backToKw pos (keywordEach [] X.env))):=by rfl) :
  PE X (.Call (.Attribute o m apos) [] [] pos) (Vz C m sp oW E ta nP):=by
 intro pins s σ H Q I h;refine PySem.W.methodCall_KW (pl:=pl) (cN (he pins s σ H _ I h) fun u s1 ⟨x,H1,I1,rx,a,dx,fs,ex,ea,l,q⟩=>?_) ht;subst ex;obtain rfl:u=Value.ref a:=rx;refine tQ I1 ea c hm l ?_;exact A3N (first:=[.ref a]) I1.nO hm.kp (tR (us:=[.ref a]) (vs:=[.ref a]) F hr hb hd hx I1 (.cons rfl .nil) q)
structure Mk (K:PySem.W.Frag) (C f:Addr):Prop where
 makes:PySem.W.makesIn K C=true
 init:PySem.W.findIn K (.ref C) "__init__"=some (some (.ref f))
 fn:PySem.W.isFn K (.ref f)=true
 kp:PySem.W.keepIn K (.ref C)=true
theorem Aa {Q:VK}{vs:List V} (M:Mk X.K C f) (F:aL X.prog X.w X.K X.mg X.base CX k f fd ps sp) (hr:cH (k+1) X.A) (hb:Binds X.K fd ps ds) (hd:Vals oW ds)
  (hx:Passes CX X E) (I:Inv X pins σ H s) (r:Vals vs us)
  (h:∀ x dx,H x=none->H dx=none->dx≠x->sp (.ref x::(vs++oW)) (upd (upd H dx (.own x)) x (.ins C dx [])) (fun v H2=>v=.non/\Q (.ref x) H2) E) :
  wpAny 0x9 X.A (call (.ref C) us) (EP X pins σ Q) X.xe s:=by
 have hq:=h 0x11 s.heap.objs.size (I.hok.fresh (A2t _)) (I.hok.fresh (A0h _)) (A0S (A4o _));have I2:=Inv.made (C:=C) I;have r2:Vals (V.ref 0x11::(vs++oW)) (Value.ref 0x11::(us++ds)):=.cons rfl (r.append hd);have hl:(Value.ref 0x11::us++ds).length=ps.length:=by
  have e:=r2.length;rw [F.len _ _ _ _ hq] at e;exact e.symm
 refine wpAny_call (LQ (f:=f) I.nO M.makes M.init (A3s.mp M.fn) (A3Q (F.run _ X.stack _ _ ⟨Value.ref 0x11::us,[]⟩ (Value.ref 0x11::(us++ds)) _ _ E (hr.make C us [])
  (I2.env0.make C us []) (hb _ (Value.ref 0x11::us) I2.nO hl) r2 hq) fun r s' hq'=>?_))
 cases r with
 | error e=>exact hx pins σ _ _ e s' I2 hq'
 | ok fl =>
  cases fl with
  | ret u =>
   obtain ⟨v,H',I3,rv,ev,q3⟩:=I2.after hq';subst ev;exact ⟨rv,⟨V.ref 0x11,H',I3,rfl,q3⟩⟩
  | next=>exact False.elim hq'
  | brk=>exact False.elim hq'
  | cont=>exact False.elim hq'
theorem rK (M:Mk X.K C f) (F:aL X.prog X.w X.K X.mg X.base CX k f fd ps sp) (hr:cH (k+1) X.A) (hg:Gl X x) (hm:X.mg x=some (.ref C)) (hb:Binds X.K fd ps ds) (hd:Vals oW ds) (hx:Passes CX X E)
  (ha:PA X (e::es) t) (hdb:0x24=false:=by decide) (he:starEach (e::es) X.env=(false,eval e X.env)::starEach es X.env:=by rfl) (hpl:(backTo pos (starEach es X.env)).any (·.1)=false:=by rfl) :
  PE X (.Call (.Name x p) (e::es) [] pos) (VB C sp oW E t):=by
 intro pins s σ H Q I h;refine A1Q (oO I hg hm ?_ hdb);refine A3f (h₀:=X.base) I.ok.mod.kin M.kp (cN (ha pos pins s σ H _ I h) fun us s1 ⟨vs,H1,I1,r,q⟩=>⟨I1.nO,?_⟩) he hpl;exact Aa M F hr hb hd hx I1 r q
theorem Mi (M:Mk X.K C f) (F:aL X.prog X.w X.K X.mg X.base CX k f fd ps sp) (hr:cH (k+1) X.A) (hg:Gl X x) (hm:X.mg x=some (.ref C)) (hb:Binds X.K fd ps ds) (hd:Vals oW ds) (hx:Passes CX X E)
  (hdb:0x24=false:=by decide):PE X (.Call (.Name x p) [] [] pos) (VB C sp oW E nP):=by
 intro pins s σ H Q I h;refine A1Q (oO I hg hm ?_ hdb);exact A3N I.nO M.kp (Aa (us:=[]) M F hr hb hd hx I .nil h)
end
def PK (X:Cx) (kws:List Keyword) (t:TA):Prop :=
 ∀ (pos:Pos) (pins:List 0x17) (s:Shared) (σ:St) (H:Hp) (Q:List V->Hp->Prop),Inv X pins σ H s->t σ H Q->wpAny 0x9 X.A (evalAll ((backToKw pos (keywordEach kws X.env)).map (·.2))) (AP X pins σ Q) X.xe s
section
variable {k:Nat}{E:XK}{x m:Str}{p kpos:Pos}{o:Expr}{kws:List Keyword}{t tk:TA}{nm:Option Str}
theorem Xk:PK X [] nP:=fun _ _ _ _ H Q I h=>wpAny_evalAll_nil ⟨[],H,I,.nil,h⟩
theorem Sy (ha:PE X e te) (hr:PK X kws t):PK X (⟨nm,e,kpos⟩::kws) (qU te t):=by
 intro pos pins s σ H Q I h
 show wpAny _ _ (evalAll ((do let v <- eval e X.env;standAt pos;pure v)::(backToKw pos (keywordEach kws X.env)).map (·.2))) _ _ s
 refine wpAny_evalAll_cons (A0a (cN (ha pins s σ H _ I h) fun u s1 ⟨x,H1,I1,r1,q1⟩=>A0a (A2Y (A0s ?_))));exact cN (hr pos pins s1 σ H1 _ I1 q1) fun us s2 ⟨xs,H2,I2,r2,q2⟩=>⟨x::xs,H2,I2,.cons r1 r2,q2⟩
structure KBinds (K:PySem.W.Frag) (fd:FuncData) (ps ks:List Str) (g:List Value->List Value->List Value) (gV:List V->List V->List V):Prop where
 to:∀ (s:Shared) (us ws:List Value),K.In s.heap->(g us ws).length=ps.length->BindsTo s fd ⟨us,ks.zip ws⟩ (ps.zip (g us ws))
 rel:∀ {vs:List V}{us:List Value}{zs:List V}{ws:List Value},Vals vs us->Vals zs ws->Vals (gV vs zs) (g us ws)
variable {g:List Value->List Value->List Value}{gV:List V->List V->List V}
end
structure aP (N P:List Str) (sc:Scope):Prop where
 kind:sc.kind=.function
 co:sc.isCoroutine=false
 gen:sc.isGenerator=false
 nd:N.Nodup
 pre:N.take P.length=P
 par:∀ x∈P,sc.names.lookup x=some .local\/sc.names.lookup x=some .cell
 Xl:∀ y∈sc.names,y.2≠.free
theorem vK {kindOf:Str->Option NameKind}{x:Str}:∀ {binds:List (Str×Value)}{m:Str->Option Value},(∀ v,(x,v)∉binds)->bindL kindOf binds m x=m x
 | [],_,_=>rfl
 | (n,v)::r,m,h=>by
  unfold bindL;rw [vK fun w hw=>h w (jT _ hw)]
  split
  ·have:x≠n:=by rintro rfl;exact h v A0o
   simp [this]
  ·rfl
theorem vL {kindOf:Str->Option NameKind}{x:Str}:∀ {binds:List (Str×Value)}{m:Str->Option Value},(∀ v,(x,v)∉binds)->bindC kindOf binds m x=m x
 | [],_,_=>rfl
 | (n,v)::r,m,h=>by
  unfold bindC;rw [vL fun w hw=>h w (jT _ hw)]
  split
  ·rfl
  ·have:x≠n:=by rintro rfl;exact h v A0o
   simp [this]
theorem vM {kindOf:Str->Option NameKind}{x:Str}{v:Value}:∀ {P:List Str}{vs:List Value}{i:Nat}{m:Str->Option Value},P.Nodup->P[i]?=some x->vs[i]?=some v->kindOf x=some .local ->
  bindL kindOf (P.zip vs) m x=some v
 | [],_,_,_,_,h,_,_=>by simp at h
 | _::_,[],_,_,_,_,h,_=>by simp at h
 | p::P,w::vs,0,m,nd,h1,h2,hk=>by
  simp at h1 h2;subst h1;subst h2
  show bindL kindOf ((p,w)::P.zip vs) m p=_
  unfold bindL;rw [vK fun v hv=>(A0T.mp nd).1 (A3d hv).1,A0i hk];simp
 | p::P,w::vs,i+1,m,nd,h1,h2,hk=>by
  show bindL kindOf ((p,w)::P.zip vs) m x=_
  unfold bindL;exact vM (i:=i) (A0T.mp nd).2 (by simpa using h1) (by simpa using h2) hk
theorem vN {kindOf:Str->Option NameKind}{x:Str}{v:Value}:∀ {P:List Str}{vs:List Value}{i:Nat}{m:Str->Option Value},P.Nodup->P[i]?=some x->vs[i]?=some v->kindOf x≠some .local ->
  bindC kindOf (P.zip vs) m x=some v
 | [],_,_,_,_,h,_,_=>by simp at h
 | _::_,[],_,_,_,_,h,_=>by simp at h
 | p::P,w::vs,0,m,nd,h1,h2,hk=>by
  simp at h1 h2;subst h1;subst h2
  show bindC kindOf ((p,w)::P.zip vs) m p=_
  unfold bindC;rw [vL fun v hv=>(A0T.mp nd).1 (A3d hv).1,A0f hk];simp
 | p::P,w::vs,i+1,m,nd,h1,h2,hk=>by
  show bindC kindOf ((p,w)::P.zip vs) m x=_
  unfold bindC;exact vN (i:=i) (A0T.mp nd).2 (by simpa using h1) (by simpa using h2) hk
def start (N:List Str) (vs:List V):St:=vs.map some++List.replicate (N.length - vs.length) none
def Dp (CX:Gy) (P:Program) (w:World) (K:PySem.W.Frag) (mg:Str->Option Value) (base:Heap) (N:List Str) (qual:Str) (scope:Scope) (f:Addr) (cd:Value) (A:Around) (outer:List Env) (s:Shared) (H:Hp) (E:XK):Cx where
 prog:=P
 w:=w
 K:=K
 mg:=mg
 base:=base
 A:=A.deeper (envOfC qual scope s.heap.objs.size f cd)
 N:=N
 s₀:=s
 H₀:=H
 env:=envOfC qual scope s.heap.objs.size f cd
 outer:=outer
 stack:=envOfC qual scope s.heap.objs.size f cd::outer
 ex:=[]
 calm:=true
 fn:=fun _=>true
 pn:=[]
 xe:=fun e s'=>wpAny (model P w) (A.deeper (envOfC qual scope s.heap.objs.size f cd)) (leaving (envOfC qual scope s.heap.objs.size f cd) e) (fun _ s''=>CX outer H s E e s'') (fun e' s''=>CX outer H s E e' s'') s'
theorem Ac {sc:Scope}{x:Str} (h:sc.names.lookup x=some .cell):∃ c,(cellsFrom n sc.names []).lookup x=some c:=by
 have q:=PySem.W.cellsFrom_some sc.names n [] (.inl h);exact A2x.mp q
theorem Jx {s1:Shared}{E:XK}{vs:List V}
  (S:aP N ps scope) (hd:A.handled=none) (e0:vB P w K mg base A outer s H) (hl:vs.length=ps.length) (r:Vals vs us)
  (x:InCallC s s.heap.objs.size (bindL (envOfC qual scope s.heap.objs.size f cd).kindOf (ps.zip us) fun _=>none) (cellsFrom 0x11 scope.names []) (bindC (envOfC qual scope s.heap.objs.size f cd).kindOf (ps.zip us) fun _=>none) s1) :
  Inv (Dp CX P w K mg base N qual scope f cd A outer s H E) [] (start N vs) H s1:=by
 have hpl:ps.length<=N.length:=by have:=A1R List.length S.pre;rw [A0G] at this;lia
 obtain ⟨h1,tk,rfl,hk⟩:=x.done;have noA:∀ b:Addr,b∉(Dp CX P w K mg base N qual scope f cd A outer s H E).ex:=fun b z=>absurd (show b∈([]:List Addr) from z) 0xA
 refine ⟨⟨e0.mod,S.kind,rfl,rfl,A0h _,fun y z c h1 h2=>?_,fun y hy=>?_,fun y c _ h=>?_,fun _=>hd,Around.frames_deeper e0.frames,.inr ⟨rfl,rfl⟩,fun b z=>absurd z (noA b),e0.bs,e0.RT,fun b _ _=>noA b,fun b z=>absurd z (noA b),e0.qu,e0.Vv⟩,
  rfl,e0.bare,Un.kept hk,⟨_,x.toInCall.ns,fun i y v h1 h2 h3=>?_⟩,fun y c h=>⟨_,x.cell y c h⟩,e0.hok.fresh (A0h _),fun y c h=>?_,fun p hp=>absurd (show p∈([]:List 0x17) from hp) 0xA,e0.hok.kept hk,?_⟩
 ·exact name_of_addr x.apart (A1x h1) (A1x h2)
 ·have hy:scope.names.lookup y=some .cell\/scope.names.lookup y=some .free:=hy;rcases hy with hy | hy
  ·exact Ac hy
  ·exact absurd rfl (S.Xl _ (A1x hy))
 ·exact A2J (x.above y c (A1x h))
 ·have hi:i<vs.length:=by
   unfold start at h2
   by_cases hi:i<vs.length
   ·exact hi
   ·rw [A0W (by simpa using hi)] at h2;rw [A3j] at h2
    split at h2 <;> cases h2
  have ha:vs[i]?=some v:=by
   unfold start at h2;rw [A1l (by simpa using hi),jQ] at h2;cases e:vs[i]? with
   | none=>rw [e] at h2;cases h2
   | some a=>rw [e] at h2;cases h2;rfl
  obtain ⟨u,hu,rv⟩:=r.get ha;have hp:ps[i]?=some y:=by
   rw [<- S.pre,List.getElem?_take_of_lt 0x3];exact h1
  have ndP:ps.Nodup:=by rw [<- S.pre];exact S.nd.sublist (List.take_sublist _ _)
  refine ⟨u,rv,?_⟩;rcases S.par y (vm hp) with k | k
  ·exact .inl ⟨k,vM ndP hp hu k⟩
  ·obtain ⟨c,e⟩:=Ac (n:=s.heap.objs.size+1) k;refine .inr ⟨.inl k,c,e,?_⟩;have q:=x.cell y c e;rw [vN ndP hp hu (by show scope.names.lookup y≠_;rw [k];decide)] at q
   exact q
 ·exact e0.hok.fresh (A2J (x.above y c (A1x h)))
 ·unfold start
  show _=N.length
  rw [gZ,cg,A1N];lia
theorem VD {k:Nat}{params:Arguments}{dV kV doc pm cdv ct oc:Value}{an od:Option Addr}
  {osl:Array (Option Value)} (lk:K.lookup f=some ⟨oc,od,.func (PySem.W.fnOf name qual params body scope dV kV doc pm an cdv ct),osl⟩) (hcd:PySem.W.codeIn K cdv qual=true) (S:aP N ps scope)
  (len:∀ vs H Q E,sp vs H Q E->vs.length=ps.length)
  (hbody:∀ (A:Around) (outer:List Env) (s:Shared) (H:Hp) (vs:List V) (Q:VK) (E:XK),cH k (A.deeper (envOfC qual scope s.heap.objs.size f cdv))->sp vs H Q E ->
   ∃ t,CV (Dp CX P w K mg base N qual scope f cdv A outer s H E) body t/\t { nx:=fun _ H'=>Q .non H',rt:=Q } (start N vs) H) :
  aL P w K mg base CX (k+1) f (PySem.W.fnOf name qual params body scope dV kV doc pm an cdv ct) ps sp:=by
 refine ⟨len,fun A outer s H args us vs Q E hr e0 hb r hsp=>?_⟩;have hl:=len _ _ _ _ hsp;have KX:K.In s.heap:=e0.mod.kin.keeps fun b o e=>(e0.bs b o e).1;have lim:s.heap.NoLimit:=e0.mod.nolimit.keeps fun b o e=>(e0.bs b o e).1;have hkind:∀ y∈ps.zip us,scope.names.lookup y.1=some .local\/(scope.names.lookup y.1=some .cell/\((cellsFrom 0x11 scope.names []).lookup y.1).isSome=true):=fun ⟨n,v⟩ hy=>by
  rcases S.par n (A3d hy).1 with q | q
  ·exact .inl q
  ·exact .inr ⟨q,PySem.W.cellsFrom_some _ _ _ (.inl q)⟩
 refine codeAny_call_function hr.depth (KX _ _ lk) rfl S.co S.gen rfl (PySem.W.codeRec_of KX hcd) (hb _ _ _ _ ?_);refine wpAny_newFunctionEnv_cells S.kind hkind fun env he s1 x=>?_;subst he;refine ⟨lim.keeps x.toInCall.keep,codeAny_func ?_⟩;obtain ⟨t,ht,hq⟩:=hbody A outer s H vs Q E (hr.deeper _) hsp;have I:Inv (Dp CX P w K mg base N qual scope f cdv A outer s H E) [] (start N vs) H s1:=Jx S hr.hd e0 hl r x;refine A1p (ht [] s1 (start N vs) H _ I hq) (fun fl s' hs=>?_) fun e s' hs=>hs;have fin:∀ {σ':St}{H':Hp}{v:V}{u:Value},Inv (Dp CX P w K mg base N qual scope f cdv A outer s H E) [] σ' H' s'->RelV v u->Q v H'->CE outer P w H s Q u s' :=
  fun {σ' H' v u} J rv q=>⟨v,H',J.os,J.bare,J.base,J.hok,rv,q⟩
 cases fl with
 | ret u =>
  obtain ⟨v,σ',H',J,rv,q⟩:=hs;exact fin J rv q
 | next =>
  obtain ⟨σ',H',J,q⟩:=hs;exact fin (v:=V.non) (u:=Value.none) J rfl q
 | brk =>
  obtain ⟨_,_,_,q⟩:=hs;exact False.elim q
 | cont =>
  obtain ⟨_,_,_,q⟩:=hs;exact False.elim q
section
variable {x:Str}{p:Pos}{t:TA}{id:String}{r:List V->Hp->VK->Prop}
def tCB (r:List V->Hp->VK->Prop) (t:TA):TE:=fun σ H Q=>t σ H fun vs H1=>r vs H1 Q
theorem bG (hc:jj X (.builtin id) r) (hg:Gl X x) (hm:X.mg x=none) (hv:bootBuiltins x=some (.builtin id)) (ha:PA X (e::es) t) (hn:x≠"__name__":=by decide) (hdb:0x24=false:=by decide)
  (he:starEach (e::es) X.env=(false,eval e X.env)::starEach es X.env:=by rfl) (hpl:(backTo pos (starEach es X.env)).any (·.1)=false:=by rfl):PE X (.Call (.Name x p) (e::es) [] pos) (tCB r t):=by
 intro pins s σ H Q I h;refine A1Q (oA I hg hm hv ?_ hn hdb);exact PyProof.Rows.callWith_builtin1 (cN (ha pos pins s σ H _ I h) fun us s1 ⟨vs,H1,I1,r1,q1⟩=>hc pins s1 σ H1 vs us Q I1 r1 q1) he hpl
theorem gW (hc:jj X (.type T) r) (hg:Gl X x) (hm:X.mg x=none) (hv:bootBuiltins x=some (.type T)) (ha:PA X (e::es) t) (hn:x≠"__name__":=by decide) (hdb:0x24=false:=by decide)
  (he:starEach (e::es) X.env=(false,eval e X.env)::starEach es X.env:=by rfl) (hpl:(backTo pos (starEach es X.env)).any (·.1)=false:=by rfl):PE X (.Call (.Name x p) (e::es) [] pos) (tCB r t):=by
 intro pins s σ H Q I h;refine A1Q (oA I hg hm hv ?_ hn hdb);exact A2j (cN (ha pos pins s σ H _ I h) fun us s1 ⟨vs,H1,I1,r1,q1⟩=>hc pins s1 σ H1 vs us Q I1 r1 q1) he hpl
end
end L2
variable {xs ys:List L2.V}{H H' H1 H2:L2.Hp}{o:L2.HO}{X:L2.Cx}{v y:L2.V}{σ:L2.St}{ta td te tl tv ty:L2.TE}{tb:L2.TS}{g:L2.TG}{du ho hs kvs lo ow:List (L2.Key×L2.V)}{wi:L2.TI}{fs':List (PySem.Str×L2.V)}{CX:L2.Gy}{sp:L2.Sp}{tt:L2.TT}{Lb:List (L2.TE×L2.TE)}{dat:PySem.Addr->List L2.V}
namespace HT
open PySem PyProof.Rows
section
open PySem.SeqAt
open PySem.AutoSeq1 (wpAny_loadPart')
open PySem.MeetsSeq PySem.MeetsSeq2 PySem.MeetsSeq3
end
def eO (n d:Nat):Option Int->Nat
 | none=>d
 | some v=>if v<0 then (v+(n:Int)).toNat else min v.toNat n
theorem jD (n d k:Nat):eO n d (some (k:Int))=min k n:=by
 show (if (k:Int)<0 then ((k:Int)+(n:Int)).toNat else min (k:Int).toNat n)=min k n
 rw [A0f 0x3,A3o]
theorem Mj (n d:Nat) (hd:d<=n) (o:Option Int):eO n d o<=n:=by
 cases o with
 | none=>exact hd
 | some v =>
  show (if v<0 then (v+(n:Int)).toNat else min v.toNat n)<=n
  by_cases hv:v<0
  ·rw [A0i hv];lia
  ·rw [A0f hv];exact Nat.min_le_right _ _
theorem GC (v:Int) (n d:Nat):(if v<0 then max (v+(n:Int)) 0 else min v (n:Int))=((eO n d (some v):Nat):Int):=by
 show (if v<0 then max (v+(n:Int)) 0 else min v (n:Int))=(((if v<0 then (v+(n:Int)).toNat else min v.toNat n):Nat):Int)
 by_cases hv:v<0
 ·simp only [A0i hv];lia
 ·simp only [A0f hv];lia
theorem Dr (lo hi:Option Int) (n:Nat):Builtin.Slice.sliceAdjust lo hi 1 (n:Int)=(((eO n 0 lo:Nat):Int),((eO n n hi:Nat):Int)):=by
 have h1:¬ ((1:Int)<0):=by lia
 unfold Builtin.Slice.sliceAdjust;simp only [h1,A2R];refine Prod.ext ?_ ?_
 ·cases lo with
  | none=>rfl
  | some v=>exact GC v n 0
 ·cases hi with
  | none=>rfl
  | some v=>exact GC v n n
theorem Ds (i j:Nat):Builtin.Slice.slicePlaces (i:Int) (j:Int) 1=j - i:=by
 unfold Builtin.Slice.slicePlaces;have h1:(1:Int) > 0:=by lia
 simp only [h1,A2U,Int.ediv_one]
 split <;> lia
theorem tU {v:Value}{o:Option Int}{Q:Option Int->Shared->Prop} (p:IsPart v o) (h:Q o s):wpAny 0x14 A (Builtin.Slice.slicePartIndex v) Q E s:=by
 cases p with
 | none=>exact slicePart_none h
 | int i t=>exact slicePart_int h
theorem jX {lo:Option Int}{Q:Int×Int×Nat->Shared->Prop} (hs:s.heap.IsSliceOf sl vl vu .none) (pl:IsPart vl lo) (pu:IsPart vu hi)
  (h:Q (((eO n 0 lo:Nat):Int),1,eO n n hi - eO n 0 lo) s):wpAny 0x14 A (Builtin.Slice.sliceApplied (.ref sl) (pure (n:Int))) Q E s:=by
 obtain ⟨os,hos,hcs,hds⟩:=id hs;unfold Builtin.Slice.sliceApplied Builtin.Slice.sliceFields;refine A0a (A0a (A1L hos hds (x:=vl) rfl (A0a (A1L hos hds (x:=vu) rfl (A0a (A1L hos hds (x:=.none) rfl (A0s ?_)))))));refine A0a (slicePart_none ?_)
 show wpAny _ _ (if ((1:Int)==0)=true then _ else _) _ _ s
 rw [A0f 0x6];refine A0a (tU pl (A0a (tU pu (A0a (A0s ?_)))))
 show wpAny _ _ (match Builtin.Slice.sliceAdjust lo hi 1 (n:Int) with | (lo,hi)=>pure (lo,(1:Int),Builtin.Slice.slicePlaces lo hi 1)) _ _ s
 rw [Dr lo hi n]
 show wpAny _ _ (pure (((eO n 0 lo:Nat):Int),(1:Int),Builtin.Slice.slicePlaces ((eO n 0 lo:Nat):Int) ((eO n n hi:Nat):Int) 1)) _ _ s
 rw [Ds];exact A0s h
theorem Ml (xs:Array Value) (i k:Nat):((List.range k).filterMap fun (m:Nat)=>xs[((i:Int)+(m:Int) * 1).toNat]?).toArray=((xs.toList.drop i).take k).toArray:=by
 have e:(fun (m:Nat)=>xs[((i:Int)+(m:Int) * 1).toNat]?)=fun m=>xs[i+m]?:=by
  funext m
  have:((i:Int)+(m:Int) * 1).toNat=i+m:=by lia
  rw [this]
 rw [e];have:=pick_run xs i k;rw [List.filterMap_map] at this;have e2:((fun x=>xs[x]?)∘fun x=>i+x)=fun m=>xs[i+m]?:=rfl;rw [e2] at this;rw [this]
theorem oX {items:Array Value}{lo:Option Int} (ht:IsTup s.heap t items) (hs:s.heap.IsSliceOf sl vl vu .none) (pl:IsPart vl lo) (pu:IsPart vu hi)
  (hw:¬ (eO items.size 0 lo=0/\eO items.size items.size hi=items.size))
  (h:Q (.ref s.heap.objs.size) { s with heap:=s.heap.push { cls:=.type "tuple",data:=.seq (0x36).toArray } })
  (hsz:items.size<=sizeLine):wpAny 0x14 A (getItem (.ref t) (.ref sl)) Q E s:=by
 have GD:sizeOk (.seq (0x36).toArray):=by
  show (0x36).toArray.size<=sizeLine
  rw [A0u,A0G,A1t,A1w];lia
 have hj:eO items.size items.size hi<=items.size:=Mj _ _ (A0h _) hi;obtain ⟨os,hos,hcs,hds⟩:=id hs;have hTs:s.TypeIs (.ref sl) "slice":=⟨os,hos,hcs⟩;unfold getItem
 try with_reducible refine A2Z ?_
 first | refine A0a (A0s ?_) | skip
 refine A0a (wpAny_sequenceKey ht.typeIs 0x6 ?_);refine A0a (A1z (name:=Str.ofString "__getitem__") ht.typeIs A1o
  (A1Y A1o ht.typeIs entry_tuple_getitem ?_ (args_tuple_getitem _ _)))
 show wpAny _ _ (Builtin.Tuple.tupleItemsOf (.ref t) >>= _) _ _ s
 refine A0a (tupleItemsOf_ ht ?_);refine A0a (wpAny_typeOf hTs ?_);rw [A0i 0x6];refine A0a (jX hs pl pu ?_);have hno:¬ (0x15=true):=by
  intro q;rw [A1b,A1b] at q;have q1:((eO items.size 0 lo:Nat):Int)=0:=A3T q.1.1;have q2:eO items.size items.size hi - eO items.size 0 lo=items.size:=A3T q.2;exact hw ⟨by lia,by lia⟩
 show wpAny _ _ (if 0x15=true then _ else _) _ _ s
 rw [A0f hno,Ml]
 first
  | exact A0a (m:=Builtin.Tuple.tupleExact _) (A2d (A0s ⟨_,rfl,A0s h⟩) GD)
  | exact A0a (m:=Builtin.Tuple.tupleExact _) (A2d (A0a (A0s (A0s ⟨_,rfl,A0s h⟩))) GD)
  | exact A0a (A0a (m:=Builtin.Tuple.tupleExact _) (A2d (A0s (A0s ⟨_,rfl,A0s h⟩)) GD))
  | exact A0a (A0a (m:=Builtin.Tuple.tupleExact _) (A2d (A0s ⟨_,rfl,A0s h⟩) GD))
end HT
namespace L2
open PySem PySem.Spec PyProof.Rows
abbrev TO:=St->Hp->(Option Int->Hp->Prop)->Prop
def PO (X:Cx) (e:Option Expr) (t:TO):Prop :=
 ∀ (pins:List 0x17) (s:Shared) (σ:St) (H:Hp) (Q:Option Int->Hp->Prop),Inv X pins σ H s->t σ H Q ->
  wpAny 0x9 X.A (evalPart e X.env) (fun u s'=>∃ o H',Inv X pins σ H' s'/\IsPart u o/\Q o H') X.xe s
def SJ:TO:=fun _ H Q=>Q none H
inductive GJ (Q:Option Int->Hp->Prop) (x:V) (H1:Hp):Prop
 | mk (i:Int) (_:x=.int i) (_:Q (some i) H1):GJ Q x H1
def a0h (t:TE):TO:=fun σ H Q=>t σ H fun x H1=>GJ Q x H1
section
variable {lo hi:Option Expr}{tl th:TO}{p2:Pos}
theorem fV:PO X none SJ:=by
 intro pins s σ H Q I h;rw [evalPart_none];exact A0s ⟨none,H,I,.none,h⟩
theorem cD (h:PE X e te):PO X (some e) (a0h te):=by
 intro pins s σ H Q I hw;rw [evalPart_some];refine cN (h pins s σ H _ I hw) fun u s1 zq=>?_;obtain ⟨x,H1,I1,r1,q1⟩:=zq;obtain ⟨i,rfl,q⟩:=q1;obtain ⟨t,rfl⟩:=r1;exact ⟨some i,H1,I1,.int i t,q⟩
inductive VF (X:Cx) (pins:List (Prod Addr Obj)) (s:Shared) (σ:L2.St) (v:Value) (sl:Addr) (Q:VK):Prop
 | mk (T id:String) (_:typeLookup (.type T) "__getitem__"=pure (some (.builtin id))) (_:s.TypeIs v T) (_:wpAny 0x9 X.A (getItem v (.ref sl)) (EP X pins σ Q) X.xe s):VF X pins s σ v sl Q
def SlR (X:Cx) (r:V->Option Int->Option Int->Hp->VK->Prop):Prop :=
 ∀ (pins:List 0x17) (s:Shared) (σ:St) (H:Hp) (x:V) (v vl vu:Value) (lo hi:Option Int) (sl:Addr) (Q:VK),Inv X pins σ H s->RelV x v->s.heap.IsSliceOf sl vl vu .none->IsPart vl lo->IsPart vu hi->r x lo hi H Q ->
  VF X pins s σ v sl Q
def tSl (r:V->Option Int->Option Int->Hp->VK->Prop) (te:TE) (tl th:TO):TE:=fun σ H Q=>te σ H fun x H1=>tl σ H1 fun l H2=>th σ H2 fun u H3=>r x l u H3 Q
theorem eV {r:V->Option Int->Option Int->Hp->VK->Prop} (hr:SlR X r) (he:PE X e te) (hl:PO X lo tl) (hu:PO X hi th):PE X (.Subscript e (.Slice lo hi none p2) pos) (tSl r te tl th):=by
 intro pins s σ H Q I h;refine Subscript_ (cN (he pins s σ H _ I h) fun v s1 zq=>?_);obtain ⟨x,H1,I1,r1,q1⟩:=zq;refine wpAny_Slice (cN (hl pins s1 σ H1 _ I1 q1) fun vl s2 ⟨l,H2,I2,pl,q2⟩=>cN (hu pins s2 σ H2 _ I2 q2) fun vu s3 zq=>?_);obtain ⟨u,H3,I3,pu,q3⟩:=zq;rw [evalPart_none];refine A0s ?_;have I4:Inv X pins σ H3 { s3 with heap:=s3.heap.push { cls:=.type "slice",data:=.fields #[vl,vu,.none] } }:=I3.kept (t':=s3.toks) fun b ob q=>A0c _ q;obtain ⟨T,id,hT,ht,hg⟩:=hr pins { s3 with heap:=s3.heap.push { cls:=.type "slice",data:=.fields #[vl,vu,.none] } } σ H3 x v vl vu l u s3.heap.objs.size Q I4 r1 (Heap.IsSliceOf.new ..) pl pu q3
 show wpAny 0x9 X.A (subscriptTail e (.Slice lo hi none p2) v (.ref s3.heap.objs.size)) (EP X pins σ Q) X.xe { s3 with heap:=s3.heap.push { cls:=.type "slice",data:=.fields #[vl,vu,.none] } }
 exact tail_any (ops:=[.ref s3.heap.objs.size,v]) ht hT hg 0xE
def ig (xs:List V) (lo hi:Option Int):List V:=(xs.drop (HT.eO xs.length 0 lo)).take (HT.eO xs.length xs.length hi - HT.eO xs.length 0 lo)
theorem jE (xs:List V) (lo hi:Option Int):(ig xs lo hi).length<=xs.length:=by
 unfold ig;rw [A0G,A1t];lia
inductive rSlT (K:W.Frag) (x:V) (lo hi:Option Int) (H:Hp) (Q:VK):Prop
 | mk (a:Addr) (xs:List V) (_:x=.ref a) (_:bZ K H a xs) (_:¬ (HT.eO xs.length 0 lo=0/\HT.eO xs.length xs.length hi=xs.length)) (_:∀ p,H p=none->Q (.ref p) (upd H p (.tup (ig xs lo hi)))):rSlT K x lo hi H Q
theorem Xm:SlR X (rSlT X.K):=by
 intro pins s σ H x v vl vu lo hi sl Q I rx hs pl pu h;obtain ⟨a,xs,rfl,hx,hw,q⟩:=h;cases rx;obtain ⟨its,r,ht,hz⟩:=I.tuple hx;have hlen:its.toArray.size=xs.length:=by rw [A0u];exact r.length.symm
 refine ⟨"tuple",_,A1o.lookup,ht.typeIs,?_⟩;refine HT.oX ht hs pl pu (by rw [hlen];exact hw) ?_ (by rw [hlen];exact hz);rw [hlen];refine ⟨.ref s.heap.objs.size,_,I.laid (t':=s.toks) (o:=.tup (ig xs lo hi)) (fun b ob q=>A0c _ q) (A0h _) ?_,rfl,q _ (I.hok.fresh (A0h _))⟩;exact ⟨A0M (jE xs lo hi) hz,_,(r.drop (HT.eO xs.length 0 lo)).take (HT.eO xs.length xs.length hi - HT.eO xs.length 0 lo),IsTup.new _ _⟩
end
def VG (n:Nat) (i:Int):Option Nat:=if 0<=i then (if i<n then some i.toNat else none) else if -(n:Int)<=i then some (i+n).toNat else none
def vq {α:Type} (xs:List α) (i:Int):Option α:=(VG xs.length i).bind fun j=>xs[j]?
theorem SM {i:Int} (h:VG n i=some j):seqIndex? i n=some j/\j<n/\-(n:Int)<=i/\i<n:=by
 unfold VG at h
 by_cases h0:0<=i
 ·rw [A0i h0] at h
  by_cases h1:i<n
  ·rw [A0i h1] at h;have e:i.toNat=j:=A0V h;exact ⟨by rw [seqIndex_of h0 h1,e],by lia,by lia,h1⟩
  ·rw [A0f h1] at h;cases h
 ·rw [A0f h0] at h
  by_cases h1:-(n:Int)<=i
  ·rw [A0i h1] at h;have e:(i+n).toNat=j:=A0V h;exact ⟨by rw [seqIndex_neg 0x3 h1,e],by lia,h1,by lia⟩
  ·rw [A0f h1] at h;cases h
theorem xJ {α:Type}{xs:List α}{i:Int}{v:α} (h:vq xs i=some v):∃ j,seqIndex? i xs.length=some j/\xs[j]?=some v/\j<xs.length/\-(xs.length:Int)<=i/\i<xs.length:=by
 unfold vq at h;cases e:VG xs.length i with
 | none=>rw [e] at h;cases h
 | some j =>
  rw [e] at h;obtain ⟨h1,h2,h3,h4⟩:=SM e;exact ⟨j,h1,h,h2,h3,h4⟩
theorem aJ {α:Type}{xs:List α}{v:α} (h:xs[j]?=some v):vq xs (j:Int)=some v:=by
 have hj:j<xs.length:=(A0j.mp h).1;have e:VG xs.length (j:Int)=some j:=by
  unfold VG;rw [A0i 0x3,A0i 0x3];simp
 unfold vq;rw [e];exact h
theorem Ae {α:Type} (xs:List α) (v:α):vq (xs++[v]) (-1)=some v:=by
 have hl:(xs++[v]).length=xs.length+1:=by simp
 have e:VG (xs++[v]).length (-1)=some xs.length:=by
  unfold VG;rw [hl,A0f 0x6,A0i 0x3]
  congr 1
  lia
 unfold vq;rw [e]
 show (xs++[v])[xs.length]?=some v
 simp
def SN (b:Expr):Prop:=∀ o i,subscripted b false o i=operate [o,i] (getItem o i)
def Xn (X:Cx) (r:R2):Prop :=
 ∀ (value slice:Expr) (pins:List 0x17) (s:Shared) (σ:St) (H:Hp) (x y:V) (v u:Value) (Q:VK),Inv X pins σ H s->RelV x v->RelV y u->r x y H Q ->
  subscripted slice false v u=operate [v,u] (getItem v u)->wpAny 0x9 X.A (subscriptTail value slice v u) (EP X pins σ Q) X.xe s
def MtR (X:Cx) (id:String) (r:V->List V->Hp->VK->Prop):Prop :=
 ∀ (pins:List 0x17) (s:Shared) (σ:St) (H:Hp) (x:V) (xs:List V) (v:Value) (us:List Value) (Q:VK),Inv X pins σ H s->RelV x v->Vals xs us->r x xs H Q ->
  wpAny 0x9 X.A (call (.builtin id) (v::us)) (EP X pins σ Q) X.xe s
section
variable {a b:Expr}{tb:TE}
theorem aN {r:R2} (hr:Xn X r) (ha:PE X a ta) (hb:PE X b tb) (hs:SN b):PE X (.Subscript a b pos) (tOp r ta tb):=by
 intro pins s σ H Q I h;exact Subscript_ (Xc ha hb I h fun v u s2 x y H2 I2 rx ry q=>hr a b pins s2 σ H2 x y v u Q I2 rx ry q (hs _ _))
inductive Xo (K:W.Frag) (x y:V) (H:Hp) (Q:VK):Prop
 | mk (p:Addr) (xs:List V) (i:Int) (v:V) (_:x=.ref p) (_:y=.int i) (_:bR K H p xs) (_:vq xs i=some v) (_:Q v H):Xo K x y H Q
inductive Xp (K:W.Frag) (x y:V) (H:Hp) (Q:VK):Prop
 | mk (p:Addr) (xs:List V) (i:Int) (v:V) (_:x=.ref p) (_:y=.int i) (_:bZ K H p xs) (_:vq xs i=some v) (_:Q v H):Xp K x y H Q
inductive rIxS (x y:V) (H:Hp) (Q:VK):Prop
 | mk (z:Str) (i:Int) (c:Nat) (_:x=.str z) (_:y=.int i) (_:z.length<=sizeLine) (_:vq z.cps.toList i=some c) (_:Q (.str ⟨#[c]⟩) H):rIxS x y H Q
theorem bD:Xn X (Xo X.K):=by
 intro value slice pins s σ H x y v u Q I rx ry h hs;obtain ⟨p,xs,i,z,rfl,rfl,hq,he,q⟩:=h;cases rx;obtain ⟨t,rfl⟩:=ry;obtain ⟨its,r,pl,hz⟩:=I.list hq;obtain ⟨j,h1,h2,h3,h4,h5⟩:=xJ he;obtain ⟨w,ew,cO⟩:=r.get h2;have hl:=r.length;have hn:=tM;have fin:EP X pins σ Q w s:=⟨z,H,I,cO,q⟩
 by_cases h0:0<=i
 ·have hj:i.toNat=j:=by
   rw [seqIndex_of h0 h5] at h1;exact A0V h1
  exact item_listR pl.isList h0 0x3 (by rw [hj];simpa using ew) fin hs
 ·have hj:(i+(its.toArray.size:Int)).toNat=j:=by
   rw [seqIndex_neg 0x3 h4] at h1;rw [A0u,<- hl];exact A0V h1
  exact subscriptTail_builtinR (x:=w) pl.isList.typeIs A4d.lookup
   (wpAny_getItem_list_neg (Q:=fun r s'=>r=w/\EP X pins σ Q r s') pl.isList 0x3 (by rw [A0u] <;> lia) 0x3 (by rw [hj];simpa using ew) ⟨rfl,fin⟩) hs
theorem bA:Xn X (Xp X.K):=by
 intro value slice pins s σ H x y v u Q I rx ry h hs;obtain ⟨p,xs,i,z,rfl,rfl,hq,he,q⟩:=h;cases rx;obtain ⟨t,rfl⟩:=ry;obtain ⟨its,r,pl,hz⟩:=I.tuple hq;obtain ⟨j,h1,h2,h3,h4,h5⟩:=xJ he;obtain ⟨w,ew,cO⟩:=r.get h2;have hl:=r.length;have hn:=tM;have fin:EP X pins σ Q w s:=⟨z,H,I,cO,q⟩;exact subscriptTail_builtinR (x:=w) pl.typeIs slot_tuple_getitem.lookup
  (getItem_tuple (j:=j) (Q:=fun r s'=>r=w/\EP X pins σ Q r s') pl 0x3 0x3 (by rw [A0u,<- hl];exact h1) (by simpa using ew) ⟨rfl,fin⟩) hs
theorem Mp:Xn X rIxS:=by
 intro value slice pins s σ H x y v u Q I rx ry h hs;obtain ⟨z,i,c,rfl,rfl,hz,he,q⟩:=h;obtain ⟨t,rfl⟩:=rx;obtain ⟨t',rfl⟩:=ry;obtain ⟨j,h1,h2,h3,h4,h5⟩:=xJ he;have hl:z.cps.toList.length=z.length:=by simp [Str.length]
 rw [hl] at h1 h4 h5;have hn:=tM;exact tail_any (typeIs_str s z t) slot_str_getitem.lookup (getItem_str (c:=c) (by
  have e1:decide (i < -(2 ^ 63:Int))=false:=A0n 0x3;have e2:decide (i>=2 ^ 63)=false:=A0n 0x3;rw [e1,e2,Bool.or_false]) (by rw [h1];simpa using h2) ⟨.str ⟨#[c]⟩,H,I.tok _,⟨_,rfl⟩,q⟩) hs
theorem xK (lo hi:Option Int) (n:Nat):(sliceBounds lo hi none n).1=((HT.eO n 0 lo:Nat):Int)/\(sliceBounds lo hi none n).2.1=((HT.eO n n hi:Nat):Int)/\(sliceBounds lo hi none n).2.2=1:=by
 refine ⟨?_,?_,rfl⟩
 ·cases lo with
  | none=>simp [sliceBounds,HT.eO]
  | some i =>
   simp only [sliceBounds,HT.eO,Option.getD_none,show (1:Int) > 0 by decide,A2U]
   by_cases h:i<0
   ·simp only [h,A2U] <;> lia
   ·simp only [h,A2R] <;> lia
 ·cases hi with
  | none=>simp [sliceBounds,HT.eO]
  | some i =>
   simp only [sliceBounds,HT.eO,Option.getD_none,show (1:Int) > 0 by decide,A2U]
   by_cases h:i<0
   ·simp only [h,A2U] <;> lia
   ·simp only [h,A2R] <;> lia
theorem vC (its:List Value) (lo hi:Option Int):slicePick its.toArray lo hi none=((its.drop (HT.eO its.length 0 lo)).take (HT.eO its.length its.length hi - HT.eO its.length 0 lo)).toArray:=by
 obtain ⟨h1,h2,h3⟩:=xK lo hi its.toArray.size;unfold slicePick;rw [h1,h2,h3];simp only [sliceRange_one,pick_run,A0u] <;> rfl
inductive rSlL (K:W.Frag) (x:V) (lo hi:Option Int) (H:Hp) (Q:VK):Prop
 | mk (a:Addr) (xs:List V) (_:x=.ref a) (_:bR K H a xs) (_:∀ p,H p=none->Q (.ref p) (upd H p (.lst (ig xs lo hi)))):rSlL K x lo hi H Q
theorem jF:SlR X (rSlL X.K):=by
 intro pins s σ H x v vl vu lo hi sl Q I rx hs pl pu h;obtain ⟨a,xs,rfl,hx,q⟩:=h;cases rx;obtain ⟨its,r,ht,hz⟩:=I.list hx;have hlen:=r.length;refine ⟨"list",_,A4d.lookup,ht.isList.typeIs,?_⟩;refine wpAny_getItem_list_slice ht.isList hs pl pu .none 0xA ?_ (by rw [A0u] <;> lia);rw [vC,<- hlen];refine ⟨.ref s.heap.objs.size,_,I.laid (t':=s.toks) (o:=.lst (ig xs lo hi)) (fun b ob q=>A0c _ q) (A0h _) ?_,rfl,q _ (I.hok.fresh (A0h _))⟩;exact ⟨A0M (jE xs lo hi) hz,_,0,(r.drop (HT.eO xs.length 0 lo)).take (HT.eO xs.length xs.length hi - HT.eO xs.length 0 lo),A0y _ rfl⟩
def oY:V->Bool
 | .non=>true
 | .bl _=>true
 | .int _=>true
 | .str _=>true
 | _=>false
def VH:V->V->Bool
 | .non,.non=>true
 | .bl a,.bl b=>a==b
 | .bl a,.int b=>(if a then 1 else 0)==b
 | .int a,.bl b=>a==(if b then 1 else 0)
 | .int a,.int b=>a==b
 | .str a,.str b=>a==b
 | _,_=>false
theorem Xq {x:V}{v:Value} (ry:RelV y u) (rx:RelV x v) (fy:oY y=true) (fx:oY x=true):SeqAt.EqAt A s u v (VH y x):=by
 cases y with
 | non =>
  cases ry;cases x with
  | non=>cases rx;exact SeqAt.EqAt.same _
  | bl b=>cases rx;exact SeqAt.EqAt.none_bool b
  | int b=>obtain ⟨t,rfl⟩:=rx;exact SeqAt.EqAt.none_int b t
  | str b=>obtain ⟨t,rfl⟩:=rx;exact SeqAt.EqAt.none_str b t
  | _=>exact absurd (show false=true from fx) A0p
 | bl a =>
  cases ry;cases x with
  | non=>cases rx;exact SeqAt.EqAt.bool_none a
  | bl b=>cases rx;exact SeqAt.EqAt.bool_bool a b
  | int b=>obtain ⟨t,rfl⟩:=rx;exact SeqAt.EqAt.bool_int a b t
  | str b=>obtain ⟨t,rfl⟩:=rx;exact SeqAt.EqAt.bool_str a b t
  | _=>exact absurd (show false=true from fx) A0p
 | int a =>
  obtain ⟨t',rfl⟩:=ry;cases x with
  | non=>cases rx;exact SeqAt.EqAt.int_none a t'
  | bl b=>cases rx;exact SeqAt.EqAt.int_bool a t' b
  | int b=>obtain ⟨t,rfl⟩:=rx;exact SeqAt.EqAt.int_int a t' b t
  | str b=>obtain ⟨t,rfl⟩:=rx;exact A3U a t' b t
  | _=>exact absurd (show false=true from fx) A0p
 | str a =>
  obtain ⟨t',rfl⟩:=ry;cases x with
  | non=>cases rx;exact SeqAt.EqAt.str_none a t'
  | bl b=>cases rx;exact SeqAt.EqAt.str_bool a t' b
  | int b=>obtain ⟨t,rfl⟩:=rx;exact A3V a t' b t
  | str b=>obtain ⟨t,rfl⟩:=rx;exact A3Y a t' b t
  | _=>exact absurd (show false=true from fx) A0p
 | _=>exact absurd (show false=true from fy) A0p
def Dt (x:V) (u:Value):Bool:=match u with
 | .none=>VH .non x
 | .bool b=>VH (.bl b) x
 | .int i _=>VH (.int i) x
 | .str z _=>VH (.str z) x
 | _=>false
theorem Mq {x:V} (r:RelV y u) (f:oY y=true):Dt x u=VH y x:=by
 cases y with
 | non=>cases r;rfl
 | bl b=>cases r;rfl
 | int i=>obtain ⟨t,rfl⟩:=r;rfl
 | str z=>obtain ⟨t,rfl⟩:=r;rfl
 | _=>exact absurd (show false=true from f) A0p
theorem oZ {x:V}:∀ {xs:List V}{us:List Value},Vals xs us->xs.all oY=true->us.any (Dt x)=xs.any fun y=>VH y x
 | _,_,.nil,_=>rfl
 | y::xs,u::us,.cons r t,f=>by
  rw [A2k,A1b] at f;rw [A2l,A2l,Mq r f.1,oZ t f.2]
theorem mJ {x:V}{v:Value} (rx:RelV x v) (fx:oY x=true):∀ {xs:List V}{us:List Value},Vals xs us->xs.all oY=true->∀ u∈us,SeqAt.EqAt A s u v (Dt x u)
 | _,_,.nil,_=>fun u hu=>by cases hu
 | y::xs,u::us,.cons r t,f=>fun u' hu=>by
  rw [A2k,A1b] at f;rcases A0d.mp hu with rfl | hu
  ·rw [Mq r f.1];exact Xq r rx f.1 fx
  ·exact mJ rx fx t f.2 u' hu
def inV (x:V) (xs:List V):Bool:=xs.any fun y=>VH y x
inductive rIn (K:W.Frag) (neg:Bool) (x y:V) (H:Hp) (Q:VK):Prop
 | mk (p:Addr) (xs:List V) (_:y=.ref p) (_:(bR K H p xs\/bZ K H p xs)) (_:oY x=true) (_:xs.all oY=true) (_:Q (.bl (if neg then !inV x xs else inV x xs)) H):rIn K neg x y H Q
theorem gF:mq X (compareOp .In) (rIn X.K false):=by
 intro pins s σ H x y v u Q I rx ry h;obtain ⟨p,xs,rfl,hq,fx,fs,q⟩:=h;cases ry;rcases hq with hq | hq
 ·obtain ⟨its,r,pl,hz⟩:=I.list hq;refine SeqAt.in_listAt (Dt x) pl.isList (fun w hw=>mJ rx fx r fs w (by simpa using hw)) ⟨.bl _,H,I,rfl,?_⟩;rw [show its.toArray.any (Dt x)=its.any (Dt x) by simp,oZ r fs]
  exact q
 ·obtain ⟨its,r,pl,hz⟩:=I.tuple hq;refine SeqAt.in_tupleAt (Dt x) pl (fun w hw=>mJ rx fx r fs w (by simpa using hw)) ⟨.bl _,H,I,rfl,?_⟩;rw [show its.toArray.any (Dt x)=its.any (Dt x) by simp,oZ r fs]
  exact q
theorem lD:mq X (compareOp .NotIn) (rIn X.K true):=by
 intro pins s σ H x y v u Q I rx ry h;obtain ⟨p,xs,rfl,hq,fx,fs,q⟩:=h;cases ry;rcases hq with hq | hq
 ·obtain ⟨its,r,pl,hz⟩:=I.list hq;refine SeqAt.notIn_listAt (Dt x) pl.isList (fun w hw=>mJ rx fx r fs w (by simpa using hw)) ⟨.bl _,H,I,rfl,?_⟩;rw [show its.toArray.any (Dt x)=its.any (Dt x) by simp,oZ r fs]
  exact q
 ·obtain ⟨its,r,pl,hz⟩:=I.tuple hq;refine SeqAt.notIn_tupleAt (Dt x) pl (fun w hw=>mJ rx fx r fs w (by simpa using hw)) ⟨.bl _,H,I,rfl,?_⟩;rw [show its.toArray.any (Dt x)=its.any (Dt x) by simp,oZ r fs]
  exact q
theorem cI:jj X (.builtin "len") (fun xs H Q=>∃ p ys,xs=[.ref p]/\(bR X.K H p ys\/bZ X.K H p ys)/\Q (.int ys.length) H):=by
 intro pins s σ H xs us Q I r h;obtain ⟨p,ys,rfl,hq,q⟩:=h;obtain ⟨u,rfl,rx⟩:=vals1 r;cases rx;have hn:=tM;rcases hq with hq | hq
 ·obtain ⟨its,r',pl,hz⟩:=I.list hq;have hlen:=r'.length;exact Calls.call_len_list pl.isList (by simp only [A0u] <;> lia) ⟨.int ys.length,H,I.tok _,⟨s.toks+1,by rw [A0u,hlen]⟩,q⟩
 ·obtain ⟨its,r',pl,hz⟩:=I.tuple hq;have hlen:=r'.length;exact len_tuple pl (by simp only [A0u] <;> lia) ⟨.int ys.length,H,I.tok _,⟨s.toks+1,by rw [A0u,hlen]⟩,q⟩
theorem xO:jj X (.builtin "len") (fun xs H Q=>∃ z,xs=[.str z]/\z.length<=sizeLine/\Q (.int z.length) H):=by
 intro pins s σ H xs us Q I r h;obtain ⟨z,rfl,hz,q⟩:=h;obtain ⟨u,rfl,t,rfl⟩:=vals1 r;have hn:=tM;exact len_str 0x3 ⟨.int z.length,H,I.tok _,⟨_,rfl⟩,q⟩
theorem xP:jj X (.type "list") (fun xs H Q=>∃ p ys,xs=[.ref p]/\(bR X.K H p ys\/bZ X.K H p ys)/\∀ l,H l=none->Q (.ref l) (upd H l (.lst ys))):=by
 intro pins s σ H xs us Q I r h;obtain ⟨p,ys,rfl,hq,q⟩:=h;obtain ⟨u,rfl,rx⟩:=vals1 r;cases rx;have fin:∀ (its:List Value),Vals ys its->ys.length<=sizeLine->∀ (h':Heap) (c':Nat),(∀ b o',s.heap.get? b=some o'->h'.get? b=some o') ->
   h'.get? s.heap.objs.size=some { cls:=.type "list",dict:=none,data:=.seq its.toArray c',slots:=#[] }->EP X pins σ Q (.ref s.heap.objs.size) { s with heap:=h' }:=fun its r' hz h' c' kp e =>
  ⟨.ref s.heap.objs.size,_,I.laid (t':=s.toks) kp (A0h _) (show dW X.prog X.w _ h' _ (.lst ys) from ⟨hz,its,c',r',e⟩),rfl,q _ (I.hok.fresh (A0h _))⟩
 rcases hq with hq | hq
 ·obtain ⟨its,r',pl,hz⟩:=I.list hq;have hlen:=r'.length;obtain ⟨o,ho,hc,n,hd⟩:=pl.isList;exact call_list_seq p (.inl rfl) ho hc hd (fun h' c' kp e=>fin its r' hz h' c' kp e) (by simp only [A0u] <;> lia)
 ·obtain ⟨its,r',pl,hz⟩:=I.tuple hq;have hlen:=r'.length;obtain ⟨o,ho,hc,n,hd⟩:=pl;exact call_list_seq p (.inr rfl) ho hc hd (fun h' c' kp e=>fin its r' hz h' c' kp e) (by simp only [A0u] <;> lia)
def tyV (K:PySem.W.Frag) (T:String) (x:V) (H:Hp):Prop:=match x with
 | .str _=>T="str"
 | .int _=>T="int"
 | .ref p=>(T="list"/\∃ xs,bR K H p xs)\/(T="tuple"/\∃ o,K.lookup p=some o/\o.cls=.type "tuple"/\o.dict=none) \/
   (T="dict"/\((∃ kvs,H p=some 0x13)\/∃ kvs,H p=some (.dT kvs)))\/(T="set"/\∃ S n,H p=some (.set S n))
 | _=>False
theorem Mr {x:V}{v:Value} (I:Inv X pins σ H s) (r:RelV x v) (ty:tyV X.K T x H) :
  s.TypeIs v T/\∀ a,v=.ref a->∃ ob,s.heap.get? a=some ob/\ob.dict=none:=by
 cases x with
 | str z =>
  obtain ⟨t,rfl⟩:=r;cases (show T="str" from ty)
  exact ⟨typeIs_str s z t,fun _ e=>nomatch e⟩
 | int i =>
  obtain ⟨t,rfl⟩:=r;cases (show T="int" from ty)
  exact ⟨typeIs_int s i t,fun _ e=>nomatch e⟩
 | ref p =>
  cases r;rcases ty with ⟨rfl,xs,hq⟩ | ⟨rfl,o,hk,hc,hd⟩ | ⟨rfl,hk⟩ | ⟨rfl,S,n,hk⟩
  ·obtain ⟨its,_,pl,_⟩:=I.list hq;refine ⟨pl.isList.typeIs,fun a e=>?_⟩;cases e;obtain ⟨o,n,e,c,hd,_⟩:=pl;exact ⟨o,e,hd⟩
  ·refine ⟨⟨o,I.nO p o hk,hc⟩,fun a e=>?_⟩;cases e;exact ⟨o,I.nO _ o hk,hd⟩
  ·have z:∃ o,s.heap.get? p=some o/\o.ExactDict:=by
    rcases hk with ⟨kvs,hk⟩ | ⟨kvs,hk⟩
    ·obtain ⟨_,_,_,_,o,_,_,e,ex,_⟩:=I.hok p _ hk;exact ⟨o,e,ex⟩
    ·obtain ⟨_,_,_,_,o,_,_,e,ex,_⟩:=I.hok p _ hk;exact ⟨o,e,ex⟩
   obtain ⟨o,e,ex⟩:=z;refine ⟨⟨o,e,ex.1⟩,fun a e2=>?_⟩;cases e2;exact ⟨o,e,ex.2.1⟩
  ·obtain ⟨o,_,_,_,e,ex,_⟩:=I.hok p _ hk;refine ⟨⟨o,e,ex.1⟩,fun a e2=>?_⟩;cases e2;exact ⟨o,e,ex.2.1⟩
 | _=>exact False.elim ty
def tBM0 (K:PySem.W.Frag) (T:String) (r:V->List V->Hp->VK->Prop) (to:TE):TE:=fun σ H Q=>to σ H fun x H1=>tyV K T x H1/\r x [] H1 Q
def tBM (K:PySem.W.Frag) (T:String) (r:V->List V->Hp->VK->Prop) (to:TE) (t:TA):TE:=fun σ H Q=>to σ H fun x H1=>tyV K T x H1/\t σ H1 fun xs H2=>r x xs H2 Q
variable {o:Expr}{to:TE}{t:TA}{id:String}{r:V->List V->Hp->VK->Prop}
theorem Xr (pa:PlainAttrs T) (slot:Slot T name id) (hty:typeOf (.builtin id)=pure (.type "method_descriptor")) (hm:MtR X id r) (ho:PE X o to)
  (hbase:attributeBase o name X.env (eval o X.env)=eval o X.env:=by rfl) (hline:(apos.endLine==cpos.line)=true:=by rfl):PE X (.Call (.Attribute o name apos) [] [] cpos) (tBM0 X.K T r to):=by
 intro pins s σ H Q I h;refine wpAny_Call_method0_late hbase hline (cN (ho pins s σ H _ I h) fun v s1 zq=>?_);obtain ⟨x,H1,I1,r1,ty,q1⟩:=zq;obtain ⟨h1,h2⟩:=Mr I1 r1 ty;exact ⟨T,id,pa,slot,hty,h1,h2,A1r rfl (PySem.evalArgs_none (hm pins s1 σ H1 x [] v [] Q I1 r1 .nil q1))⟩
theorem iR (pa:PlainAttrs T) (slot:Slot T name id) (hty:typeOf (.builtin id)=pure (.type "method_descriptor")) (hm:MtR X id r) (ho:PE X o to) (ha:PA X (e::es) t)
  (hbase:attributeBase o name X.env (eval o X.env)=eval o X.env:=by rfl)
  (hfew:((backTo cpos (starEach (e::es) X.env)).all (fun x=>!x.1)&&(backToKw cpos (keywordEach [] X.env)).all (fun x=>x.1.isSome)
   &&decide ((e::es).length+([]:List Keyword).length+(if ([]:List Keyword).isEmpty then 0 else 1)<30))=true:=by rfl)
  (hline:(apos.endLine==cpos.line)=true:=by rfl) (hs:starEach (e::es) X.env=(false,eval e X.env)::starEach es X.env:=by rfl) (hplain:(backTo cpos (starEach es X.env)).any (·.1)=false:=by rfl) :
  PE X (.Call (.Attribute o name apos) (e::es) [] cpos) (tBM X.K T r to t):=by
 intro pins s σ H Q I h;refine wpAny_Call_method_late hbase hfew hline rfl (cN (ho pins s σ H _ I h) fun v s1 zq=>?_);obtain ⟨x,H1,I1,r1,ty,q1⟩:=zq;obtain ⟨h1,h2⟩:=Mr I1 r1 ty;refine ⟨T,id,pa,slot,hty,h1,h2,?_⟩;have hA:=ha cpos pins s1 σ H1 _ I1 q1;rw [hs] at hA ⊢;refine A1r (by show (false||(backTo cpos (starEach es X.env)).any (·.1))=false;rw [hplain] <;> rfl) (A2a ?_)
 exact cN hA fun us s2 ⟨vs,H2,I2,r2,q2⟩=>hm pins s2 σ H2 x vs v us Q I2 r1 r2 q2
end
def MtM (X:Cx) (id:String) (r:V->List V->Hp->VK->Prop):Prop :=
 ∀ (pins:List 0x17) (s:Shared) (σ:St) (H:Hp) (x:V) (xs:List V) (v:Value) (us:List Value) (Q:VK),Inv X pins σ H s->RelV x v->Vals xs us->r x xs H Q ->
  wpAny 0x9 X.A (call (.builtin id) (v::us)) (EP X pins σ Q) X.xe s
theorem Vals.one:∀ {x:V}{us:List Value},Vals [x] us->∃ u,us=[u]/\RelV x u
 | _,_,.cons r .nil=>⟨_,rfl,r⟩
theorem Vals.zero:∀ {us:List Value},Vals [] us->us=[]
 | _,.nil=>rfl
theorem Vals.rep (h:Vals xs us):∀ k:Nat,Vals (List.replicate k xs).flatten (List.replicate k us).flatten
 | 0=>.nil
 | k+1=>by
  rw [A1y,A1y,A2u,A2u];exact Vals.append h (Vals.rep h k)
theorem foldl_rep (its:List Value):∀ (k:Nat) (acc:List Value),
  List.foldl (fun x1 x2=>x1++x2) acc.toArray (List.replicate k its.toArray)=(acc++(List.replicate k its).flatten).toArray
 | 0,acc=>by simp
 | k+1,acc=>by
  have e:acc.toArray++its.toArray=(acc++its).toArray:=by simp
  have e2:(acc++its)++(List.replicate k its).flatten=acc++(List.replicate (k+1) its).flatten:=by
   rw [A1y,A2u,A1M]
  rw [<- e2,<- foldl_rep its k (acc++its),<- e,A1y,A1h]
section
variable {l:Addr}{zs:List V}
theorem Inv.Xu {its its':List Value}{f:Array Value->Array Value} (I:Inv X pins σ H s) (hH:H l=some (.lst xs))
  (e:s.heap.get? l=some { cls:=.type "list",data:=.seq its.toArray n }) (hf:f its.toArray=its'.toArray) (hv:Vals ys its') (hz:ys.length<=sizeLine) :
  Inv X pins σ (upd H l (.lst ys)) { s with heap:=s.heap.update l (Obj.mapSeq f),toks:=t' }:=by
 have q:=PySem.IsL.update e f;rw [hf] at q;refine I.write (x:=l) (e:=l) (by rw [hH];exact trivial) (.inl rfl) (fun b' u hb hu=>(Heap.get?_update_other s.heap (Obj.mapSeq f) (A0k hb)).trans hu) ⟨_,q⟩ ?_;exact ⟨hz,its',_,hv,q⟩
theorem Inv.lnew {its:List Value} (I:Inv X pins σ H s) (hv:Vals ys its) (hz:ys.length<=sizeLine) :
  Inv X pins σ (upd H s.heap.objs.size (.lst ys)) { s with heap:=s.heap.push { cls:=.type "list",data:=.seq its.toArray },toks:=t' } :=
 I.laid (fun _ _ q=>A0c _ q) (A0h _) ⟨hz,its,0,hv,A0y _ rfl⟩
theorem Inv.fresh (I:Inv X pins σ H s):H s.heap.objs.size=none:=I.hok.fresh (A0h _)
theorem Inv.Jy (I:Inv X pins σ H s) (hH:H l=some (.lst xs)):xs.length<=sizeLine/\∃ (its:List Value) (n:Nat),Vals xs its/\xs.length=its.length/\s.heap.get? l=some { cls:=.type "list",data:=.seq its.toArray n }:=by
 obtain ⟨z,its,n,r,e⟩:=I.hok l _ hH;exact ⟨z,its,n,r,r.length,e⟩
theorem Mt (h:n<=sizeLine):Builtin.List.listTooLong n=false:=by
 unfold Builtin.List.listTooLong;exact A0n 0x3
end
inductive GK (x:V) (vs:List V) (H:Hp) (Q:VK):Prop
 | mk (l:Addr) (xs:List V) (y:V) (_:x=.ref l) (_:vs=[y]) (_:H l=some (.lst xs)) (_:xs.length<sizeLine) (_:Q .non (upd H l (.lst (xs++[y])))):GK x vs H Q
theorem cT:MtM X "list.append" GK:=by
 intro pins s σ H x vs v us Q I rx rv h;obtain ⟨l,xs,y,rfl,rfl,hH,hz,q⟩:=h;cases rx;obtain ⟨u,rfl,ru⟩:=rv.one;obtain ⟨z,its,n,r,hl,e⟩:=I.Jy hH;refine A3Z F.slot_list_append ⟨_,e,rfl⟩ F.entry_list_append (F.args_list_append_2 _ _) (PySem.list_append l its.toArray n u (by rw [A0u];lia)) ⟨e,?_⟩;refine ⟨.non,_,I.Xu (its':=its++[u]) hH e 0xA (r.append (.cons ru .nil)) ?_,rfl,q⟩;rw [gZ,A0r];lia
inductive Mu (x:V) (vs:List V) (H:Hp) (Q:VK):Prop
 | mk (l:Addr) (xs:List V) (_:x=.ref l) (_:vs=[]) (_:H l=some (.lst xs)) (_:Q .non (upd H l (.lst []))):Mu x vs H Q
theorem Mv:MtM X "list.clear" Mu:=by
 intro pins s σ H x vs v us Q I rx rv h;obtain ⟨l,xs,rfl,rfl,hH,q⟩:=h;cases rx;have hus:=rv.zero;subst hus;obtain ⟨z,its,n,r,hl,e⟩:=I.Jy hH;refine A3Z F.slot_list_clear ⟨_,e,rfl⟩ F.entry_list_clear (F.args_list_clear_1 _) (AutoSeq1.list_clear_list_0 l its.toArray n (by rw [A0u];lia)) ⟨e,?_⟩;exact ⟨.non,_,I.Xu (its':=[]) (ys:=[]) hH e rfl .nil (A1f _),rfl,q⟩
inductive rCat (x y:V) (H:Hp) (Q:VK):Prop
 | mk (l b:Addr) (xs zs:List V) (_:x=.ref l) (_:y=.ref b) (_:H l=some (.lst xs)) (_:H b=some (.lst zs)) (_:xs.length+zs.length<=sizeLine) (_:∀ p,H p=none->Q (.ref p) (upd H p (.lst (xs++zs)))):rCat x y H Q
theorem mO:mq X (binaryOp .Add) rCat:=by
 intro pins s σ H x y v u Q I rx ry h;obtain ⟨l,b,xs,zs,rfl,rfl,hH,hB,hz,q⟩:=h;cases rx;cases ry;obtain ⟨z,its,n,r,hl,e⟩:=I.Jy hH;obtain ⟨z2,its2,n2,r2,hl2,e2⟩:=I.Jy hB;refine PySem.P.add_list e e2 ?_ (by rw [A0u,A0u];lia);have ea:its.toArray++its2.toArray=(its++its2).toArray:=by simp
 rw [ea];exact ⟨.ref _,_,I.lnew (t':=s.toks) (r.append r2) (by rw [gZ];lia),rfl,q _ I.fresh⟩
inductive rRep (x y:V) (H:Hp) (Q:VK):Prop
 | mk (l:Addr) (k:Int) (xs:List V) (_:x=.ref l) (_:y=.int k) (_:H l=some (.lst xs)) (_:-(2 ^ 63)<=k) (_:k<2 ^ 63) (_:xs.length * k.toNat<=sizeLine) (_:∀ p,H p=none->Q (.ref p) (upd H p (.lst (List.replicate k.toNat xs).flatten))):rRep x y H Q
theorem len_rep {α:Type} (xs:List α) (k:Nat):(List.replicate k xs).flatten.length=k * xs.length:=by
 induction k with
 | zero=>simp
 | succ k ih=>rw [A1y,A2u,gZ,ih,Nat.succ_mul,Nat.add_comm]
theorem Xv:mq X (binaryOp .Mult) rRep:=by
 intro pins s σ H x y v u Q I rx ry h;obtain ⟨l,k,xs,rfl,rfl,hH,h1,h2,hz,q⟩:=h;cases rx;obtain ⟨t,rfl⟩:=ry;obtain ⟨z,its,n,r,hl,e⟩:=I.Jy hH;have hlen:its.toArray.size * k.toNat<=sizeLine:=by rw [A0u,<- hl];exact hz
 have hcap:¬ its.toArray.size * k.toNat > (2 ^ 63 - 1) / 8:=by
  have:(sizeLine:Nat)<=(2 ^ 63 - 1) / 8:=by decide
  lia
 have hfit:¬ (!Builtin.List.listFitsIndex k)=true:=by
  rw [fitsIndex_both h1 h2];exact A0p
 have a0i:¬ Builtin.List.listTooLong (its.toArray.size * k.toNat)=true:=by
  rw [Mt hlen];exact A0p
 have hnew:List.foldl (fun x1 x2=>x1++x2) #[] (List.replicate (if its.toArray.isEmpty=true then 0 else k.toNat) its.toArray)=(List.replicate k.toNat its).flatten.toArray:=by
  have f0:∀ m:Nat,List.foldl (fun x1 x2=>x1++x2) #[] (List.replicate m its.toArray)=(List.replicate m its).flatten.toArray:=fun m=>by
   have:=foldl_rep its m [];rw [A1O] at this;exact this
  rw [f0];cases its with
  | nil=>simp
  | cons a r'=>rw [A0f 0xA]
 refine wpAny_binaryOp_repeat_ref (T:="list") (U:="int") 0x6 ⟨_,e,rfl⟩ (fun s'=>typeIs_int s' k t) noFill_list_mul F.fills_int_mul F.slot_int_rmul repeat_list F.slot_int_index.lookup
  (A3Z F.slot_int_rmul (typeIs_int s k t) F.entry_int_rmul (F.args_int_rmul_2 _ _) (int___rmul___int_list k t l its.toArray n)
   ⟨e,rfl,⟨_,e,rfl⟩,A3Z F.slot_list_mul ⟨_,e,rfl⟩ F.entry_list_mul (F.args_list_mul_2 _ _) (AutoListH.list___mul___list_int_3 l its.toArray n k t hfit hcap a0i) ⟨e,?_⟩⟩)
 rw [hnew];exact ⟨.ref _,_,I.lnew (t':=s.toks) (r.rep k.toNat) (by rw [len_rep,Nat.mul_comm];exact hz),rfl,q _ I.fresh⟩
end L2
namespace Att
open PySem PySem.W PySem.Calls PyProof.Rows
theorem rD {P:Params}:∀ (ns:List Int) (vs:List Value),WellAll P h vs (ns.map WData.int)->IntsAre vs ns:=by
 intro ns
 induction ns with
 | nil =>
  intro vs w;rw [A3p] at w;cases w;exact .nil
 | cons n ns ih =>
  intro vs w;rw [A0m] at w;cases w with
  | cons a b =>
   cases a;exact .cons _ _ (ih _ b)
theorem Jz {l:OpenLaw} (hn:l.most=some n) {P:Params}{args:List WData}{vals:List Value}
  (hpre:l.row.toRowW.claim.pre args=true) (hwl:WellAll P h vals args) :
  ∃ a vs ns,vals=[Value.ref a]/\args=[WData.list (ns.map WData.int)]/\h.get? a=some { cls:=.type "list",data:=.seq vs.toArray }/\IntsAre vs ns/\ns.length<=n:=by
 have hsh:WShape.hasAll [] args [.list .int]=true:=(pre_splitW hpre).1;have hc:l.pre.holds [] { args:=args }=true:=(pre_splitW hpre).2;obtain ⟨d,r,rfl,h1,h2⟩:=hasAllW_cons hsh;obtain rfl:=hasAllW_nil h2;obtain ⟨xs,rfl,h3⟩:=hasW_list h1;obtain ⟨ns,rfl⟩:=items_int h3;have hlen:ns.length<=n:=by
  unfold OpenLaw.pre at hc;have h4:(WTm.not (.lt (.lit (.int (n:Int))) (.len (.arg 0)))).holds [] { args:=[.list (ns.map .int)] }=true:=by
   have h4:=(holds_andW hc).1;rw [hn] at h4;exact h4
  have h5:=condW_of h4 (w_not (w_lt w_lit (w_len_list (w_arg rfl))));rw [cg] at h5;refine Nat.le_of_not_lt fun q=>?_;have q':(n:Int)<((ns.length:Nat):Int):=by lia
  first
   | (rw [A0g q'] at h5;exact absurd h5 0x6)
   | (simp at h5;lia)
 cases hwl with
 | cons w1 w2 =>
  cases w2;cases w1 with
  | list ho hall=>exact ⟨_,_,ns,rfl,rfl,ho,rD ns _ hall,hlen⟩
theorem JC (l:OpenLaw) (args:List WData):l.row.toRowW.claim.post args (.bool true) args=true :=
 postW_of (r:=l.row.toRowW) (X:=(true==true))
  (show WShape.has [] (.bool true) .bool=true by first | rfl | decide | simp [WShape.has,WShape.arms,WShape.armsAll])
  (show (WTm.eq .res (.lit (.bool true))).value [] { args:=args,res:=some (.bool true),after:=args }=some (.bool (true==true)) from w_eq_bool (w_res rfl) w_lit) rfl
theorem Af {l:OpenLaw}{q:Program}{d:DefRec}
  (hn:l.most=some n) (hdf:d.params.defaults=[])
  (call:∀ (w:World) (s₀ s₁:Shared) (mg mb:Str->Option Value) (fa:Addr) (o:Obj) (pm cd doc:Value) (a:Addr) (vs:List Value) (ns:List Int),
   Ground q loose [] XP w s₀ mg mb s₁.heap->YP w s₁.heap ->
   s₁.heap.get? fa=some o->o.data=.func (docDef d.name d.params d.body d.scope pm cd doc)->s₁.heap.CodeRec cd d.name->mg d.name=some (.ref fa) ->
   s₁.heap.get? a=some { cls:=.type "list",data:=.seq vs.toArray }->IntsAre vs ns->ns.length<=n->s₁.gens=#[] ->
   codeAny (model l.prog w) callerA (.call (.ref fa) ⟨[.ref a],[]⟩) (fun r s'=>r=.ok (.ret (.bool true))/\OldK s₁.heap s'.heap/\s'.os=s₁.os/\AllBare s'.gens) s₁) :
  WalkO q loose XP YP l.row.toRowW d [] (fun f vs=>PySem.call f vs):=by
 intro w s₀ s₁ mg mb G Y fa o pm cd doc dV kV ho hd hcd hD hmg hg args vals as hpre hlay hrd hwl hlo;obtain rfl:dV=.none:=Dflts.none hD hdf;obtain rfl:kV=.none:=Dflts.noKw hD;obtain ⟨a,vs,ns,rfl,rfl,hobj,hints,hlen⟩:=Jz hn hpre hwl;refine enter_call (A3Q (call w s₀ s₁ mg mb fa o pm cd doc a vs ns G Y ho (fd_plain hd) hcd hmg hobj hints hlen hg) fun r s' hq=>?_);obtain ⟨rfl,h2,h3,h4⟩:=hq;exact ⟨.inl ⟨.bool true,.bool true,[],rfl,fun _=>rfl,.bool true,JC l _,fun _=>⟨List.Pairwise.nil,fun _ hm=>(nomatch hm)⟩⟩,h2,h3,h4⟩
end Att
namespace L2
open PySem PySem.Spec PyProof.Rows
theorem vO:∀ {vs:List Value}{ns:List Int},IntsAre vs ns->Vals (ns.map V.int) vs
 | _,_,.nil=>.nil
 | _,_,.cons n t h=>.cons ⟨t,rfl⟩ (vO h)
def Only (H:Hp):Prop:=∀ b,H b=none\/∃ o xs,H b=some (.iQ o (.lst xs))
theorem Mw {mb:Str->Option Value}{k:Nat}{fa:Addr}{x:Str}{s₁:Shared}{vs:List Value}{ns:List Int}
  (KX:K.In s₁.heap) (hns:s₁.heap.Ns mainGlobals mg) (hb:s₁.heap.Ns builtinsNs mb) (hbb:∀ x:Str,x≠"__name__"->mb x=bootBuiltins x) (hlim:s₁.heap.NoLimit) (hg:s₁.gens=#[])
  (ha:s₁.heap.get? a=some { cls:=.type "list",data:=.seq vs.toArray }) (hi:IntsAre vs ns) (hl:ns.length<=sizeLine) (hr:cH k callerA)
  (F:∀ base:Heap,K.In base->base.Ns mainGlobals mg->aL P w K mg base CX k fa fd [x] sp) (hbind:∀ (s:Shared) (u:Value),BindsTo s fd ⟨[u],[]⟩ [(x,u)])
  (hsp:∀ H:Hp,Only H->bR K H a (ns.map V.int)->sp [.ref a] H (fun v _=>v=.bl true) fun _ _ _=>False)
  (hCX:∀ H e s',CX [] H s₁ (fun _ _ _=>False) e s'->False) :
  codeAny (model P w) callerA (.call (.ref fa) ⟨[.ref a],[]⟩) (fun r s'=>r=.ok (.ret (.bool true))/\OldK s₁.heap s'.heap/\s'.os=s₁.os/\AllBare s'.gens) s₁:=by
 have rv:=vO hi;have lenV:=hi.length;have core:∀ H:Hp,Only H->bR K H a (ns.map V.int)->nM P w H s₁.heap->(∀ b,H b≠none->b=a)->(H a≠none->K.lookup a=none) ->
   codeAny (model P w) callerA (.call (.ref fa) ⟨[.ref a],[]⟩) (fun r s'=>r=.ok (.ret (.bool true))/\OldK s₁.heap s'.heap/\s'.os=s₁.os/\AllBare s'.gens) s₁:=by
  intro H hO hS hok hA hK;have GP:∀ {b:Addr}{o:Obj},s₁.heap.get? b=some o->H b=none->(xq s₁.heap H).get? b=some o:=fun e n=>Lh e n;have noA:∀ {b:Addr}{o:Obj}{es:Array DictEntry}{ep:Nat},s₁.heap.get? b=some o->o.data=.dict es ep->H b=none:=fun {b o es ep} e d=>by
   cases q:H b with
   | none=>rfl
   | some u =>
    have e':b=a:=hA b (by rw [q];simp);subst e';rw [ha] at e;cases e;have d':Data.seq vs.toArray _=Data.dict es ep:=d;cases d'
  have nsK:∀ {b:Addr}{m:Str->Option Value},s₁.heap.Ns b m->(xq s₁.heap H).Ns b m:=fun {b m} ⟨o,es,ep,e,d,r⟩=>⟨o,es,ep,GP e (noA e d),d,r⟩;have hKb:K.In (xq s₁.heap H):=fun b o e=>GP (KX b o e) (by
   cases q:H b with
   | none=>rfl
   | some u =>
    have e':b=a:=hA b (by rw [q];simp);subst e';rw [hK (by rw [q];simp)] at e;cases e)
  have hM:Mod K mg (xq s₁.heap H):=⟨hKb,nsK hns,⟨mb,nsK hb,hbb⟩,let ⟨mc,h1,h2⟩:=hlim;⟨mc,nsK h1,h2⟩⟩
  have e0:vB P w K mg (xq s₁.heap H) callerA [] s₁ H:=⟨rfl,hM,fun b o e=>S9 e,Nat.le_of_eq (Jm _ _),trivial,fun b hb=>absurd (show b∈([]:List Addr) from hb) 0xA,hok,.of_eq hg⟩
  refine A3Q ((F _ hKb (nsK hns)).run callerA [] s₁ H ⟨[.ref a],[]⟩ [.ref a] [.ref a] _ _ hr e0 (hbind s₁ (.ref a)) (.cons rfl .nil) (hsp H hO hS)) fun r s' h=>?_;cases r with
  | error e=>exact (hCX H e s' h).elim
  | ok fl =>
   cases fl with
   | next=>exact False.elim h
   | brk=>exact False.elim h
   | cont=>exact False.elim h
   | ret u =>
    obtain ⟨v,H',os,bare,un,hok',r',q⟩:=h;have q':v=.bl true:=q;subst q';obtain rfl:u=Value.bool true:=r';refine ⟨rfl,OldK.of_keep fun b o e=>?_,os,bare⟩;cases q:H b with
    | none=>exact un.keep b o e q (by intro z;exact absurd (show b∈([]:List Addr) from z) 0xA) 0xA
    | some u =>
     rcases hO b with z | ⟨ob,xs,z⟩
     ·rw [q] at z;cases z
     ·have z2:=un.sX b ob _ z;obtain ⟨e1,_⟩:=hok b _ z;obtain ⟨e2,_⟩:=hok' b _ z2;rw [e] at e1;cases e1;exact e2
 cases hk:K.lookup a with
 | some o =>
  have e:=KX a o hk;rw [ha] at e;cases e;refine core (fun _=>none) (fun _=>.inl rfl) (.inr ⟨_,vs.toArray,_,hk,rfl,rfl,rfl,by rw [A0u,lenV];exact hl,by simpa using rv⟩) (fun b u z=>by have z':(none:Option HO)=some u:=z;cases z') (fun b z=>absurd rfl z) fun z=>absurd rfl z
 | none =>
  refine core (fun b=>if b=a then some (.iQ { cls:=.type "list",data:=.seq vs.toArray } (.lst (ns.map V.int))) else none) (fun b=>?_) (.inl (.inr ⟨{ cls:=.type "list",data:=.seq vs.toArray },A0i rfl⟩)) (fun b u z=>?_) (fun b z=>?_) fun _=>hk
  ·by_cases hb:b=a
   ·exact .inr ⟨_,_,A0i hb⟩
   ·exact .inl (A0f hb)
  ·by_cases hb:b=a
   ·have z':=(A0i hb).symm.trans z;cases z';subst hb;exact ⟨ha,by rw [cg];exact hl,vs,_,rv,ha⟩
   ·have z':=(A0f hb).symm.trans z;cases z'
  ·by_cases hb:b=a
   ·exact hb
   ·exact absurd (A0f hb) z
theorem SQ {l:PySem.W.OpenLaw}{k:Nat}{q:Program}{d:DefRec}{K:Params->PySem.W.Frag}{CX:World->Gy}{sp:World->Sp}{x:Str}
  (hn:l.most=some n) (hn2:n<=sizeLine) (hdf:d.params.defaults=[]) (hr:cH k callerA)
  (hY:∀ (w:World) (h:Heap),YP w h->(K w.params).In h)
  (F:∀ (w:World) (mg:Str->Option Value) (fa:Addr) (h:Heap),(K w.params).In h->h.Ns mainGlobals mg->mg d.name=some (.ref fa) ->
   ∃ fd:FuncData,(∀ (s:Shared) (u:Value),BindsTo s fd ⟨[u],[]⟩ [(x,u)]) /\
    ∀ base:Heap,(K w.params).In base->base.Ns mainGlobals mg->aL l.prog w (K w.params) mg base (CX w) k fa fd [x] (sp w))
  (hsp:∀ (w:World) (H:Hp) (a:Addr) (ns:List Int),ns.length<=n->Only H->bR (K w.params) H a (ns.map V.int)->sp w [.ref a] H (fun v _=>v=.bl true) fun _ _ _=>False)
  (hCX:∀ (w:World) (H:Hp) (s:Shared) (e:Value) (s':Shared),CX w [] H s (fun _ _ _=>False) e s'->False) :
  PySem.W.WalkO q loose XP YP l.row.toRowW d [] (fun f vs=>PySem.call f vs):=by
 refine Att.Af hn hdf fun w s₀ s₁ mg mb fa o pm cd doc a vs ns G Y ho hd hcd hmg hobj hints hlen hg=>?_;have KX:=hY w _ Y;obtain ⟨fd,hb,hF⟩:=F w mg fa _ KX G.T.g hmg;exact Mw KX G.T.g G.T.b G.T.builtins G.T.nolimit hg hobj hints (A0M hlen hn2) hr hF hb (fun H hO hS=>hsp w H a ns hlen hO hS) fun H e s'=>hCX w H s₁ e s'
def inClass (s:Stmt) (j:Nat):Stmt:=match s with
 | .ClassDef _ _ _ body _ _ _ _ _ _ _=>body.getD j (.Pass ⟨0,0,0,0⟩)
 | _=>.Pass ⟨0,0,0,0⟩
def lE (s:Stmt):Arguments:=match s with
 | .FunctionDef _ a _ _ _ _ _ _ _ _=>a
 | _=>{ posonlyargs:=[],args:=[],vararg:=none,kwonlyargs:=[],kw_defaults:=[],kwarg:=none,defaults:=[] }
def iw (s:Stmt):List Stmt:=match s with
 | .FunctionDef _ _ b _ _ _ _ _ _ _=>b
 | _=>[]
def aH (s:Stmt):Scope:=match s with
 | .FunctionDef _ _ _ _ _ _ sc _ _ _=>sc
 | _=>{ kind:=.function,names:=[],isGenerator:=false,isCoroutine:=false }
abbrev bO:Gy:=fun _ _ _ _ _ _=>False
abbrev E0:XK:=fun _ _ _=>False
theorem bC:Passes bO X E0:=fun _ _ _ _ _ _ _ h=>h.elim
structure fu (K:PySem.W.Frag) (x qual:Str) (st:Stmt) (f:Addr) (fd:FuncData):Prop where
 ex:∃ (oc:Value) (od:Option Addr) (kV doc pm:Value) (an:Option Addr) (cdv ct:Value) (osl:Array (Option Value)),
  fd=PySem.W.fnOf x qual (lE st) (iw st) (aH st) .none kV doc pm an cdv ct/\K.lookup f=some ⟨oc,od,.func fd,osl⟩/\PySem.W.codeIn K cdv qual=true
 kp:PySem.W.keepIn K (.ref f)=true
theorem fu.ok {x:Str}{k:Nat} (F:fu K x qual st f fd) (S:aP N ps (aH st)) (len:∀ vs H Q E,sp vs H Q E->vs.length=ps.length)
  (hbody:∀ (cdv:Value) (A:Around) (outer:List Env) (s:Shared) (H:Hp) (vs:List V) (Q:VK) (E:XK),cH k (A.deeper (envOfC qual (aH st) s.heap.objs.size f cdv))->sp vs H Q E ->
   ∃ t,CV (Dp bO P w K mg base N qual (aH st) f cdv A outer s H E).Zz (iw st) t/\t { nx:=fun _ H'=>Q .non H',rt:=Q } (start N vs) H):aL P w K mg base bO (k+1) f fd ps sp:=by
 obtain ⟨oc,od,kV,doc,pm,an,cdv,ct,osl,rfl,lk,hcd⟩:=F.ex;refine VD lk hcd S len fun A outer s H vs Q E hr hsp=>?_;obtain ⟨t,h,q⟩:=hbody cdv A outer s H vs Q E hr hsp;exact ⟨t,h.Zz,q⟩
theorem fu.binds {x:Str} (F:fu K x qual st f fd)
  (h:∀ (kV doc pm:Value) (an:Option Addr) (cdv ct:Value) (us:List Value),us.length=ps.length->bindArgs (PySem.W.fnOf x qual (lE st) (iw st) (aH st) .none kV doc pm an cdv ct) ⟨us,[]⟩=pure (ps.zip us)):Binds K fd ps []:=by
 obtain ⟨oc,od,kV,doc,pm,an,cdv,ct,osl,rfl,lk,hcd⟩:=F.ex;exact .all (h kV doc pm an cdv ct)
theorem Mx {x:Str}{oc:Value}{od an:Option Addr}{osl:Array (Option Value)}{kV doc pm cdv ct:Value} (l:K.lookup f=some ⟨oc,od,.func (PySem.W.fnOf x qual (lE st) (iw st) (aH st) .none kV doc pm an cdv ct),osl⟩)
  (c:PySem.W.codeIn K cdv qual=true) (k:PySem.W.keepIn K (.ref f)=true):fu K x qual st f (PySem.W.fnOf x qual (lE st) (iw st) (aH st) .none kV doc pm an cdv ct):=⟨⟨oc,od,kV,doc,pm,an,cdv,ct,osl,rfl,l,c⟩,k⟩
theorem vP (h:n<=1000):n<sizeLine:=A1s h 0x6
theorem pv (i:Nat) {x:Str} (hN:X.N[i]?=some x:=by rfl) (hv:Vis X.env.scope x:=by first | exact Or.inl rfl | exact Or.inr 0x8 | exact Or.inr (Or.inr rfl)) (hd:0x24=false:=by decide)
  (hcd:(x==("__classdict__" : Str))=false:=by decide):PE X (.Name x pos) (zT i):=WY hN hv hd hcd
theorem cA {A:Prop} (h:B):if false=true then A else B:=by
 rw [A0f A0p];exact h
theorem dU {A:Prop} (h:A):if true=true then A else B:=by
 rw [A0i rfl];exact h
theorem iy {c A:Prop} [Decidable c] (h1:c->A) (h2:¬ c->B):if c then A else B:=by
 by_cases h:c
 ·rw [A0i h];exact h1 h
 ·rw [A0f h];exact h2 h
theorem VJ {c A:Prop} [Decidable c] (hc:c) (h:B):if (!decide c)=true then A else B:=by
 rw [A0g hc];exact cA h
def Same (H H':Hp):Prop:=∀ b o,H b=some o->H' b=some o
theorem Same.refl (H:Hp):Same H H:=fun _ _ h=>h
theorem Same.trans (a:Same H H1) (b:Same H1 H2):Same H H2:=fun c o h=>b c o (a c o h)
theorem Same.free (e:Same H H') {l:Addr} (h:H' l=Option.none):H l=Option.none:=by
 cases q:H l with
 | none=>rfl
 | some o =>
  rw [e l o q] at h;cases h
theorem Same.seq (e:Same H H') (h:bR K H a xs):bR K H' a xs:=by
 rcases h with (h | ⟨o,h⟩) | h
 ·exact .inl (.inl (e _ _ h))
 ·exact .inl (.inr ⟨o,e _ _ h⟩)
 ·exact .inr h
def jc (env:Env):List (Str×NameKind)->List (Str×Addr)->List (Str×Addr)
 | [],cs=>cs
 | (n,k)::r,cs=>jc env r (if k==.free then (n,(env.cells.lookup n).getD 0)::cs else cs)
theorem vQ:∀ (l:List (Str×NameKind)) (cs:List (Str×Addr)) (p:Str×Addr),p∈jc env l cs->p∈cs\/((p.1,NameKind.free)∈l/\p.2=(env.cells.lookup p.1).getD 0)
 | [],_,_,h=>.inl h
 | (n,k)::r,cs,p,h=>by
  rcases vQ r _ p h with q | ⟨q,e⟩
  ·by_cases hk:k=.free
   ·subst hk;rw [A0i (by rfl)] at q;rcases A0d.mp q with z | z
    ·subst z;exact .inr ⟨A0o,rfl⟩
    ·exact .inl z
   ·rw [A0f (by simpa using hk)] at q;exact .inl q
  ·exact .inr ⟨jT _ q,e⟩
theorem vR:∀ (l:List (Str×NameKind)) (cs:List (Str×Addr)) (p:Str×Addr),p∈cs->p∈jc env l cs
 | [],_,_,h=>h
 | (n,k)::r,cs,p,h=>by
  refine vR r _ p ?_
  split
  ·exact jT _ h
  ·exact h
theorem vU {x:Str}:∀ (l:List (Str×NameKind)) (cs:List (Str×Addr)),(x,NameKind.free)∈l->∃ c,(x,c)∈jc env l cs
 | [],_,h=>nomatch h
 | (n,k)::r,cs,h=>by
  rcases A0d.mp h with z | z
  ·cases z;exact ⟨_,vR r _ _ (by rw [A0i (by rfl)];exact A0o)⟩
  ·exact vU r _ z
theorem nY {α:Type}{x:Str}:∀ {l:List (Str×α)}{c:α},(x,c)∈l->∃ c',l.lookup x=some c'
 | [],_,h=>nomatch h
 | (n,d)::r,c,h=>by
  by_cases e:x=n
  ·subst e;exact ⟨d,by simp [A0X]⟩
  ·have:(x==n)=false:=by simpa using e
   simp only [A0X,this];rcases A0d.mp h with z | z
   ·cases z;exact absurd rfl e
   ·exact nY z
theorem tV:∀ (l:List (Str×NameKind)) (cs:List (Str×Addr)),(∀ x∈l,x.2=.free->(env.cells.lookup x.1).isSome=true) ->
  (forIn l cs fun (x:Str×NameKind) (r:List (Str×Addr))=>(match x with
   | (name,kind)=>if (kind==NameKind.free)=true then do let a <- cellOf env name;pure (ForInStep.yield ((name,a)::r)) else pure (ForInStep.yield r):Sem (ForInStep (List (Str×Addr)))))=pure (jc env l cs)
 | [],cs,_=>rfl
 | (n,k)::r,cs,h=>by
  rw [A3H];have ih:=fun cs'=>tV r cs' fun x hx=>h x (jT _ hx)
  by_cases hk:k=.free
  ·subst hk;obtain ⟨a,ha⟩:=A2x.mp (h (n,.free) A0o rfl);have hca:cellOf env n=pure a:=by unfold cellOf;rw [ha]
   have hn:jc env ((n,.free)::r) cs=jc env r ((n,a)::cs):=by
    show jc env r (if (NameKind.free==NameKind.free)=true then (n,(env.cells.lookup n).getD 0)::cs else cs)=_
    rw [A0i (by rfl),ha];rfl
   rw [hn];simp only [A2H,A2U,hca,pure_bind];exact ih _
  ·have hb:(k==NameKind.free)=false:=by simpa using hk
   have hn:jc env ((n,k)::r) cs=jc env r cs:=by
    show jc env r (if (k==NameKind.free)=true then (n,(env.cells.lookup n).getD 0)::cs else cs)=_
    rw [A0f (by simp [hb])]
   rw [hn];simp only [hb,A1Z,A2R,pure_bind];exact ih _
theorem rE (h:∀ x∈scope.names,x.2=.free->(env.cells.lookup x.1).isSome=true):closureFor scope env=pure (jc env scope.names []):=by
 simp only [closureFor];have:=tV (env:=env) scope.names [] h
 first
  | (rw [this];rfl)
  | (erw [this];rfl)
  | (exact (A1R (· >>= pure) this))
theorem fO {l:List (Str×NameKind)} (h:∀ x∈l,x.2=.free->(env.cells.lookup x.1).isSome=true) {x:Str} (e:(jc env l []).lookup x=some c):env.cells.lookup x=some c:=by
 rcases vQ l [] (x,c) (A1x e) with q | ⟨q,e'⟩
 ·exact nomatch q
 ·obtain ⟨a,ha⟩:=A2x.mp (h _ q rfl);have ha':env.cells.lookup x=some a:=ha;have e2:c=(env.cells.lookup x).getD 0:=e';rw [ha'] at e2;rw [ha',e2];rfl
theorem mQ {x:Str}{k':NameKind} (h:(relabel scope env).names.lookup x=some k'):∃ k,scope.names.lookup x=some k/\(k'=k\/(k=.free/\k'=.cell)):=by
 unfold relabel at h;dsimp only at h;generalize scope.names=l at h ⊢
 induction l with
 | nil=>simp at h
 | cons p r ih =>
  obtain ⟨n,k⟩:=p;rw [A0m] at h
  by_cases e:x=n
  ·subst e;refine ⟨k,by simp [A0X],?_⟩
   by_cases hc:(k==NameKind.free&&env.scope.kind==.function&&env.kindOf x==some .cell)=true
   ·simp only [hc,A2U,A0X,A2H] at h;have hk:k=.free:=by
     have:=(Bool.and_eq_true_iff.mp (Bool.and_eq_true_iff.mp hc).1).1
     simpa using this
    exact .inr ⟨hk,(A0V h).symm⟩
   ·simp only [hc,A2R,A0X,A2H,A1Z] at h;exact .inl (A0V h).symm
  ·have hb:(x==n)=false:=by simpa using e
   have h':List.lookup x (List.map (fun x=>match x with | (n,k)=>if (k==NameKind.free&&env.scope.kind==ScopeKind.function&&env.kindOf n==some NameKind.cell)=true then (n,NameKind.cell) else (n,k)) r)=some k':=by
    by_cases hc:(k==NameKind.free&&env.scope.kind==.function&&env.kindOf n==some .cell)=true
    ·simpa only [hc,A2U,A0X,hb] using h
    ·simpa only [hc,A2R,A0X,hb,A1Z] using h
   obtain ⟨k0,e0,q⟩:=ih h';exact ⟨k0,by simp only [A0X,hb];exact e0,q⟩
theorem xQ {x:Str} (h:scope.names.lookup x=some .free):(relabel scope env).names.lookup x=some .cell\/(relabel scope env).names.lookup x=some .free:=by
 unfold relabel;dsimp only;generalize scope.names=l at h ⊢
 induction l with
 | nil=>simp at h
 | cons p r ih =>
  obtain ⟨n,k⟩:=p;rw [A0m]
  by_cases e:x=n
  ·subst e;simp only [A0X,A2H] at h;cases h;generalize List.map _ r=r'
   show List.lookup x ((if (NameKind.free==NameKind.free&&env.scope.kind==.function&&env.kindOf x==some .cell)=true then (x,NameKind.cell) else (x,NameKind.free))::r')=_\/List.lookup x ((if (NameKind.free==NameKind.free&&env.scope.kind==.function&&env.kindOf x==some .cell)=true then (x,NameKind.cell) else (x,NameKind.free))::r')=_
   by_cases hc:(NameKind.free==NameKind.free&&env.scope.kind==.function&&env.kindOf x==some .cell)=true
   ·rw [A0i hc];exact .inl (by simp [A0X])
   ·rw [A0f hc];exact .inr (by simp [A0X])
  ·have hb:(x==n)=false:=by simpa using e
   simp only [A0X,hb] at h
   by_cases hc:(k==NameKind.free&&env.scope.kind==.function&&env.kindOf n==some .cell)=true
   ·simp only [hc,A2U,A0X,hb];exact ih h
   ·simp only [hc,A2R,A0X,hb,A1Z];exact ih h
def La (X:Cx) (N':List Str) (scope:Scope) (s:Shared) (H:Hp) (fp:List Addr) (C:Addr):Cx where
 prog:=X.prog
 w:=X.w
 K:=X.K
 mg:=X.mg
 base:=X.base
 A:=X.A
 N:=N'
 s₀:=s
 H₀:=H
 env:=compEnvC scope (jc X.env scope.names []) C X.env
 outer:=X.stack
 stack:=X.stack
 ex:=fp
 fn:=fun _=>false
 calm:=X.calm
 pn:=[]
 xe:=fun _ _=>False
structure gO (N:List Str) (sc scope:Scope) (ts fr:List Str) (ix:List Nat):Prop where
 kind:scope.kind=.function
 Mz:∀ y∈scope.names,y.2≠.cell
 nms:∀ y∈scope.names,y.2=.local->scope.names.lookup y.1=some .local
 frs:∀ y∈scope.names,y.2=.free->sc.names.lookup y.1=some .cell\/sc.names.lookup y.1=some .free
 cap:fr.map some=ix.map fun i=>N[i]?
 capf:∀ x∈fr,scope.names.lookup x=some .free
def nQ (σ:St) (k:Nat) (ix:List Nat):St:=List.replicate k none++ix.map fun i=>(σ[i]?).join
def Kp (σ σ':St):Prop:=∀ (j:Nat) (v:V),σ[j]?=some (some v)->σ'[j]?=some (some v)
theorem Kp.refl (σ:St):Kp σ σ:=fun _ _ h=>h
theorem Kp.set {σ1:St}{x:Option V} (h:σ[i]?=some none) (q:Kp σ σ1):Kp σ (σ1.set i x):=fun j v e=>by
 by_cases hj:j=i
 ·subst hj;rw [h] at e;cases e
 ·rw [A3v (A0k hj)];exact q j v e
def PTs (X:Cx) (ifs:List Expr) (t:TT):Prop :=
 ∀ (pins:List 0x17) (s:Shared) (σ:St) (H:Hp) (Q:Bool->Hp->Prop),Inv X pins σ H s->t σ H Q ->
  wpAny 0x9 X.A (forIn ifs true fun c r=>if r=true then do let ok <- isTrue c X.env (eval c X.env);pure (ForInStep.yield ok) else pure (ForInStep.yield r)) (TP X pins σ Q) X.xe s
def VL:TT:=fun _ H Q=>Q true H
theorem pq {A B:Hp->Prop} (h:A H):VL σ H (fun b H5=>if b=true then A H5 else B H5):=by
 show if true=true then A H else B H
 rw [A0i rfl];exact h
theorem rM:PTs X [] VL:=fun _ _ _ H _ I h=>wpAny_tests_nil ⟨H,I,h⟩
theorem jG {c:Expr}{t:TT} (h:PT X c t):PTs X [c] t:=fun pins s σ H Q I q=>wpAny_tests_one (h pins s σ H Q I q)
def oE (J:It) (D:Addr) (σ:St) (k:Nat) (ix:List Nat) (g:TG) (tt:TT) (te:TE) (Q:VK) (H1:Hp):Prop:=∃ W:Nat->Nat->List V->Hp->Prop,(∃ m,W 0 m [] (upd H1 D (.lst []))) /\
 ∀ i m ys H2,W i m ys H2->H2 D=some (.lst ys)/\((J.stop i H2/\Q (.ref D) H2)\/(J.go i H2/\∃ N:List V->Hp->Prop,(∀ zs H',N zs H'->∃ m',m'<m/\W (i+1) m' zs H')/\∀ x H3,J.Jr i H2 x H3->g x (nQ σ k ix) H3 fun σ2 H4=>Kp (nQ σ k ix) σ2 /\
  tt σ2 H4 fun b H5=>if b=true then te σ2 H5 fun y H6=>H6 D=some (.lst ys)/\ys.length<sizeLine/\N (ys++[y]) (upd H6 D (.lst (ys++[y]))) else N ys H5))
def GQ (k:Nat) (ix:List Nat) (wi:TI) (g:TG) (tt:TT) (te:TE):TE:=fun σ H Q=>wi σ H fun J H1=>∀ D,H1 D=none->oE J D σ k ix g tt te Q H1
section
variable {elt:Expr}{ifs:List Expr}{ts fr:List Str}
theorem MF {k:Nat} (h:(nQ σ k ix)[j]?=some (some v)):∃ a i,j=k+a/\ix[a]?=some i/\σ[i]?=some (some v):=by
 unfold nQ at h
 by_cases hj:j<k
 ·rw [A1l (by simpa using hj),A3j,A0i hj] at h;cases h
 ·rw [A0W (by simpa using hj),A1N,jQ] at h;cases e:ix[j - k]? with
  | none=>rw [e] at h;cases h
  | some i =>
   rw [e] at h;refine ⟨j - k,i,by lia,e,?_⟩;have h':(σ[i]?).join=some v:=A0V h;cases e2:σ[i]? with
   | none=>rw [e2] at h';cases h'
   | some o=>rw [e2] at h';exact A1R some h'
theorem Ag {k:Nat}:(nQ σ k ix).length=k+ix.length:=by unfold nQ;simp
theorem MJ {h1:Heap}{tk:Nat} (S:gO X.N X.env.scope scope ts fr ix) (I:Inv X pins σ H s) (hf:∀ b∈fp,jm X pins H b) (hfp:∀ b∈fp,b<s.heap.objs.size)
  (hD:s.heap.objs.size<=D) (hC:s.heap.objs.size<=C) (hDC:D≠C) (hk:∀ b o,s.heap.get? b=some o->h1.get? b=some o) (ho:h1.get? D=some { cls:=.type "list",data:=.seq #[] }) {m0:Str->Option Value} (hn:h1.Ns C m0) :
  Inv 0x25 [] (nQ σ ts.length ix) (upd H D (.lst [])) { s with heap:=h1,toks:=tk }:=by
 have hcl:∀ x∈scope.names,x.2=.free->(X.env.cells.lookup x.1).isSome=true:=fun x hx hfx=>by
  obtain ⟨c,hc⟩:=I.ok.has x.1 (S.frs x hx hfx);rw [hc];rfl
 have a0j:∀ b,s.heap.objs.size<=b->∀ x c,X.env.cells.lookup x=some c->c≠b:=fun b hb x c e z=>by
  obtain ⟨v,q⟩:=I.cell x c e;exact absurd (A0x q.lt (by rw [z];exact hb)) (A1U _)
 have hasC:∀ x,scope.names.lookup x=some .free->∃ c,(jc X.env scope.names []).lookup x=some c/\X.env.cells.lookup x=some c:=fun x hx=>by
  obtain ⟨c,hc⟩:=vU (env:=X.env) scope.names [] (A1x hx);obtain ⟨c',hc'⟩:=nY hc;exact ⟨c',hc',fO hcl hc'⟩
 have hfrs:∀ b∈fp,b∉frs X.stack:=fun b hb z=>by
  obtain ⟨_,f1,f2,_⟩:=hf b hb;rcases A0d.mp (I.Dg b z) with e | e
  ·exact f1 e
  ·exact f2 e
 have hCn:H C=none:=I.hok.fresh hC;have hDn:H D=none:=I.hok.fresh hD;refine ⟨⟨I.ok.mod,?_,I.ok.glob,I.ok.blt,hC,fun x y c h1 h2=>?_,fun x hx=>?_,fun x c hfx=>?_,I.ok.hd,I.ok.frames,.inl rfl,fun b hb=>⟨?_,fun x c e=>?_⟩,I.bs,A0M I.ok.RT I.sz,fun b o e hb=>?_,hfrs,I.stack,I.Gn⟩,
  rfl,I.bare,Un.laid hk hD hDn,⟨m0,hn,fun i x v e1 e2 e3=>?_⟩,fun x c e=>?_,?_,fun x c e=>?_,fun p hp=>?_,I.hok.laid hk hD ⟨?_,[],0,.nil,ho⟩,?_⟩
 ·show (relabel scope X.env).kind=_
  exact S.kind
 ·exact I.ok.inj x y c (fO hcl h1) (fO hcl h2)
 ·have hx':(relabel scope X.env).names.lookup x=some .cell\/(relabel scope X.env).names.lookup x=some .free:=hx;have hfree:scope.names.lookup x=some .free:=by
   rcases hx' with q | q
   ·obtain ⟨k,e,z⟩:=mQ q;rcases z with z | ⟨z,_⟩
    ·subst z;exact absurd rfl (S.Mz _ (A1x e))
    ·rw [e,z]
   ·obtain ⟨k,e,z⟩:=mQ q;rcases z with z | ⟨_,z⟩
    ·rw [e,<- z]
    ·cases z
  obtain ⟨c,hc,_⟩:=hasC x hfree;exact ⟨c,hc⟩
 ·exact absurd (show false=true from hfx) 0x6
 ·exact A0S (A0x (hfp b hb) hC)
 ·exact (hf b hb).2.2.2.2.1 x c (fO hcl e)
 ·have f:=hf b hb;rcases f.2.2.2.1 with z | z
  ·exact I.ok.Jp b o e z
  ·exact absurd (A0x (A0I (I.ok.bs b o e).1) z) (A1U _)
 ·obtain ⟨a,i',hj,hi,hσ⟩:=MF e2;subst hj;have e1':(ts++fr)[ts.length+a]?=some x:=e1;rw [A0W 0x3,Nat.add_sub_cancel_left] at e1';have hN:X.N[i']?=some x:=by
   have q:=A1R (fun l=>l[a]?) S.cap;simp only [jQ,e1',hi] at q;exact (A0V q).symm
  have hfree:=S.capf x (vm e1');have hk':=S.frs (x,.free) (A1x hfree) rfl;obtain ⟨m,hnm,hl⟩:=I.loc;obtain ⟨u,r,lk⟩:=hl i' x v hN hσ (.inr hk');refine ⟨u,r,?_⟩;obtain ⟨c,hc,hc'⟩:=hasC x hfree;rcases lk with ⟨z,_⟩ | ⟨_,c2,e4,z⟩
  ·have z':X.env.scope.names.lookup x=some .local:=z;rcases hk' with y | y
   ·have y':X.env.scope.names.lookup x=some .cell:=y;rw [z'] at y';cases y'
   ·have y':X.env.scope.names.lookup x=some .free:=y;rw [z'] at y';cases y'
  ·have hcc:c2=c:=A0V (e4.symm.trans hc');rw [hcc] at z;obtain ⟨o,ho2,hd2⟩:=z;exact .inr ⟨xQ hfree,c,hc,o,hk _ _ ho2,hd2⟩
 ·obtain ⟨v,o,ho2,hd2⟩:=I.cell x c (fO hcl e);exact ⟨v,o,hk _ _ ho2,hd2⟩
 ·show upd H D (.lst []) C=none
  rw [aj (A0k hDC)];exact hCn
 ·show upd H D (.lst []) c=none
  rw [aj (a0j D hD x c (fO hcl e))];exact I.jU x c (fO hcl e)
 ·exact absurd (show p∈([]:List 0x17) from hp) 0xA
 ·exact A1f _
 ·have e:=A1R List.length S.cap;simp only [cg] at e;rw [Ag]
  show _=(ts++fr).length
  rw [gZ,e]
theorem vV {Q:VK}{use:Option (Value->Sem Unit)}{Qv:Value->Shared->Prop} (hc:X.calm=true) (S:gO X.N X.env.scope scope ts fr ix) (hi:PI X tg iter wi)
  (hb:∀ s H fp C,PG 0x25 tg g/\PTs 0x25 ifs tt/\PE 0x25 elt te)
  (hs:∀ x,foldedSetIterable iter X.env x=pure x) (I:Inv X pins σ H s) (h:GQ ts.length ix wi g tt te σ H Q)
  (fin:∀ (D C:Addr) (H':Hp) (s':Shared),Inv X pins σ H' s'->jm X pins H' C->(∃ m,s'.heap.Ns C m)->Q (.ref D) H'->compPost 0x9 X.A X.xe use Qv (.ref D) C (.ok .next) s') :
  wpAny 0x9 X.A (comprehension 0x1F scope X.env (firstIterPos [⟨tg,iter,ifs,0⟩] pos) (newList []) false (eval iter X.env) use) Qv X.xe s:=by
 have hcl:∀ x∈scope.names,x.2=.free->(X.env.cells.lookup x.1).isSome=true:=fun x hx hfx=>by
  obtain ⟨c,hc⟩:=I.ok.has x.1 (S.frs x hx hfx);rw [hc];rfl
 refine wpAny_comprehension_free (use:=use) rfl hs (rE hcl) S.kind S.nms (cN (hi pins s σ H _ I h) fun v s1 h1=>cN h1 fun itv s2 h2=>?_);obtain ⟨it,fp,tn,J,H2,rfl,I2,T,st2,f2,hW⟩:=h2;refine A2d (wpAny_newFunctionEnv S.Mz (by intro y hy;simp at hy) (fun h₁ hns₁ hsb₁=>?_) S.kind);dsimp only at hns₁ hsb₁ ⊢;generalize hH2:s2.heap.push { cls:=.type "list",dict:=none,data:=.seq ([]:List Value).toArray }=G2 at hns₁ hsb₁ ⊢;have hCs:G2.objs.size=s2.heap.objs.size+1:=by rw [<- hH2,A2G]
 have hDC:s2.heap.objs.size≠G2.objs.size:=by rw [hCs];exact A0S (A4o _)
 have hCle:s2.heap.objs.size<=G2.objs.size:=by rw [hCs];exact A2t _
 have old:∀ b o,s2.heap.get? b=some o->h₁.get? b=some o:=fun b o e=>hsb₁.extBut b o (by rw [hCs];exact A0S (A4e (A0I e))) (A0c _ (hH2 ▸ A0c _ e));have hacc:h₁.get? s2.heap.objs.size=some { cls:=.type "list",data:=.seq #[] }:=hsb₁.extBut _ _ hDC (A0c _ (hH2 ▸ A0y _ rfl));have hfp:∀ b∈fp,b<s2.heap.objs.size:=fun b hb'=>by
  obtain ⟨o,e,_⟩:=T.obj _ _ st2 b hb';exact A0I e
 have IC:Inv (La X (ts++fr) scope s2 H2 fp G2.objs.size) [] (nQ σ ts.length ix) (upd H2 s2.heap.objs.size (.lst [])) { s2 with heap:=h₁,toks:=s2.toks+([]:List (Str×Value)).length } :=
  MJ S I2 f2 hfp (A0h _) hCle hDC old hacc hns₁
 have st1:tn 0 h₁:=T.keep _ _ _ st2 fun b hb' o e=>old b o e;obtain ⟨W,⟨m0,w0⟩,turn⟩:=hW s2.heap.objs.size I2.fresh;obtain ⟨bg,bt,be⟩:=hb s2 H2 fp G2.objs.size;generalize hX:La X (ts++fr) scope s2 H2 fp G2.objs.size=Y at IC bg bt be;have eP:Y.prog=X.prog:=by rw [<- hX];rfl
 have eW:Y.w=X.w:=by rw [<- hX];rfl
 have eK:Y.K=X.K:=by rw [<- hX];rfl
 have eC:Y.calm=true:=by rw [<- hX];exact hc
 have eA:Y.A=X.A:=by rw [<- hX];rfl
 have eE:Y.env=compEnvC scope (jc X.env scope.names []) G2.objs.size X.env:=by rw [<- hX];rfl
 have eX:Y.xe=fun _ _=>False:=by rw [<- hX];rfl
 have stat:∀ {H':Hp},(∀ b∈fp,H' b=none)->∀ b∈fp,jm Y [] H' b:=fun hn b hb'=>by
  rw [<- hX];have z:=IC.ok;rw [<- hX] at z;refine ⟨hn b hb',(z.exf b hb').1,z.Li b hb',.inl hb',(z.exf b hb').2,fun p hp=>absurd (show p∈([]:List 0x17) from hp) 0xA⟩
 have fr0:∀ b∈fp,upd H2 s2.heap.objs.size (.lst []) b=none:=fun b hb'=>by rw [aj (A0S (hfp b hb'))];exact (f2 b hb').1
 have bot:∀ {α:Type}{t:Sem α}{R:α->Shared->Prop}{E:Value->Shared->Prop}{z:Shared},wpAny (model Y.prog Y.w) Y.A t R Y.xe z->wpAny 0x9 X.A t R E z:=fun {α t R E z} q=>by
  rw [eP,eW,eA,eX] at q;exact A1p q (fun _ _ y=>y) fun _ _ y=>y.elim
 have loop:codeAny 0x9 X.A (.compLoop 0x1F 0 (.ref it) (.ref s2.heap.objs.size) (compEnvC scope (jc X.env scope.names []) G2.objs.size X.env))
   (compPost 0x9 X.A X.xe use Qv (.ref s2.heap.objs.size) G2.objs.size) { s2 with heap:=h₁,toks:=s2.toks+([]:List (Str×Value)).length }:=by
  rw [<- eE];refine codeAny_loop rfl (fun n s'=>∃ i ys H',Inv Y [] (nQ σ ts.length ix) H' s'/\tn i s'.heap/\(∀ b∈fp,H' b=none)/\W i n ys H') (fun n s3 hI=>?_) m0 ⟨0,[],_,IC,st1,fr0,w0⟩;obtain ⟨i,ys,H3,I3,st3,fr3,w3⟩:=hI
  show wpAny _ _ ((compTurn 0x1F 0 (.ref it) (.ref s2.heap.objs.size) Y.env).onRaise (fun x=>do noteFrame x Y.env;theTreesLotGoes x)) _ _ s3
  refine wpAny_noted ?_;rw [compTurn_list];obtain ⟨hD3,hcase⟩:=turn i n ys H3 w3;rcases hcase with ⟨stop,qn⟩ | ⟨go,N,hN,step⟩
  ·have q:=T.done Y eP eW eK eC i [] s3 _ H3 (fun _ _=>False) I3 (stat fr3) st3 stop;rw [eA] at q;refine A0a (A2Y (A0a (A1p q (fun r s4 ⟨hr,I4⟩=>?_) fun _ _ y=>y.elim)));subst hr;refine A0s ?_;have b4:Un (frs X.stack) fp H2 H3 s2.heap s4.heap:=by have z:=I4.base;rw [<- hX] at z;exact z
   have ok4:nM X.prog X.w H3 s4.heap:=by have z:=I4.hok;rw [eP,eW] at z;exact z
   have os4:s4.os=s2.os:=by have z:=I4.os;rw [<- hX] at z;exact z
   have I5:Inv X pins σ H3 s4:=I2.call' os4 b4 ok4 I4.bare fun b hb'=>⟨(f2 b hb').2.2.2.1,(f2 b hb').2.1,(f2 b hb').2.2.2.2.1,(f2 b hb').2.2.2.2.2⟩;have fC:H3 G2.objs.size=none:=by have z:=I4.free;rw [eE] at z;exact z
   have nC:∃ m,s4.heap.Ns G2.objs.size m:=by obtain ⟨m,z,_⟩:=I4.loc;rw [eE] at z;exact ⟨m,z⟩
   exact fin _ _ H3 s4 I5 (I2.xG hCle fC) nC qn
  ·have q:=T.item Y eP eW eK eC i [] s3 _ H3 (fun _ _=>False) I3 (stat fr3) st3 go;rw [eA] at q;refine A0a (A2Y (A0a (A1p q (fun r s4 ⟨u,hr,h4⟩=>?_) fun _ _ y=>y.elim)));subst hr;refine A0a (A1p h4 (fun _ s5 ⟨x,H5,I5,r5,y5,Xb,fr5⟩=>?_) fun _ _ y=>y.elim);have I5':=I5.pinned (stat fr5) (T.obj _ _ Xb);refine A0a (bot (cN (bg _ s5 _ H5 x u _ I5' r5 (step x H5 y5)) fun _ s6 zq=>?_));obtain ⟨σ6,H6,I6,kp6,q6⟩:=zq;refine A0a (bot (cN (bt _ s6 σ6 H6 _ I6 q6) fun ok s7 zq=>?_));obtain ⟨H7,I7,q7⟩:=zq;have again:∀ {H8:Hp}{s8:Shared}{zs:List V}{m':Nat},Inv Y ([]++tE fp s5.heap) σ6 H8 s8->m'<n->W (i+1) m' zs H8->∃ m,m<n/\∃ i ys H',Inv Y [] (nQ σ ts.length ix) H' s8/\tn i s8.heap/\(∀ b∈fp,H' b=none)/\W i m ys H':=fun {H8 s8 zs m'} I8 hm w8=>by
    refine ⟨m',hm,i+1,zs,H8,(I8.mj).weak ?_ kp6,T.keep _ _ _ Xb fun b hb' o e=>(I8.pin (b,o) (A0z _ (A0z _ (iU hb' e)))).1,fun b hb'=>?_,w8⟩
    ·rw [I8.len,I3.len]
    ·obtain ⟨o,e,d⟩:=T.obj _ _ Xb b hb';exact (I8.pin (b,o) (A0z _ (A0z _ (iU hb' e)))).2.1
   cases ok with
   | false =>
    rw [A0f 0x6] at q7;obtain ⟨m',hm,w8⟩:=hN _ _ q7;exact A0s ⟨rfl,again I7 hm w8⟩
   | true =>
    rw [A0i rfl] at q7;refine A0a (A0a (bot (cN (be _ s7 σ6 H7 _ I7 q7) fun u8 s8 zq=>?_)));obtain ⟨y8,H8,I8,r8,hD8,hz,n8⟩:=zq;obtain ⟨m',hm,w8⟩:=hN _ _ n8;refine A0a (bot (cN (cT _ s8 σ6 H8 (.ref s2.heap.objs.size) [y8] _ [u8] (fun _ H9=>H9=upd H8 s2.heap.objs.size (.lst (ys++[y8]))) I8 rfl (.cons r8 .nil) ⟨_,ys,y8,rfl,rfl,hD8,hz,rfl⟩) fun _ s9 zq=>?_));obtain ⟨_,H9,I9,_,e9⟩:=zq;subst e9;exact A0s (A0s ⟨rfl,again I9 hm w8⟩)
 exact codeAny_compStart_list loop (T.self _ 0 _ _ _ st1 loop)
theorem j9 (hc:X.calm=true) (S:gO X.N X.env.scope scope ts fr ix) (hi:PI X tg iter wi)
  (hb:∀ s H fp C,PG 0x25 tg g/\PTs 0x25 ifs tt/\PE 0x25 elt te)
  (hs:∀ x,foldedSetIterable iter X.env x=pure x:=by intro _;rfl):PE X 0x1F (GQ ts.length ix wi g tt te):=by
 intro pins s σ H Q I h;rw [eval_ListComp];refine vV (use:=none) (Qv:=EP X pins σ Q) hc S hi hb hs I h fun D C H' s' I' f' n' q'=>?_;obtain ⟨m,hm⟩:=n';refine ⟨m,hm,fun h' sb=>⟨.ref D,H',?_,rfl,q'⟩⟩;exact I'.turned (t':=s'.toks) (fun b o hb' e=>(sb.2 b hb').trans e) f'.1 f'.2.1 f'.2.2.2.1 f'.2.2.2.2.1 f'.2.2.2.2.2
theorem GR {x:Str}{pos2:Pos} (hc:X.calm=true) (S:gO X.N X.env.scope scope ts fr ix) (hi:PI X tg iter wi)
  (hb:∀ s H fp C,PG 0x25 tg g/\PTs 0x25 ifs tt/\PE 0x25 elt te)
  (hN:X.N.Nodup) (hix:X.N[i]?=some x) (hx:Loc X.env.scope x)
  (hw:swapsWith 0x1F (some (.Name x pos')) pos2.line X.env=pure true:=by rfl)
  (hf:X.fn x=true\/X.env.scope.names.lookup x=some .local:=by first | exact .inl rfl | exact .inr rfl | assumption)
  (hs:∀ x,foldedSetIterable iter X.env x=pure x:=by intro _;rfl) :
  PS X (.Assign [.Name x pos'] 0x1F pos2) (fun D σ H=>GQ ts.length ix wi g tt te σ H fun v H'=>D.nx (σ.set i (some v)) H'):=by
 intro pins s σ H D I h;rw [exec_Assign_Name_used _ _ _ _ hw];refine A0a (A2Y (A0a ?_))
 show wpAny _ X.A (do let _ <- comprehension 0x1F scope X.env _ (newList []) false (eval iter X.env) (some (assign (.Name x pos') X.env))) _ _ s
 refine A0a (A1p (vV (use:=some (assign (.Name x pos') X.env)) (Qv:=fun _ s'=>SP X pins D .next s') hc S hi hb hs I h fun D' C H' s' I' f' n' q'=>?_) (fun _ s' hq=>A0s (A0s hq)) fun _ _ e=>e);obtain ⟨m,hm⟩:=n';refine wpAny_assign_Name (vJ I' hN hix hx (v:=.ref D') rfl (fun s'' I'' ⟨a,sb,ha⟩=>?_) hf);have hCa:C≠a:=by
  rcases ha with rfl | ha
  ·exact f'.2.1
  ·exact fun z=>f'.2.2.2.2.1 _ _ ha z.symm
 refine ⟨m,hm.sameBut sb hCa,fun h' sb'=>⟨_,H',?_,q'⟩⟩;exact I''.turned (t':=s''.toks) (fun b o hb' e=>(sb'.2 b hb').trans e) f'.1 f'.2.1 f'.2.2.2.1 f'.2.2.2.2.1 f'.2.2.2.2.2
end
abbrev Ah (D:Addr) (σ:St) (k:Nat) (ix:List Nat) (g:TG) (tt:TT) (te:TE) (x:V) (ys:List V) (H:Hp) (N:List V->Hp->Prop):Prop :=
 g x (nQ σ k ix) H fun σ2 H4=>Kp (nQ σ k ix) σ2/\tt σ2 H4 fun b H5=>if b=true then te σ2 H5 fun y H6=>H6 D=some (.lst ys)/\ys.length<sizeLine/\N (ys++[y]) (upd H6 D (.lst (ys++[y]))) else N ys H5
theorem xR {J:It}{item:Nat->V}{k:Nat}{Q:VK} (Pv:Nat->List V->Hp->Prop)
  (hJ:∀ i ys H,Pv i ys H->(i<n->J.go i H/\∀ x H',J.Jr i H x H'->H'=H/\x=item i)/\(n<=i->J.stop i H)) (h0:Pv 0 [] (upd H1 D (.lst []))) (hD:∀ i ys H,Pv i ys H->H D=some (.lst ys))
  (hs:∀ i ys H,i<n->Pv i ys H->Ah D σ k ix g tt te (item i) ys H (Pv (i+1))) (hd:∀ ys H,Pv n ys H->Q (.ref D) H):oE J D σ k ix g tt te Q H1:=by
 refine ⟨fun i m ys H=>m=n - i/\i<=n/\Pv i ys H,⟨n,by simp,A1f _,h0⟩,?_⟩;rintro i m ys H ⟨rfl,hi,p⟩;refine ⟨hD i ys H p,?_⟩;obtain ⟨h1,h2⟩:=hJ i ys H p
 by_cases hlt:i<n
 ·obtain ⟨hg,hy⟩:=h1 hlt;refine .inr ⟨hg,Pv (i+1),fun zs H' p'=>⟨n - (i+1),by lia,rfl,hlt,p'⟩,fun x H' y=>?_⟩;obtain ⟨rfl,rfl⟩:=hy x H' y;exact hs i ys H' hlt p
 ·have e:i=n:=by lia
  subst e;exact .inl ⟨h2 (A0h _),hd ys H p⟩
theorem Du {lo:Int}{k:Nat}{Q:VK} (Pv:Nat->List V->Hp->Prop) (h0:Pv 0 [] (upd H1 D (.lst []))) (hD:∀ i ys H,Pv i ys H->H D=some (.lst ys))
  (hs:∀ i ys H,i<n->Pv i ys H->Ah D σ k ix g tt te (.int (lo+i)) ys H (Pv (i+1))) (hd:∀ ys H,Pv n ys H->Q (.ref D) H):oE (Xa lo n) D σ k ix g tt te Q H1 :=
 xR (item:=fun i=>.int (lo+i)) Pv (fun i ys H _=>⟨fun h=>⟨h,fun x H' y=>y⟩,fun h=>h⟩) h0 hD hs hd
theorem qz {k:Nat}{Q:VK} (Pv:Nat->List V->Hp->Prop) (hl:∀ i ys H,Pv i ys H->bR K H a xs) (h0:Pv 0 [] (upd H1 D (.lst []))) (hD:∀ i ys H,Pv i ys H->H D=some (.lst ys))
  (hs:∀ i ys H x,xs[i]?=some x->Pv i ys H->Ah D σ k ix g tt te x ys H (Pv (i+1))) (hd:∀ ys H,Pv xs.length ys H->Q (.ref D) H):oE (X8 K a) D σ k ix g tt te Q H1 :=
 xR (n:=xs.length) (item:=fun i=>xs.getD i .non) Pv (fun i ys H p=>⟨fun h=>⟨⟨xs,xs[i],hl i ys H p,by simp [h]⟩,fun x H' y=>⟨y.1,by
  have:=y.2 xs (hl i ys H p);rw [qQ,this];rfl⟩⟩,fun h=>⟨xs,hl i ys H p,h⟩⟩) h0 hD (fun i ys H h p=>hs i ys H _ (by rw [qQ,jR h];rfl) p) hd
abbrev lW (l:List Nat):Str:=⟨l.toArray⟩
theorem mU (x:Str):lW x.cps.toList=x:=by cases x;simp [lW]
theorem jq (l:List Nat):(lW l).length=l.length:=by simp [lW,Str.length]
theorem xT {x y:Str} (h:x.cps.toList=y.cps.toList):x=y:=by
 rw [<- mU x,<- mU y,h]
def rF {α:Type} (xs:List α) (lo hi:Option Int):List α:=(xs.drop (HT.eO xs.length 0 lo)).take (HT.eO xs.length xs.length hi - HT.eO xs.length 0 lo)
theorem tW (lo hi:Option Int) (n:Nat):Builtin.Str.strSliceIndices lo hi 1 n=(List.range (HT.eO n n hi - HT.eO n 0 lo)).map (HT.eO n 0 lo+·):=by
 rw [<- sliceRange_one];unfold Builtin.Str.strSliceIndices;simp only [show (1:Int) > 0 by decide,A2U]
 congr 1
 ·cases lo with
  | none=>simp [HT.eO]
  | some i=>simp only [HT.eO];by_cases h:i<0 <;> simp only [h,A2U,A2R] <;> lia
 ·cases hi with
  | none=>simp [HT.eO]
  | some i=>simp only [HT.eO];by_cases h:i<0 <;> simp only [h,A2U,A2R] <;> lia
theorem Dv (x:Str) (lo hi:Option Int):Txt.slice x lo hi=lW (rF x.cps.toList lo hi):=by
 have e:(Builtin.Str.strSliceIndices lo hi 1 x.length).filterMap (x.cps[·]?)=rF x.cps.toList lo hi:=by
  rw [tW,pick_run];unfold rF;simp only [Str.length,A1w]
 unfold Txt.slice
 split
 ·rename_i h
  have hl:(Builtin.Str.strSliceIndices lo hi 1 x.length).length=x.length:=by simpa using h
  have h1:rF x.cps.toList lo hi=x.cps.toList:=by
   rw [tW,cg,List.length_range] at hl;have hn:x.length=x.cps.toList.length:=by simp [Str.length]
   rw [hn] at hl;have b1:=HT.Mj x.cps.toList.length x.cps.toList.length (A0h _) hi;unfold rF
   by_cases h0:HT.eO x.cps.toList.length 0 lo=0
   ·rw [h0,A4a,A2K 0x3]
   ·have:x.cps.toList.length=0:=by lia
    have h2:x.cps.toList=[]:=List.length_eq_zero_iff.mp this;rw [h2];simp
  rw [h1,mU]
 ·rw [e]
inductive rSlS (x:V) (lo hi:Option Int) (H:Hp) (Q:VK):Prop
 | mk (z:Str) (_:x=.str z) (_:z.length<=sizeLine) (_:Q (.str (lW (rF z.cps.toList lo hi))) H):rSlS x lo hi H Q
theorem MK:SlR X rSlS:=by
 intro pins s σ H x v vl vu lo hi sl Q I rx hs pl pu h;obtain ⟨z,rfl,hzl,q⟩:=h;obtain ⟨t,rfl⟩:=rx;obtain ⟨l,rfl,el⟩:∃ l:Option (Int×Tok),vl=partValue l/\l.map (·.1)=lo:=by
  cases pl with
  | none=>exact ⟨none,rfl,rfl⟩
  | int i t=>exact ⟨some (i,t),rfl,rfl⟩
 obtain ⟨u,rfl,eu⟩:∃ l:Option (Int×Tok),vu=partValue l/\l.map (·.1)=hi:=by
  cases pu with
  | none=>exact ⟨none,rfl,rfl⟩
  | int i t=>exact ⟨some (i,t),rfl,rfl⟩
 subst el eu;refine ⟨"str",_,F.slot_str_getitem.lookup,typeIs_str s z t,wpAny_getItem_str_slice (l:=l) (u:=u) (st:=none) hs rfl ?_⟩;have e:=Dv z (l.map (·.1)) (u.map (·.1));unfold Txt.slice at e;unfold sliceMade;have hp:slicePicked z l u none=Builtin.Str.strSliceIndices (l.map (·.1)) (u.map (·.1)) 1 z.length:=rfl;rw [hp];have h1:(((none:Option (Int×Tok)).map (·.1)).getD 1==1&&(Builtin.Str.strSliceIndices (l.map (·.1)) (u.map (·.1)) 1 z.length).length==z.length)=((1:Int)==1&&(Builtin.Str.strSliceIndices (l.map (·.1)) (u.map (·.1)) 1 z.length).length==z.length):=rfl;rw [h1]
 by_cases hc:((1:Int)==1&&(Builtin.Str.strSliceIndices (l.map (·.1)) (u.map (·.1)) 1 z.length).length==z.length)=true
 ·rw [A0i hc] at e ⊢;exact ⟨.str z,H,I,⟨t,rfl⟩,by rw [<- e] at q;exact q⟩
 ·rw [A0f hc] at e ⊢;rw [<- e] at q;refine ⟨?_,⟨.str _,H,I.tok _,⟨_,rfl⟩,q⟩⟩;have hle:=Txt.slice_le z (l.map (·.1)) (u.map (·.1));unfold Txt.slice at hle;rw [A0f hc] at hle;exact A0M hle hzl
theorem vW:∀ {ts:List Str}{us:List Value},Vals (ts.map V.str) us->∃ l:List (Str×Tok),us=strValues l/\l.map (·.1)=ts
 | [],_,r=>by
  rw [A3p] at r;cases r;exact ⟨[],rfl,rfl⟩
 | t::ts,_,r=>by
  rw [A0m] at r;cases r with
  | cons r1 r2 =>
   obtain ⟨k,rfl⟩:=r1;obtain ⟨l,rfl,e⟩:=vW r2;exact ⟨(t,k)::l,rfl,by rw [A0m,e]⟩
inductive rJoin (K:W.Frag) (x:V) (vs:List V) (H:Hp) (Q:VK):Prop
 | mk (sep:Str) (l:Addr) (ts:List Str) (_:x=.str sep) (_:vs=[.ref l]) (_:bR K H l (ts.map V.str)) (_:JoinOk sep ts=true) (_:Q (.str (Txt.join sep ts)) H):rJoin K x vs H Q
theorem T3:MtR X "str.join" (rJoin X.K):=by
 intro pins s σ H x vs v us Q I rx rv h;obtain ⟨sep,l,ts,rfl,rfl,hq,ok,q⟩:=h;obtain ⟨t,rfl⟩:=rx;obtain ⟨u,rfl,ru⟩:=rv.one;cases ru;obtain ⟨its,r,p,hz⟩:=I.list hq;obtain ⟨l',rfl,el⟩:=vW r;exact SC.join p.isList el ok fun t' k=>⟨.str _,H,I.tok _,⟨_,rfl⟩,q⟩
theorem Dw (hc:X.calm=true) (hin:X.A.in1.handled=none):jj X (.builtin "all") (fun xs H Q=>∃ (p:Addr) (bs:List Bool),xs=[.ref p]/\bR X.K H p (bs.map V.bl)/\Q (.bl (bs.all id)) H):=by
 intro pins s σ H xs us Q I r h;obtain ⟨p,bs,rfl,hq,q⟩:=h;obtain ⟨u,rfl,ru⟩:=vals1 r;cases ru;obtain ⟨its,rv,pl,hz⟩:=I.list hq;have hlen:=rv.length;rw [cg] at hlen;have hne:p≠s.heap.objs.size:=by
  obtain ⟨o,n,e,_⟩:=pl;exact A0S (A0I e)
 refine call_all_walk (A3m pl.isList ?_);refine ⟨s.heap.objs.size,_,_,its.toArray.size,_,_,fun i=>bs.getD i true,rfl,Walks.list hin s.heap.objs.size p hne its.toArray,⟨⟨_,A0y _ rfl,rfl,rfl⟩,?_⟩,?_,?_⟩
 ·obtain ⟨o,n,e,c,d,dd⟩:=pl;exact ⟨o,A0c _ e,c,n,dd⟩
 ·intro i v s' Q' E' hv hQ';have hv':its[i]?=some v:=by simpa using hv
  have hi:i<its.length:=(A0j.mp hv').1;have hb:(bs.map V.bl)[i]?=some (V.bl (bs.getD i true)):=by
   rw [jQ,jR 0x3,qQ,jR 0x3];rfl
  obtain ⟨u,hu,ru⟩:=rv.get hb;rw [hv'] at hu;cases hu;cases ru;exact A2c hQ'
 ·intro h' tk kk;have e:(List.range its.toArray.size).all (fun i=>bs.getD i true)=bs.all id:=by
   rw [A0u,<- hlen,A1g,A1u,A1u]
   constructor
   ·intro z b hb;obtain ⟨i,hi,rfl⟩:=A1S.mp hb;have:=z i (List.mem_range.mpr hi);rw [qQ,jR hi] at this;exact this
   ·intro z i hi;have hi':=List.mem_range.mp hi;rw [qQ,jR hi'];exact z _ (A0R hi')
  rw [e];have I1:Inv X pins σ H { s with heap:=s.heap.push { cls:=.type "list_iterator",data:=.fields #[.ref p,.int 0 0] } }:=I.kept (t':=s.toks) fun b o e=>A0c _ e;obtain ⟨f0,f1,f2,f3,f4,f5⟩:=I.xG (A0h _) (I.hok.fresh (A0h _));exact ⟨.bl (bs.all id),H,I1.turned (fun b o hb e=>kk b o (by simpa using hb) e) f0 f1 f3 f4 f5,rfl,q⟩
theorem Ai:jj X (.builtin "isinstance") (fun xs H Q=>∃ x T t b,xs=[x,.ty T]/\oV X.K H x t/\PySem.W.kitOne X.K t (.type T)=some b/\Q (.bl b) H):=by
 intro pins s σ H xs us Q I r h;obtain ⟨x,T,t,b,rfl,ty,e,q⟩:=h;obtain ⟨u,u',rfl,ru,ru'⟩:=vals2 r;cases ru';exact Jw I ru ty e fun tk=>⟨.bl b,H,I.tok _,rfl,q⟩
theorem Aj (h:X.K=K:=by rfl):Xn X (Xo K):=h ▸ bD
theorem T4 (h:X.K=K:=by rfl):Xn X (Xp K):=h ▸ bA
inductive VN (K:W.Frag) (xs:List V) (H:Hp) (Q:VK):Prop
 | mk (p:Addr) (ys:List V) (_:xs=[.ref p]) (_:(bR K H p ys\/bZ K H p ys)) (_:Q (.int ys.length) H):VN K xs H Q
theorem nG (h:X.K=K:=by rfl):jj X (.builtin "len") (VN K):=h ▸ fun pins s σ H xs us Q I r ⟨p,ys,a,b,c⟩=>cI pins s σ H xs us Q I r ⟨p,ys,a,b,c⟩
inductive rIsi (K:W.Frag) (xs:List V) (H:Hp) (Q:VK):Prop
 | mk (x:V) (T:String) (t:Value) (b:Bool) (_:xs=[x,.ty T]) (_:oV K H x t) (_:PySem.W.kitOne K t (.type T)=some b) (_:Q (.bl b) H):rIsi K xs H Q
theorem cR (h:X.K=K:=by rfl):jj X (.builtin "isinstance") (rIsi K):=h ▸ fun pins s σ H xs us Q I r ⟨p,ys,t,d,a,b,c,e⟩=>Ai pins s σ H xs us Q I r ⟨p,ys,t,d,a,b,c,e⟩
inductive rAll (K:W.Frag) (xs:List V) (H:Hp) (Q:VK):Prop
 | mk (p:Addr) (bs:List Bool) (_:xs=[.ref p]) (_:bR K H p (bs.map V.bl)) (_:Q (.bl (bs.all id)) H):rAll K xs H Q
theorem qC (hc:X.calm=true) (hin:X.A.in1.handled=none) (h:X.K=K:=by rfl):jj X (.builtin "all") (rAll K):=h ▸ fun pins s σ H xs us Q I r ⟨p,ys,a,b,c⟩=>Dw hc hin pins s σ H xs us Q I r ⟨p,ys,a,b,c⟩
theorem cG:bootBuiltins "isinstance"=some (.builtin "isinstance"):=by decide +kernel
theorem Dz:bootBuiltins "all"=some (.builtin "all"):=by decide +kernel
theorem DG:bootBuiltins "max"=some (.builtin "max"):=by decide +kernel
theorem jx:bootBuiltins "sorted"=some (.builtin "sorted"):=by decide +kernel
theorem xU:bootBuiltins "bool"=some (.type "bool"):=by decide +kernel
theorem Xw:bootBuiltins "int"=some (.type "int"):=by decide +kernel
theorem MP:bootBuiltins "str"=some (.type "str"):=by decide +kernel
theorem pA:bootBuiltins "list"=some (.type "list"):=by decide +kernel
theorem Ak:bootBuiltins "tuple"=some (.type "tuple"):=by decide +kernel
theorem N5:bootBuiltins "zip"=some (.type "zip"):=by decide +kernel
theorem Xx {its:Array Value}{x:Value} (hit:s.heap.IsTupleIter it t i) (ht:s.heap.IsTuple t its) (hx:its[i]?=some x)
  (hQ:∀ h',h'.IsTupleIter it t (i+1)->Heap.SameBut it s.heap h'->Q x { s with heap:=h' }):wpAny 0x14 A (Builtin.SmallTypes.nextOf (.ref it)) Q E s:=by
 obtain ⟨o,ho,hc,hd⟩:=id hit;obtain ⟨ot,hot,_,nt,hdt⟩:=ht;unfold Builtin.SmallTypes.nextOf;refine A0a (A1z (name:=Str.ofString "__next__") hit.typeIs A2m (A1Y A2m hit.typeIs A3R ?_ (A3I _)))
 show wpAny _ _ (field (.ref it) 0 >>= _) _ _ s;refine A0a (A1L ho hd (x:=.ref t) rfl ?_)
 show wpAny _ _ (if (Value.ref t==Value.none)=true then _ else _) _ _ s;rw [A0f (show ¬ ((Value.ref t==Value.none)=true) from fun z=>A0p z)]
 show wpAny _ _ (field (.ref it) 1 >>= _) _ _ s;refine A0a (A1L ho hd (x:=.int i 0) rfl ?_)
 show wpAny _ _ (seqItems? (.ref t) >>= _) _ _ s;refine A0a (A2n hot hdt ?_);simp only [A3o,hx]
 refine A0a (wpAny_setField ho hd 0xA (A0s ⟨x,rfl,A0s (hQ _ ⟨_,Heap.get?_update_self _ ho (Obj.isFreed_of_fields (Obj.data_mapFields hd _)),(Obj.cls_mapFields ..).trans hc,by rw [Obj.data_mapFields hd];simp [rawInt]⟩ (Heap.SameBut.update ..))⟩))
theorem DK {its:Array Value} (hh:A.handled=none) (hit:s.heap.IsTupleIter it t i) (ht:s.heap.IsTuple t its) (hx:its[i]?=none)
  (hE:∀ h' e,Heap.ExtBut it s.heap h'->(∃ o,h'.get? e=some o/\o.cls=.type "StopIteration")->E (.ref e) { s with heap:=h' }):wpAny 0x14 A (Builtin.SmallTypes.nextOf (.ref it)) Q E s:=by
 obtain ⟨o,ho,hc,hd⟩:=id hit;obtain ⟨ot,hot,_,nt,hdt⟩:=ht;unfold Builtin.SmallTypes.nextOf;refine A0a (A1z (name:=Str.ofString "__next__") hit.typeIs A2m (A1Y A2m hit.typeIs A3R ?_ (A3I _)))
 show wpAny _ _ (field (.ref it) 0 >>= _) _ _ s;refine A0a (A1L ho hd (x:=.ref t) rfl ?_)
 show wpAny _ _ (if (Value.ref t==Value.none)=true then _ else _) _ _ s;rw [A0f (show ¬ ((Value.ref t==Value.none)=true) from fun z=>A0p z)]
 show wpAny _ _ (field (.ref it) 1 >>= _) _ _ s;refine A0a (A1L ho hd (x:=.int i 0) rfl ?_)
 show wpAny _ _ (seqItems? (.ref t) >>= _) _ _ s;refine A0a (A2n hot hdt ?_);simp only [A3o,hx]
 refine A0a (A4u (A0a (wpAny_setField ho hd 0xA ?_)));show wpAny _ _ (newExc (.type "StopIteration") [] >>= _) _ _ _
 refine A0a ?_;simp only [newExc,newTuple];refine A0a (A2d ?_ (by size_fits));refine A0a (m:=firstArgMember _ _) (wpAny_of_eq (a:=Value.none) (by first | rfl | (simp only [firstArgMember];rfl)) ?_);refine A2d ?_ (by size_fits)
 simp only [raiseNew];refine A0a (wpAny_handled ?_);first | rw [show A.in1.handled=none from hh] | rw [hh]
 refine A0a (A0s (wpAny_throw (hE _ _ (((Heap.SameBut.update ..).extBut.push _).push _) ⟨_,A0y _ rfl,rfl⟩)))
structure vX (P:Program) (w:World) (K:PySem.W.Frag) (it:Addr) (go stop:Nat->Hp->Prop) (Jr:Nat->Hp->V->Prop) (tn:Nat->Heap->Prop):Prop where
 obj:∀ i h,tn i h->∃ o,h.get? it=some o/\∀ v,o.data≠.cell v
 keep:∀ i h h',tn i h->(∀ o,h.get? it=some o->h'.get? it=some o)->tn i h'
 item:∀ (X:Cx) (pins:List 0x17) (σ:St) (H:Hp) (s₀:Shared) (i:Nat) (fp:List Addr),X.prog=P->X.w=w->X.K=K->Inv X pins σ H s₀->(∀ b∈fp,jm X pins H b)->go i H ->
  ∃ U:Heap->Prop,U s₀.heap/\(∀ h h',U h->(∀ b o,b∉fp->h.get? b=some o->h'.get? b=some o)->U h')/\∃ x,Jr i H x /\
   ∀ (A:Around) (s:Shared) (Q:Value->Shared->Prop) (E:Value->Shared->Prop),U s.heap->tn i s.heap->(∀ u h' tk,RelV x u->tn (i+1) h'->Heap.SameBut it s.heap h'->Q u { s with heap:=h',toks:=tk }) ->
    wpAny (model P w) A (Builtin.SmallTypes.nextOf (.ref it)) Q E s
 done:∀ (X:Cx) (pins:List 0x17) (σ:St) (H:Hp) (s₀:Shared) (i:Nat) (fp:List Addr),X.prog=P->X.w=w->X.K=K->Inv X pins σ H s₀->(∀ b∈fp,jm X pins H b)->stop i H ->
  ∃ U:Heap->Prop,U s₀.heap/\(∀ h h',U h->(∀ b o,b∉fp->h.get? b=some o->h'.get? b=some o)->U h') /\
   ∀ (A:Around) (s:Shared) (Q:Value->Shared->Prop) (E:Value->Shared->Prop),A.handled=none->U s.heap->tn i s.heap->(∀ h' e,Heap.ExtBut it s.heap h'->(∃ o,h'.get? e=some o/\o.cls=.type "StopIteration")->E (.ref e) { s with heap:=h' }) ->
    wpAny (model P w) A (Builtin.SmallTypes.nextOf (.ref it)) Q E s
theorem tX (I:Inv X pins σ H s) (hf:∀ b∈fp,jm X pins H b) {o:Obj} (e:X.base.get? a=some o):a∉fp:=fun hb=>by
 rcases (hf a hb).2.2.2.1 with z | z
 ·exact I.ok.Jp a o e z
 ·exact absurd (A0x (A0I (I.ok.bs a o e).1) z) (A1U _)
theorem vY (I:Inv X pins σ H s) (hf:∀ b∈fp,jm X pins H b) (h:bZ X.K H a xs):a∉fp:=by
 rcases h with (h | ⟨o,h⟩) | ⟨o,its,n,hk,_⟩
 ·exact fun hb=>by rw [(hf a hb).1] at h;cases h
 ·exact fun hb=>by rw [(hf a hb).1] at h;cases h
 ·exact tX I hf (I.ok.mod.kin a o hk)
theorem vZ (I:Inv X pins σ H s) (hf:∀ b∈fp,jm X pins H b) (h:bR X.K H a xs):a∉fp:=by
 rcases h with (h | ⟨o,h⟩) | ⟨o,its,n,hk,_⟩
 ·exact fun hb=>by rw [(hf a hb).1] at h;cases h
 ·exact fun hb=>by rw [(hf a hb).1] at h;cases h
 ·exact tX I hf (I.ok.mod.kin a o hk)
theorem GX (a it:Addr):vX P w K it (fun i H=>∃ xs x,bZ K H a xs/\xs[i]?=some x) (fun i H=>∃ xs,bZ K H a xs/\xs.length<=i) (fun i H x=>∀ xs,bZ K H a xs->xs[i]?=some x) (fun i h=>h.IsTupleIter it a i) where
 obj:=fun i h ⟨o,e,c,d⟩=>⟨o,e,fun v z=>by rw [d] at z;cases z⟩
 keep:=fun i h h' ⟨o,e,r⟩ k=>⟨o,k o e,r⟩
 item:=fun X pins σ H s₀ i fp hP hw hK I hf ⟨xs,x,hq,hx⟩=>by
  subst hP hw hK;obtain ⟨its,rv,p,_⟩:=I.tuple hq;have na:=vY I hf hq;obtain ⟨u,hu,ru⟩:=rv.get hx;refine ⟨fun h=>h.IsTuple a its.toArray,p,fun h h' ⟨o,e,r⟩ k=>⟨o,k a o na e,r⟩,x,fun ys hy=>by rw [I.Jq hy hq];exact hx,fun A s Q E hU st hQ=>?_⟩;exact Xx st hU (x:=u) (by simpa using hu) fun h' st' sb=>hQ u h' s.toks ru st' sb
 done:=fun X pins σ H s₀ i fp hP hw hK I hf ⟨xs,hq,hx⟩=>by
  subst hP hw hK;obtain ⟨its,rv,p,_⟩:=I.tuple hq;have na:=vY I hf hq;have hl:=rv.length;exact ⟨fun h=>h.IsTuple a its.toArray,p,fun h h' ⟨o,e,r⟩ k=>⟨o,k a o na e,r⟩,fun A s Q E hh hU st hE=>DK hh st hU (by simp;lia) hE⟩
theorem GZ (a it:Addr):vX P w K it (fun i H=>∃ xs x,bR K H a xs/\xs[i]?=some x) (fun i H=>∃ xs,bR K H a xs/\xs.length<=i) (fun i H x=>∀ xs,bR K H a xs->xs[i]?=some x) (fun i h=>h.IsListIter it a i) where
 obj:=fun i h ⟨o,e,c,d⟩=>⟨o,e,fun v z=>by rw [d] at z;cases z⟩
 keep:=fun i h h' ⟨o,e,r⟩ k=>⟨o,k o e,r⟩
 item:=fun X pins σ H s₀ i fp hP hw hK I hf ⟨xs,x,hq,hx⟩=>by
  subst hP hw hK;obtain ⟨its,rv,p,_⟩:=I.list hq;have na:=vZ I hf hq;obtain ⟨u,hu,ru⟩:=rv.get hx;refine ⟨fun h=>h.IsList a its.toArray,p.isList,fun h h' ⟨o,e,r⟩ k=>⟨o,k a o na e,r⟩,x,fun ys hy=>by rw [I.zW hy hq];exact hx,fun A s Q E hU st hQ=>?_⟩;exact wpAny_nextOf_list_item st hU (x:=u) (by simpa using hu) fun h' st' sb=>hQ u h' s.toks ru st' sb
 done:=fun X pins σ H s₀ i fp hP hw hK I hf ⟨xs,hq,hx⟩=>by
  subst hP hw hK;obtain ⟨its,rv,p,_⟩:=I.list hq;have na:=vZ I hf hq;have hl:=rv.length;exact ⟨fun h=>h.IsList a its.toArray,p.isList,fun h h' ⟨o,e,r⟩ k=>⟨o,k a o na e,r⟩,fun A s Q E hh hU st hE=>wpAny_nextOf_list_end hh st hU (by simp;lia) hE⟩
structure ZA (z TI TO i1 i2:Addr):Prop where
 p1:TI≠z
 p2:TO≠z
 p3:i1≠z
 p4:i2≠z
 p5:TI≠TO
 p6:TI≠i1
 p7:TI≠i2
 p8:TO≠i1
 p9:TO≠i2
 p0:i1≠i2
theorem T5 {TI TO:Addr}{x:V}{a b:Value}{U1 U2 T1 T2 T6 T2':Heap->Prop} (D:ZA z TI TO i1 i2)
  (hz:IsZip s.heap z TI TO .none) (hTI:IsPair s.heap TI (.ref i1) (.ref i2)) (hTO:IsPair s.heap TO a b) (u1:U1 s.heap) (u2:U2 s.heap) (t1:T1 s.heap) (t2:T2 s.heap)
  (k1:∀ h h',U1 h->(∀ b o,b∉[z,TI,TO,i1,i2]->h.get? b=some o->h'.get? b=some o)->U1 h') (k2:∀ h h',U2 h->(∀ b o,b∉[z,TI,TO,i1,i2]->h.get? b=some o->h'.get? b=some o)->U2 h')
  (q1:∀ h h',T1 h->(∀ o,h.get? i1=some o->h'.get? i1=some o)->T1 h') (q2:∀ h h',T2 h->(∀ o,h.get? i2=some o->h'.get? i2=some o)->T2 h')
  (q1':∀ h h',T6 h->(∀ o,h.get? i1=some o->h'.get? i1=some o)->T6 h') (q2':∀ h h',T2' h->(∀ o,h.get? i2=some o->h'.get? i2=some o)->T2' h')
  (d1:∀ (A:Around) (s:Shared) (Q:Value->Shared->Prop) (E:Value->Shared->Prop),U1 s.heap->T1 s.heap->(∀ u h' tk,RelV x u->T6 h'->Heap.SameBut i1 s.heap h'->Q u { s with heap:=h',toks:=tk })->wpAny 0x14 A (Builtin.SmallTypes.nextOf (.ref i1)) Q E s)
  (d2:∀ (A:Around) (s:Shared) (Q:Value->Shared->Prop) (E:Value->Shared->Prop),U2 s.heap->T2 s.heap->(∀ u h' tk,RelV y u->T2' h'->Heap.SameBut i2 s.heap h'->Q u { s with heap:=h',toks:=tk })->wpAny 0x14 A (Builtin.SmallTypes.nextOf (.ref i2)) Q E s)
  (hQ:∀ u v h' tk,RelV x u->RelV y v->IsZip h' z TI TO (rawInt s.heap.objs.size)->IsPair h' TI (.ref i1) (.ref i2)->IsPair h' TO u v->T6 h'->T2' h'->IsPair h' s.heap.objs.size u v ->
   (∀ c o,c≠z->c≠TO->c≠i1->c≠i2->s.heap.get? c=some o->h'.get? c=some o)->Q (.ref s.heap.objs.size) { s with heap:=h',toks:=tk }) :
  wpAny 0x14 A (Builtin.«zip.__next__» ⟨[.ref z],[]⟩) (fun fin s'=>∃ v,fin=.done (.ret v)/\Q v s') E s:=by
 have mz:∀ {c:Addr},c∉[z,TI,TO,i1,i2]->c≠z/\c≠TO/\c≠i1/\c≠i2:=fun {c} h=>by simp at h;exact ⟨h.1,h.2.2.1,h.2.2.2.1,h.2.2.2.2⟩
 show wpAny _ _ (field (.ref z) 2 >>= _) _ _ _;refine A0a (A1L hz rfl (x:=.bool false) rfl ?_)
 show wpAny _ _ (field (.ref z) 3 >>= _) _ _ _;refine A0a (A1L hz rfl (x:=.ref TI) rfl (A0a (A2n hTI rfl ?_)))
 show wpAny _ _ (Builtin.SmallTypes.ownedTupleIsFree (.ref z) >>= _) _ _ _;refine A0a ?_;unfold Builtin.SmallTypes.ownedTupleIsFree
 refine A0a (A1L hz rfl (x:=.none) rfl (A0s ?_));simp only [A2U];refine A0a (A4u (A0a (A1L hz rfl (x:=.ref TO) rfl (A0a (A2o hz 0xA fun g1 hz1 hs1=>?_)))))
 replace hz1:IsZip g1 z TI TO .ellipsis:=hz1
 refine A0a ?_;simp only [List.zipIdx_cons,List.zipIdx_nil,A3H,List.forIn_nil];refine A0a (A0a (A4k ?_));show wpAny _ _ (Builtin.SmallTypes.nextOf (.ref i1) >>= _) _ _ _
 refine A0a (d1 _ _ _ _ (k1 _ _ u1 fun c o hc e=>hs1.extBut _ _ (mz hc).1 e) (q1 _ _ t1 fun o e=>hs1.extBut _ _ D.p3 e) fun u g2 tk2 ru t1b hs2=>A0s ?_);have N6:IsPair g2 TO a b:=hs2.extBut _ _ D.p8 (hs1.extBut _ _ D.p2 hTO);refine A0a (A2n N6 rfl (A0a (A3w N6 fun g3 T7 hs3=>?_)))
 replace T7:IsPair g3 TO u b:=T7
 refine A0a (A4I (A0s (A0a (A0a (A4k ?_)))));show wpAny _ _ (Builtin.SmallTypes.nextOf (.ref i2) >>= _) _ _ _
 refine A0a (d2 _ _ _ _ (k2 _ _ u2 fun c o hc e=>hs3.extBut _ _ (mz hc).2.1 (hs2.extBut _ _ (mz hc).2.2.1 (hs1.extBut _ _ (mz hc).1 e))) (q2 _ _ t2 fun o e=>hs3.extBut _ _ D.p9.symm (hs2.extBut _ _ D.p0.symm (hs1.extBut _ _ D.p4 e))) fun v g4 tk4 rv t2b VP=>A0s ?_);have hTO4:IsPair g4 TO u b:=VP.extBut _ _ D.p9 T7;refine A0a (A2n hTO4 rfl (A0a (A3w hTO4 fun g5 T8 VR=>?_)))
 replace T8:IsPair g5 TO u v:=T8
 refine A0a (A4I (A0s (A0s (A0a (A2n T8 rfl (A0a (wpAny_newTuple ?_)))))));have sz:g5.objs.size=s.heap.objs.size:=by rw [VR.1,VP.1,hs3.1,hs2.1,hs1.1]
 have all5:∀ c o,c≠z->c≠TO->c≠i1->c≠i2->s.heap.get? c=some o->g5.get? c=some o:=fun c o c1 c2 c3 c4 e=>VR.extBut _ _ c2 (VP.extBut _ _ c4 (hs3.extBut _ _ c2 (hs2.extBut _ _ c3 (hs1.extBut _ _ c1 e))));have hz5:IsZip g5 z TI TO .ellipsis:=VR.extBut _ _ D.p2.symm (VP.extBut _ _ D.p4.symm (hs3.extBut _ _ D.p2.symm (hs2.extBut _ _ D.p3.symm hz1)));have t15:T6 g5:=q1' _ _ t1b fun o e=>VR.extBut _ _ D.p8.symm (VP.extBut _ _ D.p0 (hs3.extBut _ _ D.p8.symm e));have t25:T2' g5:=q2' _ _ t2b fun o e=>VR.extBut _ _ D.p9.symm e;have zlt:z<g5.objs.size:=A0I hz5
 show wpAny _ _ (Builtin.SmallTypes.ownedTupleHandOut (.ref z) (.ref g5.objs.size) >>= _) _ _ _;refine A0a ?_;unfold Builtin.SmallTypes.ownedTupleHandOut
 have hz6:IsZip (g5.push { cls:=.type "tuple",data:=.seq #[u,v] }) z TI TO .ellipsis:=A0c _ hz5;refine A0a (A2o hz6 0xA fun g7 hz7 hs7=>?_)
 replace hz7:IsZip g7 z TI TO (rawInt g5.objs.size):=hz7
 refine A2o hz7 0xA fun g8 hz8 hs8=>?_
 replace hz8:IsZip g8 z TI TO (rawInt g5.objs.size):=hz8
 have up8:∀ c o,c≠z->g5.get? c=some o->g8.get? c=some o:=fun c o c1 e=>hs8.extBut _ _ c1 (hs7.extBut _ _ c1 (A0c _ e));have hT8:IsPair g8 g5.objs.size u v:=hs8.extBut _ _ (A3P zlt) (hs7.extBut _ _ (A3P zlt) (A0y _ rfl));rw [sz] at hz8 hT8;refine A0s ⟨_,rfl,?_⟩
 show Q (.ref g5.objs.size) _;rw [sz]
 exact hQ u v g8 _ ru rv hz8 (up8 _ _ D.p1 (all5 _ _ D.p1 D.p5 D.p6 D.p7 hTI)) (up8 _ _ D.p2 T8) (q1' _ _ t15 fun o e=>up8 _ o D.p3 e) (q2' _ _ t25 fun o e=>up8 _ o D.p4 e) hT8 fun c o c1 c2 c3 c4 e=>up8 c o c1 (all5 c o c1 c2 c3 c4 e)
theorem Al {TI TO:Addr}{x:V}{a b:Value}{U1 U2 T1 T2 T6:Heap->Prop}{Q:Fin->Shared->Prop} (hh:A.handled=none) (D:ZA z TI TO i1 i2)
  (hz:IsZip s.heap z TI TO .none) (hTI:IsPair s.heap TI (.ref i1) (.ref i2)) (hTO:IsPair s.heap TO a b) (u1:U1 s.heap) (t1:T1 s.heap)
  (k1:∀ h h',U1 h->(∀ b o,b∉[z,TI,TO,i1,i2]->h.get? b=some o->h'.get? b=some o)->U1 h')
  (q1:∀ h h',T1 h->(∀ o,h.get? i1=some o->h'.get? i1=some o)->T1 h')
  (hd:(∀ (A:Around) (s:Shared) (Q:Value->Shared->Prop) (E:Value->Shared->Prop),A.handled=none->U1 s.heap->T1 s.heap->(∀ h' e,Heap.ExtBut i1 s.heap h'->(∃ o,h'.get? e=some o/\o.cls=.type "StopIteration")->E (.ref e) { s with heap:=h' })->wpAny 0x14 A (Builtin.SmallTypes.nextOf (.ref i1)) Q E s) \/
   ((∀ (A:Around) (s:Shared) (Q:Value->Shared->Prop) (E:Value->Shared->Prop),U1 s.heap->T1 s.heap->(∀ u h' tk,RelV x u->T6 h'->Heap.SameBut i1 s.heap h'->Q u { s with heap:=h',toks:=tk })->wpAny 0x14 A (Builtin.SmallTypes.nextOf (.ref i1)) Q E s) /\
    U2 s.heap/\T2 s.heap/\(∀ h h',U2 h->(∀ b o,b∉[z,TI,TO,i1,i2]->h.get? b=some o->h'.get? b=some o)->U2 h')/\(∀ h h',T2 h->(∀ o,h.get? i2=some o->h'.get? i2=some o)->T2 h') /\
    ∀ (A:Around) (s:Shared) (Q:Value->Shared->Prop) (E:Value->Shared->Prop),A.handled=none->U2 s.heap->T2 s.heap->(∀ h' e,Heap.ExtBut i2 s.heap h'->(∃ o,h'.get? e=some o/\o.cls=.type "StopIteration")->E (.ref e) { s with heap:=h' })->wpAny 0x14 A (Builtin.SmallTypes.nextOf (.ref i2)) Q E s))
  (hE:∀ h' tk e,(∀ c o,c≠z->c≠TO->c≠i1->c≠i2->s.heap.get? c=some o->h'.get? c=some o)->(∃ o,h'.get? e=some o/\o.cls=.type "StopIteration")->E (.ref e) { s with heap:=h',toks:=tk }) :
  wpAny 0x14 A (Builtin.«zip.__next__» ⟨[.ref z],[]⟩) Q E s:=by
 have mz:∀ {c:Addr},c∉[z,TI,TO,i1,i2]->c≠z/\c≠TO/\c≠i1/\c≠i2:=fun {c} h=>by simp at h;exact ⟨h.1,h.2.2.1,h.2.2.2.1,h.2.2.2.2⟩
 show wpAny _ _ (field (.ref z) 2 >>= _) _ _ _;refine A0a (A1L hz rfl (x:=.bool false) rfl ?_)
 show wpAny _ _ (field (.ref z) 3 >>= _) _ _ _;refine A0a (A1L hz rfl (x:=.ref TI) rfl (A0a (A2n hTI rfl ?_)))
 show wpAny _ _ (Builtin.SmallTypes.ownedTupleIsFree (.ref z) >>= _) _ _ _;refine A0a ?_;unfold Builtin.SmallTypes.ownedTupleIsFree
 refine A0a (A1L hz rfl (x:=.none) rfl (A0s ?_));simp only [A2U];refine A0a (A4u (A0a (A1L hz rfl (x:=.ref TO) rfl (A0a (A2o hz 0xA fun g1 hz1 hs1=>?_)))))
 replace hz1:IsZip g1 z TI TO .ellipsis:=hz1
 refine A0a ?_;simp only [List.zipIdx_cons,List.zipIdx_nil,A3H,List.forIn_nil];refine A0a (A0a (A4k ?_));show wpAny _ _ (Builtin.SmallTypes.nextOf (.ref i1) >>= _) _ _ _
 rcases hd with e1 | ⟨d1,u2,t2,k2,q2,e2⟩
 ·refine A0a (e1 _ _ _ _ hh (k1 _ _ u1 fun c o hc e=>hs1.extBut _ _ (mz hc).1 e) (q1 _ _ t1 fun o e=>hs1.extBut _ _ D.p3 e) fun g2 e hs2 he=>?_);obtain ⟨oe,hoe,hce⟩:=he;have hz2:IsZip g2 z TI TO .ellipsis:=hs2 _ _ D.p3.symm hz1;have nez:e≠z:=fun q=>by subst q;rw [hz2] at hoe;cases hoe;simp at hce
  exact A2o hz2 0xA fun g3 _ hs3=>hE g3 _ e (fun c o c1 _ c3 _ q=>hs3.extBut _ _ c1 (hs2 _ _ c3 (hs1.extBut _ _ c1 q))) ⟨oe,hs3.extBut _ _ nez hoe,hce⟩
 ·refine A0a (d1 _ _ _ _ (k1 _ _ u1 fun c o hc e=>hs1.extBut _ _ (mz hc).1 e) (q1 _ _ t1 fun o e=>hs1.extBut _ _ D.p3 e) fun u g2 tk2 ru t1b hs2=>A0s ?_);have N6:IsPair g2 TO a b:=hs2.extBut _ _ D.p8 (hs1.extBut _ _ D.p2 hTO);refine A0a (A2n N6 rfl (A0a (A3w N6 fun g3 T7 hs3=>?_)));refine A0a (A4I (A0s (A0a (A0a (A4k ?_)))));show wpAny _ _ (Builtin.SmallTypes.nextOf (.ref i2) >>= _) _ _ _
  refine A0a (e2 _ _ _ _ hh (k2 _ _ u2 fun c o hc e=>hs3.extBut _ _ (mz hc).2.1 (hs2.extBut _ _ (mz hc).2.2.1 (hs1.extBut _ _ (mz hc).1 e))) (q2 _ _ t2 fun o e=>hs3.extBut _ _ D.p9.symm (hs2.extBut _ _ D.p0.symm (hs1.extBut _ _ D.p4 e))) fun g4 e VP he=>?_);obtain ⟨oe,hoe,hce⟩:=he;have hz4:IsZip g4 z TI TO .ellipsis:=VP _ _ D.p4.symm (hs3.extBut _ _ D.p2.symm (hs2.extBut _ _ D.p3.symm hz1));have nez:e≠z:=fun q=>by subst q;rw [hz4] at hoe;cases hoe;simp at hce
  exact A2o hz4 0xA fun g5 _ VR=>hE g5 _ e (fun c o c1 c2 c3 c4 q=>VR.extBut _ _ c1 (VP _ _ c4 (hs3.extBut _ _ c2 (hs2.extBut _ _ c3 (hs1.extBut _ _ c1 q))))) ⟨oe,VR.extBut _ _ nez hoe,hce⟩
theorem Inv.nfp (I:Inv X pins σ H s) (hf:∀ b∈fp,jm X pins H b) {u:HO} (e:H b=some u):b∉fp:=fun hb=>by rw [(hf b hb).1] at e;cases e
theorem Inv.rN (I:Inv X pins σ H s) (hf:∀ b∈fp,jm X pins H b) (k:∀ b o,b∉fp->s.heap.get? b=some o->h'.get? b=some o):Inv X pins σ H { s with heap:=h',toks:=t' }:=by
 refine I.step (g':=s.gens) (d':=s.drawn) (ch:=fp) (fun b hb=>⟨(hf b hb).2.2.2.1,(hf b hb).2.1,(hf b hb).2.2.2.2.1,(hf b hb).2.2.2.2.2⟩) (fun b o _ _ hc e _=>k b o hc e) (fun b o _ _ hc e _=>⟨o.slots,k b o hc e⟩) (fun _ _ _ _ n=>n)
  (fun b o hc e=>⟨o,k b o hc e⟩) (fun _ _ e=>e) (fun _ _ _ e=>e) (fun b ps e=>⟨#[],by rw [e];simp⟩) (fun m hm=>?_) (fun b u e=>?_) I.bare
 ·obtain ⟨o,es,ep,ho,r⟩:=hm;exact ⟨o,es,ep,k _ o (fun z=>(hf _ z).2.1 rfl) ho,r⟩
 ·refine (I.hok b u e).stay (fun c v hc q=>k c v ?_ q) (fun _ q=>q) fun _ _ q=>q;rcases hc with z | z
  ·rw [z];exact I.nfp hf e
  ·exact I.nfp hf z
theorem Inv.Hf {p:Addr} (I:Inv X pins σ H s) (hf:∀ b∈fp,jm X pins H b) (k:∀ b o,b∉fp->s.heap.get? b=some o->h'.get? b=some o) (hp:s.heap.objs.size<=p) (new:dW X.prog X.w (upd H p o) h' p o) :
  Inv X pins σ (upd H p o) { s with heap:=h',toks:=t' }:=by
 have hn:H p=none:=I.hok.fresh hp;refine I.step (g':=s.gens) (d':=s.drawn) (ch:=fp) (fun b hb=>⟨(hf b hb).2.2.2.1,(hf b hb).2.1,(hf b hb).2.2.2.2.1,(hf b hb).2.2.2.2.2⟩) (fun b o _ _ hc e _=>k b o hc e) (fun b o _ _ hc e _=>⟨o.slots,k b o hc e⟩)
  (fun b o _ e n=>by rw [aj (A0S (A0x (A0I e) hp))];exact n)
  (fun b o hc e=>⟨o,k b o hc e⟩) (fun b xs e=>by rw [aj (aq e hn)];exact e) (fun b u xs e=>by rw [aj (aq e hn)];exact e) (fun b ps e=>⟨#[],by rw [aj (aq e hn),e];simp⟩) (fun m hm=>?_) (fun b u e=>?_) I.bare
 ·obtain ⟨o,es,ep,ho,r⟩:=hm;exact ⟨o,es,ep,k _ o (fun z=>(hf _ z).2.1 rfl) ho,r⟩
 ·by_cases hb:b=p
  ·subst hb;rw [ao] at e;cases e;exact new
  ·rw [aj hb] at e;refine (I.hok b u e).stay (fun c v hc q=>k c v ?_ q) (fun c q=>?_) fun c xs q=>?_
   ·rcases hc with z | z
    ·rw [z];exact I.nfp hf e
    ·exact I.nfp hf z
   ·first
     | (rw [aj (aq q hn)];exact q)
     | exact q
   ·first
     | (rw [aj (aq q hn)];exact q)
     | exact q
def Itz (g1 g2 s1 s2:Nat->Hp->Prop) (y1 y2:Nat->Hp->V->Prop):It :=
 ⟨fun i H=>g1 i H/\g2 i H,fun i H v H'=>∃ p x y,v=.ref p/\H p=none/\H'=upd H p (.tup [x,y])/\y1 i H x/\y2 i H y,fun i H=>s1 i H\/(g1 i H/\s2 i H)⟩
theorem N7 {TI TO:Addr}{g1 g2 s1 s2:Nat->Hp->Prop}{y1 y2:Nat->Hp->V->Prop}{t1 t2:Nat->Heap->Prop} (D:ZA z TI TO i1 i2)
  (S1:vX P w K i1 g1 s1 y1 t1) (S2:vX P w K i2 g2 s2 y2 t2) :
  Turn P w K (.Tuple elts x1 tp) (Itz g1 g2 s1 s2 y1 y2) [z,TI,TO,i1,i2] z (fun i h=>IsZip h z TI TO .none/\IsPair h TI (.ref i1) (.ref i2)/\(∃ a b,IsPair h TO a b)/\t1 i h/\t2 i h) where
 mem:=by simp
 obj:=fun i h ⟨hz,hTI,⟨a,b,hTO⟩,st1,st2⟩ c hc=>by
  simp only [A0d,A0w,A1k] at hc;rcases hc with rfl | rfl | rfl | rfl | rfl
  ·exact ⟨_,hz,fun v e=>by cases e⟩
  ·exact ⟨_,hTI,fun v e=>by cases e⟩
  ·exact ⟨_,hTO,fun v e=>by cases e⟩
  ·exact S1.obj i h st1
  ·exact S2.obj i h st2
 keep:=fun i h h' ⟨hz,hTI,⟨a,b,hTO⟩,st1,st2⟩ k=>⟨k z 0xA _ hz,k TI 0xA _ hTI,⟨a,b,k TO 0xA _ hTO⟩,S1.keep _ _ _ st1 fun o e=>k i1 0xA o e,S2.keep _ _ _ st2 fun o e=>k i2 0xA o e⟩
 item:=by
  intro X hP hw hK hc i pins s σ H E I hf ⟨hz,hTI,⟨a,b,hTO⟩,st1,st2⟩ ⟨hg1,hg2⟩;obtain ⟨U1,u1,k1,x,hx,d1⟩:=S1.item X pins σ H s i [z,TI,TO,i1,i2] hP hw hK I hf hg1;obtain ⟨U2,u2,k2,y,hy,d2⟩:=S2.item X pins σ H s i [z,TI,TO,i1,i2] hP hw hK I hf hg2;subst hP hw hK;have hT:s.TypeIs (.ref z) "zip":=⟨_,hz,rfl⟩;unfold pyNext;refine A0a (A4l (A1z (name:=Str.ofString "__next__") hT A2O (A1Y A2O hT A4p
   (T5 (x:=x) (y:=y) D hz hTI hTO u1 u2 st1 st2 k1 k2 (S1.keep i) (S2.keep i) (S1.keep (i+1)) (S2.keep (i+1)) d1 d2 fun u v h' tk ru rv hz' hTI' hTO' st1' st2' hp kk=>A0s ⟨_,rfl,?_⟩) (A4f _))))
  refine wpAny_letOwnedTupleGo_zip hz' fun h2 hz2 sb=>?_;have lt:∀ {c o},s.heap.get? c=some o->c≠s.heap.objs.size:=fun e=>A0S (A0I e);have nz:z≠s.heap.objs.size:=lt hz;have kk2:∀ c o,c∉[z,TI,TO,i1,i2]->s.heap.get? c=some o->h2.get? c=some o:=fun c o hc e=>by
   simp only [A0d,A0w,A1k,A4v] at hc;exact sb.extBut _ _ hc.1 (kk c o hc.1 hc.2.2.1 hc.2.2.2.1 hc.2.2.2.2 e)
  have hp2:IsPair h2 s.heap.objs.size u v:=sb.extBut _ _ nz.symm hp;refine ⟨.ref s.heap.objs.size,_,I.Hf (o:=.tup [x,y]) hf kk2 (A0h _) ⟨vP 0xA |> A2J,[u,v],.cons ru (.cons rv .nil),⟨_,hp2,rfl,_,rfl⟩⟩,rfl,⟨_,x,y,rfl,I.fresh,rfl,hx,hy⟩,⟨hz2,sb.extBut _ _ D.p1 hTI',⟨_,_,sb.extBut _ _ D.p2 hTO'⟩,S1.keep _ _ _ st1' fun o e=>sb.extBut _ _ D.p3 e,S2.keep _ _ _ st2' fun o e=>sb.extBut _ _ D.p4 e⟩,fun c hc=>?_⟩;have:∃ o,s.heap.get? c=some o:=by
   simp only [A0d,A0w,A1k] at hc;rcases hc with rfl | rfl | rfl | rfl | rfl
   ·exact ⟨_,hz⟩
   ·exact ⟨_,hTI⟩
   ·exact ⟨_,hTO⟩
   ·obtain ⟨o,e,_⟩:=S1.obj _ _ st1;exact ⟨o,e⟩
   ·obtain ⟨o,e,_⟩:=S2.obj _ _ st2;exact ⟨o,e⟩
  obtain ⟨o,e⟩:=this;rw [aj (lt e)];exact (hf c hc).1
 done:=by
  intro X hP hw hK hc i pins s σ H E I hf ⟨hz,hTI,⟨a,b,hTO⟩,st1,st2⟩ hs;have hT:s.TypeIs (.ref z) "zip":=⟨_,hz,rfl⟩;have fin:∀ (h':Heap) (tk:Nat),(∀ c o,c≠z->c≠TO->c≠i1->c≠i2->s.heap.get? c=some o->h'.get? c=some o)->Inv X pins σ H { s with heap:=h',toks:=tk }:=fun h' tk kk=>I.rN hf fun c o hc e=>by
   simp only [A0d,A0w,A1k,A4v] at hc;exact kk c o hc.1 hc.2.2.1 hc.2.2.2.1 hc.2.2.2.2 e
  have hh:=I.ok.hd hc;rcases hs with hs1 | ⟨hg1,hs2⟩
  ·obtain ⟨U1,u1,k1,d1⟩:=S1.done X pins σ H s i [z,TI,TO,i1,i2] hP hw hK I hf hs1;subst hP hw hK;unfold pyNext;refine A0a (A4l (A1z (name:=Str.ofString "__next__") hT A2O (A1Y A2O hT A4p
    (Al (x:=.non) (U2:=fun _=>True) (T2:=fun _=>True) (T6:=fun _=>True) hh D hz hTI hTO u1 st1 k1 (S1.keep i) (.inl d1) fun h' tk e kk he=>?_) (A4f _))))
   obtain ⟨o,ho,hc'⟩:=he;exact A0a (wpAny_isInstance (T:="StopIteration") (b:=true) ⟨o,ho,hc'⟩ isSubtype_stop (A0s ⟨rfl,fin _ _ kk⟩))
  ·obtain ⟨U1,u1,k1,x,hx,d1⟩:=S1.item X pins σ H s i [z,TI,TO,i1,i2] hP hw hK I hf hg1;obtain ⟨U2,u2,k2,d2⟩:=S2.done X pins σ H s i [z,TI,TO,i1,i2] hP hw hK I hf hs2;subst hP hw hK;unfold pyNext;refine A0a (A4l (A1z (name:=Str.ofString "__next__") hT A2O (A1Y A2O hT A4p
    (Al (x:=x) (T6:=t1 (i+1)) hh D hz hTI hTO u1 st1 k1 (S1.keep i) (.inr ⟨d1,u2,st2,k2,S2.keep i,d2⟩) fun h' tk e kk he=>?_) (A4f _))))
   obtain ⟨o,ho,hc'⟩:=he;exact A0a (wpAny_isInstance (T:="StopIteration") (b:=true) ⟨o,ho,hc'⟩ isSubtype_stop (A0s ⟨rfl,fin _ _ kk⟩))
 self:=fun _ _ _ _ _ st h=>wpAny_pyIter_zip st.1 h
theorem JD (v1 v2:Value) (o1 o2:Obj) (U:Heap->Prop) (hU:∀ h o,U h->U (h.push o))
  (h1:∀ (prog:Program) (w:World) (A:Around) (Q:Value->Shared->Prop) (E:Value->Shared->Prop) (s:Shared),U s.heap->Q (.ref s.heap.objs.size) { s with heap:=s.heap.push o1 }->wpAny 0x14 A (pyIter v1) Q E s)
  (h2:∀ (prog:Program) (w:World) (A:Around) (Q:Value->Shared->Prop) (E:Value->Shared->Prop) (s:Shared),U s.heap->Q (.ref s.heap.objs.size) { s with heap:=s.heap.push o2 }->wpAny 0x14 A (pyIter v2) Q E s) :
  Meets (Builtin.«zip.__new__» ⟨[.type "zip",v1,v2],[]⟩) (fun _ R s=>U s.heap /\
   R (.ok (.ret (.ref ((((s.heap.push o1).push o2).push { cls:=.type "tuple",data:=.seq #[.ref s.heap.objs.size,.ref (s.heap.push o1).objs.size] }).push { cls:=.type "tuple",data:=.seq #[.none,.none] }).objs.size)))
    { s with heap:=((((s.heap.push o1).push o2).push { cls:=.type "tuple",data:=.seq #[.ref s.heap.objs.size,.ref (s.heap.push o1).objs.size] }).push { cls:=.type "tuple",data:=.seq #[.none,.none] }).push { cls:=.type "zip",data:=.fields #[.none,.bool false,.bool false,.ref ((s.heap.push o1).push o2).objs.size,.ref (((s.heap.push o1).push o2).push { cls:=.type "tuple",data:=.seq #[.ref s.heap.objs.size,.ref (s.heap.push o1).objs.size] }).objs.size] } }) :=
 .of_wp fun prog w A R s h=>by
  obtain ⟨hp,g,d,tk,os⟩:=s;obtain ⟨hu,h⟩:=h;have hsub:=sub_zip;have hu2:U (hp.push o1):=hU _ _ hu
  wp_walk using h1 prog w _ _ _ ⟨hp,g,d,tk,os⟩ hu,h2 prog w _ _ _ ⟨hp.push o1,g,d,tk,os⟩ hu2
  exact ⟨_,rfl,h⟩
section
theorem N8 {R:It->Hp->Prop}{v1 v2:Value}{o1 o2:Obj}{U:Heap->Prop}{g1 g2 s1 s2:Nat->Hp->Prop}{y1 y2:Nat->Hp->V->Prop}{t1 t2:Nat->Heap->Prop} (I:Inv X pins σ H s)
  (hu:U s.heap) (hU:∀ h o,U h->U (h.push o))
  (h1:∀ (prog:Program) (w:World) (A:Around) (Q:Value->Shared->Prop) (E:Value->Shared->Prop) (s:Shared),U s.heap->Q (.ref s.heap.objs.size) { s with heap:=s.heap.push o1 }->wpAny 0x14 A (pyIter v1) Q E s)
  (h2:∀ (prog:Program) (w:World) (A:Around) (Q:Value->Shared->Prop) (E:Value->Shared->Prop) (s:Shared),U s.heap->Q (.ref s.heap.objs.size) { s with heap:=s.heap.push o2 }->wpAny 0x14 A (pyIter v2) Q E s)
  (S1:vX X.prog X.w X.K s.heap.objs.size g1 s1 y1 t1) (S2:vX X.prog X.w X.K 0x11 g2 s2 y2 t2) (b1:∀ h:Heap,h.get? s.heap.objs.size=some o1->t1 0 h) (b2:∀ h:Heap,h.get? 0x11=some o2->t2 0 h) (f1:o1.isFreed=false) (f2:o2.isFreed=false)
  (q:R (Itz g1 g2 s1 s2 y1 y2) H):wpAny 0x9 X.A (call (.type "zip") [v1,v2]) (fun v s1=>wpAny 0x9 X.A (pyIter v) (PIE X pins σ (.Tuple elts x1 tp) R) E s1) E s:=by
 refine callType_new F.called_zip 0x6 (F.typeCall_zip_2 _ _) (F.newCall_zip_2 _ _) (fun obj=>F.args_object_init_3 obj _ _) F.entry_zip_new (JD v1 v2 o1 o2 U hU h1 h2) ⟨hu,?_⟩;generalize hG1:s.heap.push o1=G1;have z1:G1.objs.size=s.heap.objs.size+1:=by rw [<- hG1];exact A2G ..
 generalize hG2:G1.push o2=G2;have z2:G2.objs.size=s.heap.objs.size+2:=by rw [<- hG2,A2G,z1]
 rw [z1,z2];generalize hG3:G2.push { cls:=.type "tuple",data:=.seq #[.ref s.heap.objs.size,.ref 0x11] }=G3;have z3:G3.objs.size=s.heap.objs.size+3:=by rw [<- hG3,A2G,z2]
 rw [z3];generalize hG4:G3.push { cls:=.type "tuple",data:=.seq #[.none,.none] }=G4;have z4:G4.objs.size=s.heap.objs.size+4:=by rw [<- hG4,A2G,z3]
 rw [z4];generalize hG5:G4.push { cls:=.type "zip",data:=.fields #[.none,.bool false,.bool false,.ref (s.heap.objs.size+2),.ref (s.heap.objs.size+3)] }=G5;have e5:IsZip G5 (s.heap.objs.size+4) (s.heap.objs.size+2) (s.heap.objs.size+3) .none:=by rw [<- z4,<- hG5];exact A0y _ rfl
 have e4:IsPair G5 (s.heap.objs.size+3) .none .none:=by rw [<- z3,<- hG5];exact A0c _ (by rw [<- hG4];exact A0y _ rfl)
 have e3:IsPair G5 (s.heap.objs.size+2) (.ref s.heap.objs.size) (.ref 0x11):=by rw [<- z2,<- hG5];exact A0c _ (by rw [<- hG4];exact A0c _ (by rw [<- hG3];exact A0y _ rfl))
 have up2:∀ c o,G2.get? c=some o->G5.get? c=some o:=fun c o e=>by rw [<- hG5];exact A0c _ (by rw [<- hG4];exact A0c _ (by rw [<- hG3];exact A0c _ e))
 have e2:G5.get? 0x11=some o2:=up2 _ _ (by rw [<- z1,<- hG2];exact A0y _ f2);have e1:G5.get? s.heap.objs.size=some o1:=up2 _ _ (by rw [<- hG2];exact A0c _ (by rw [<- hG1];exact A0y _ f1));have all:∀ c o,s.heap.get? c=some o->G5.get? c=some o:=fun c o e=>up2 _ _ (by rw [<- hG2];exact A0c _ (by rw [<- hG1];exact A0c _ e));refine ⟨⟨_,e5,rfl⟩,wpAny_pyIter_zip e5 ?_⟩;have ne:∀ {m n:Nat},m≠n->s.heap.objs.size+m≠s.heap.objs.size+n:=fun h z=>h (Nat.add_left_cancel z);refine ⟨_,_,_,_,H,rfl,I.kept (t':=s.toks) all,N7 ⟨ne 0x6,ne 0x6,ne (m:=0) 0x6,ne 0x6,ne 0x6,ne (n:=0) 0x6,ne 0x6,ne (n:=0) 0x6,ne 0x6,ne (m:=0) 0x6⟩ S1 S2,⟨e5,e3,⟨_,_,e4⟩,b1 _ e1,b2 _ e2⟩,fun b hb=>?_,q⟩;have hle:s.heap.objs.size<=b:=by
  simp only [A0d,A0w,A1k] at hb;rcases hb with rfl | rfl | rfl | rfl | rfl <;> lia
 exact I.xG hle (I.hok.fresh hle)
abbrev Hg (K:PySem.W.Frag) (a b:Addr):It:=Itz (fun i H=>∃ xs x,bZ K H a xs/\xs[i]?=some x) (fun i H=>∃ xs x,bZ K H b xs/\xs[i]?=some x) (fun i H=>∃ xs,bZ K H a xs/\xs.length<=i) (fun i H=>∃ xs,bZ K H b xs/\xs.length<=i)
 (fun i H x=>∀ xs,bZ K H a xs->xs[i]?=some x) (fun i H x=>∀ xs,bZ K H b xs->xs[i]?=some x)
abbrev Hh (K:PySem.W.Frag) (a b:Addr):It:=Itz (fun i H=>∃ xs x,bR K H a xs/\xs[i]?=some x) (fun i H=>∃ xs x,bR K H b xs/\xs[i]?=some x) (fun i H=>∃ xs,bR K H a xs/\xs.length<=i) (fun i H=>∃ xs,bR K H b xs/\xs.length<=i)
 (fun i H x=>∀ xs,bR K H a xs->xs[i]?=some x) (fun i H x=>∀ xs,bR K H b xs->xs[i]?=some x)
inductive Am (K:W.Frag) (R:It->Hp->Prop) (vs:List V) (H1:Hp):Prop
 | mk (a b:Addr) (_:vs=[.ref a,.ref b]) (_:(∃ xs,bZ K H1 a xs)) (_:(∃ xs,bZ K H1 b xs)) (_:R (Hg K a b) H1):Am K R vs H1
def Xz (K:PySem.W.Frag) (ta:TA):TI:=fun σ H R=>ta σ H fun vs H1=>Am K R vs H1
inductive Ao (K:W.Frag) (R:It->Hp->Prop) (vs:List V) (H1:Hp):Prop
 | mk (a b:Addr) (_:vs=[.ref a,.ref b]) (_:(∃ xs,bR K H1 a xs)) (_:(∃ xs,bR K H1 b xs)) (_:R (Hh K a b) H1):Ao K R vs H1
def XD (K:PySem.W.Frag) (ta:TA):TI:=fun σ H R=>ta σ H fun vs H1=>Ao K R vs H1
variable {a b:Expr}{ta:TA}{p:Pos}
theorem Nb (hg:Gl X "zip") (hm:X.mg "zip"=none) (ha:PA X [a,b] ta) (hs:starEach [a,b] X.env=[(false,eval a X.env),(false,eval b X.env)]:=by rfl) (hs2:starEach [b] X.env=[(false,eval b X.env)]:=by rfl) :
  PI X (.Tuple elts x1 tp) (.Call (.Name "zip" p) [a,b] [] pos) (Xz X.K ta):=by
 intro pins s σ H R I h;refine Call_ (oA I hg hm N5 (A2j (cN (ha pos pins s σ H _ I h) fun us s1 ⟨vs,H1,I1,r1,q1⟩=>?_) (by rw [hs,hs2]) (by rw [hs2];rfl)));obtain ⟨c,d,rfl,⟨xs,hx⟩,⟨ys,hy⟩,q⟩:=q1;obtain ⟨u,u',rfl,ru,ru'⟩:=vals2 r1;cases ru;cases ru';obtain ⟨its,rv,p1,_⟩:=I1.tuple hx;obtain ⟨its2,rv2,p2,_⟩:=I1.tuple hy;exact N8 (U:=fun h=>h.IsTuple c its.toArray/\h.IsTuple d its2.toArray) I1 ⟨p1,p2⟩ (fun h o ⟨⟨oc,e,r⟩,⟨od,e',r'⟩⟩=>⟨⟨oc,A0c _ e,r⟩,⟨od,A0c _ e',r'⟩⟩)
  (fun prog w A Q E s hu hQ=>wpAny_pyIter_tuple hu.1 hQ) (fun prog w A Q E s hu hQ=>wpAny_pyIter_tuple hu.2 hQ) (GX c _) (GX d _) (fun h e=>⟨_,e,rfl,rfl⟩) (fun h e=>⟨_,e,rfl,rfl⟩) rfl rfl q
theorem Nf (hg:Gl X "zip") (hm:X.mg "zip"=none) (ha:PA X [a,b] ta) (hs:starEach [a,b] X.env=[(false,eval a X.env),(false,eval b X.env)]:=by rfl) (hs2:starEach [b] X.env=[(false,eval b X.env)]:=by rfl) :
  PI X (.Tuple elts x1 tp) (.Call (.Name "zip" p) [a,b] [] pos) (XD X.K ta):=by
 intro pins s σ H R I h;refine Call_ (oA I hg hm N5 (A2j (cN (ha pos pins s σ H _ I h) fun us s1 ⟨vs,H1,I1,r1,q1⟩=>?_) (by rw [hs,hs2]) (by rw [hs2];rfl)));obtain ⟨c,d,rfl,⟨xs,hx⟩,⟨ys,hy⟩,q⟩:=q1;obtain ⟨u,u',rfl,ru,ru'⟩:=vals2 r1;cases ru;cases ru';obtain ⟨its,rv,p1,_⟩:=I1.list hx;obtain ⟨its2,rv2,p2,_⟩:=I1.list hy;exact N8 (U:=fun h=>h.IsList c its.toArray/\h.IsList d its2.toArray) I1 ⟨p1.isList,p2.isList⟩ (fun h o ⟨⟨oc,e,r⟩,⟨od,e',r'⟩⟩=>⟨⟨oc,A0c _ e,r⟩,⟨od,A0c _ e',r'⟩⟩)
  (fun prog w A Q E s hu hQ=>A3m hu.1 hQ) (fun prog w A Q E s hu hQ=>A3m hu.2 hQ) (GZ c _) (GZ d _) (fun h e=>⟨_,e,rfl,rfl⟩) (fun h e=>⟨_,e,rfl,rfl⟩) rfl rfl q
end
theorem pB {J:It}{fx fy:Nat->V}{k:Nat}{Q:VK} (Pv:Nat->List V->Hp->Prop)
  (hJ:∀ i ys H,Pv i ys H->(i<n->J.go i H/\∀ v H',J.Jr i H v H'->∃ p,v=.ref p/\H p=none/\H'=upd H p (.tup [fx i,fy i]))/\(n<=i->J.stop i H)) (h0:Pv 0 [] (upd H1 D (.lst []))) (hD:∀ i ys H,Pv i ys H->H D=some (.lst ys))
  (hs:∀ i ys H p,i<n->Pv i ys H->H p=none->Ah D σ k ix g tt te (.ref p) ys (upd H p (.tup [fx i,fy i])) (Pv (i+1))) (hd:∀ ys H,Pv n ys H->Q (.ref D) H):oE J D σ k ix g tt te Q H1:=by
 refine ⟨fun i m ys H=>m=n - i/\i<=n/\Pv i ys H,⟨n,by simp,A1f _,h0⟩,?_⟩;rintro i m ys H ⟨rfl,hi,p⟩;refine ⟨hD i ys H p,?_⟩;obtain ⟨h1,h2⟩:=hJ i ys H p
 by_cases hlt:i<n
 ·obtain ⟨hg,hy⟩:=h1 hlt;refine .inr ⟨hg,Pv (i+1),fun zs H' p'=>⟨n - (i+1),by lia,rfl,hlt,p'⟩,fun x H' y=>?_⟩;obtain ⟨q,rfl,hq,rfl⟩:=hy x H' y;exact hs i ys H q hlt p hq
 ·have e:i=n:=by lia
  subst e;exact .inl ⟨h2 (A0h _),hd ys H p⟩
theorem Aq (ha:bZ K H a xs) (hb:bZ K H b ys) (hl:xs.length=ys.length) :
  (i<xs.length->(Hg K a b).go i H/\∀ v H',(Hg K a b).Jr i H v H'->∃ p,v=.ref p/\H p=none/\H'=upd H p (.tup [xs.getD i .non,ys.getD i .non]))/\(xs.length<=i->(Hg K a b).stop i H):=by
 refine ⟨fun hi=>⟨⟨⟨xs,xs[i],ha,by simp [hi]⟩,⟨ys,ys[i]' 0x3,hb,by simp [hl ▸ hi]⟩⟩,fun v H' ⟨p,x,y,e1,e2,e3,e4,e5⟩=>⟨p,e1,e2,?_⟩⟩,fun hi=>.inl ⟨xs,ha,hi⟩⟩;rw [e3,qQ,qQ,e4 xs ha,e5 ys hb];rfl
theorem Ar (ha:bR K H a xs) (hb:bR K H b ys) (hl:xs.length=ys.length) :
  (i<xs.length->(Hh K a b).go i H/\∀ v H',(Hh K a b).Jr i H v H'->∃ p,v=.ref p/\H p=none/\H'=upd H p (.tup [xs.getD i .non,ys.getD i .non]))/\(xs.length<=i->(Hh K a b).stop i H):=by
 refine ⟨fun hi=>⟨⟨⟨xs,xs[i],ha,by simp [hi]⟩,⟨ys,ys[i]' 0x3,hb,by simp [hl ▸ hi]⟩⟩,fun v H' ⟨p,x,y,e1,e2,e3,e4,e5⟩=>⟨p,e1,e2,?_⟩⟩,fun hi=>.inl ⟨xs,ha,hi⟩⟩;rw [e3,qQ,qQ,e4 xs ha,e5 ys hb];rfl
theorem pC {k:Nat}{t:X5} (hc:X.calm=true) (h:PGs X es t) (hK:X.K=K:=by rfl)
  (hn:(assignEach es X.env).length=n:=by rfl) (hst:(assignEach es X.env).findIdx? (·.1)=none:=by rfl):PG X (.Tuple es k pos) (X6 K n t):=hK ▸ lC hc h hn hst
def pD (n:Nat) (l:List Nat):List Nat:=(List.replicate n l).flatten
theorem Av (l:Array Nat):∀ (n:Nat) (acc:Array Nat),((List.replicate n l).foldl (·++·) acc).toList=acc.toList++pD n l.toList
 | 0,acc=>by simp [pD]
 | n+1,acc=>by
  rw [A1y,A1h,Av l n];simp [pD,A1y]
theorem T9 (n:Nat) (l:List Nat):(pD n l).length=n * l.length:=by
 unfold pD
 induction n with
 | zero=>simp
 | succ n ih=>rw [A1y,A2u,gZ,ih,Nat.succ_mul];lia
theorem DN:mq X (binaryOp .Mult) (fun x y H Q=>∃ z n,x=.str z/\y=.int n/\0<=n/\n<=1000/\z.length<=1000/\Q (.str (lW (pD n.toNat z.cps.toList))) H):=by
 intro pins s σ H x y v u Q I rx ry h;obtain ⟨z,n,rfl,rfl,h0,h1,hz,q⟩:=h;obtain ⟨t,rfl⟩:=rx;obtain ⟨t',rfl⟩:=ry;have hl:z.length * n.toNat<=1000000:=A0M (Nat.mul_le_mul hz (show n.toNat<=1000 by lia)) 0x6
 have hsl:z.length * n.toNat<=sizeLine:=A0M hl 0x6;refine PySem.P.mul_str (by rw [A0n 0x3,A0n 0x3];rfl) (fun hn _=>?_) (fun _ _=>by unfold Builtin.Str.tooLong;simp;lia) ?_
 ·have:(1000:Int)<=(2 ^ 63 - 1) / n:=Int.le_ediv_of_mul_le 0x3 0x3;lia
 ·by_cases hn:n<1
  ·rw [A0i hn];have e:n.toNat=0:=by lia
   refine ⟨by decide,.str _,H,I.tok _,⟨_,rfl⟩,?_⟩;have e2:lW (pD n.toNat z.cps.toList)=Str.empty:=by rw [e];rfl
   rw [<- e2];exact q
  ·rw [A0f hn]
   by_cases hc:(n==1||z.length==0)=true
   ·rw [A0i hc];refine ⟨.str z,H,I,⟨t,rfl⟩,?_⟩;have e2:lW (pD n.toNat z.cps.toList)=z:=by
     rcases Bool.or_eq_true_iff.mp hc with e | e
     ·have e':n=1:=by simpa using e
      subst e';simp [pD,mU]
     ·have e':z.cps.toList=[]:=by
       have:z.length=0:=by simpa using e
       simp only [Str.length] at this
       simpa using this
      have:∀ k,pD k ([]:List Nat)=[]:=fun k=>by simp [pD]
      rw [e',this,<- e',mU]
    rw [<- e2];exact q
   ·rw [A0f hc];have e2:(⟨(List.replicate n.toNat z.cps).foldl (·++·) #[]⟩:Str)=lW (pD n.toNat z.cps.toList):=xT (by
     show ((List.replicate n.toNat z.cps).foldl (·++·) #[]).toList=_
     rw [Av];simp)
    rw [e2];refine ⟨?_,.str _,H,I.tok _,⟨_,rfl⟩,q⟩;rw [jq,T9];have:z.cps.toList.length=z.length:=by simp [Str.length]
    rw [this,Nat.mul_comm];exact hsl
mutual
inductive cM (H:Hp):V->PyData->Prop
 | non:cM H .non .none
 | bl (b:_):cM H (.bl b) (.bool b)
 | int (i:_):cM H (.int i) (.int i)
 | str (x:_):cM H (.str x) (.str x)
 | lst {p xs ds:_}:H p=some (.lst xs)->dg H xs ds->cM H (.ref p) (.list ds)
 | tup {p xs ds:_}:H p=some 0x2E->dg H xs ds->cM H (.ref p) (.tuple ds)
inductive dg (H:Hp):List V->List PyData->Prop
 | nil:dg H [] []
 | cons {v vs d ds:_}:cM H v d->dg H vs ds->dg H (v::vs) (d::ds)
end
mutual
theorem cM.same {H H':Hp} (s:Same H H'):∀ {v:V}{d:PyData},cM H v d->cM H' v d
 | _,_,.non=>.non
 | _,_,.bl b=>.bl b
 | _,_,.int i=>.int i
 | _,_,.str x=>.str x
 | _,_,.lst h r=>.lst (s _ _ h) (dg.same s r)
 | _,_,.tup h r=>.tup (s _ _ h) (dg.same s r)
theorem dg.same {H H':Hp} (s:Same H H'):∀ {vs:List V}{ds:List PyData},dg H vs ds->dg H' vs ds
 | _,_,.nil=>.nil
 | _,_,.cons h r=>.cons (cM.same s h) (dg.same s r)
end
mutual
theorem cM.reads (I:Inv X pins σ H s):∀ {v:V}{d:PyData}{u:Value},cM H v d->RelV v u->∃ as,Reads s.heap u d as
 | _,_,_,.non,r=>by cases r;exact ⟨_,.none⟩
 | _,_,_,.bl b,r=>by cases r;exact ⟨_,.bool b⟩
 | _,_,_,.int i,r=>by obtain ⟨t,rfl⟩:=r;exact ⟨_,.int i t⟩
 | _,_,_,.str x,r=>by obtain ⟨t,rfl⟩:=r;exact ⟨_,.str x t⟩
 | _,_,_,.lst h q,r=>by
  cases r;obtain ⟨_,its,n,rv,e⟩:=(I.hok _ _ h);obtain ⟨as,ra⟩:=dg.reads I q rv;exact ⟨_,.list e rfl rfl (by simpa using ra)⟩
 | _,_,_,.tup h q,r=>by
  cases r;obtain ⟨_,its,rv,o,e,c,n,dd⟩:=(I.hok _ _ h);obtain ⟨as,ra⟩:=dg.reads I q rv;exact ⟨_,.tuple e c dd (by simpa using ra)⟩
theorem dg.reads (I:Inv X pins σ H s):∀ {vs:List V}{ds:List PyData}{us:List Value},dg H vs ds->Vals vs us->∃ as,ReadsAll s.heap us ds as
 | _,_,_,.nil,r=>by cases r;exact ⟨_,.nil⟩
 | _,_,_,.cons h q,r=>by
  cases r with
  | cons r1 r2 =>
   obtain ⟨as,ra⟩:=cM.reads I h r1;obtain ⟨bs,rb⟩:=dg.reads I q r2;exact ⟨_,.cons ra rb⟩
end
inductive XF (x y:V) (H:Hp) (Q:VK):Prop
 | mk (dx dy:PySem.PyData) (_:cM H x dx) (_:cM H y dy) (_:dx.canLay0=true) (_:dy.canLay0=true) (_:dx.depth<=8) (_:Q (.bl (PyData.eqv dx dy)) H):XF x y H Q
inductive rNeD (x y:V) (H:Hp) (Q:VK):Prop
 | mk (dx dy:PySem.PyData) (_:cM H x dx) (_:cM H y dy) (_:dx.canLay0=true) (_:dy.canLay0=true) (_:dx.depth<=8) (_:Q (.bl (!PyData.eqv dx dy)) H):rNeD x y H Q
theorem XH (hu:X.A.units+64<cLine):mq X (compareOp .Eq) XF:=by
 intro pins s σ H x y v u Q I rx ry h;obtain ⟨dx,dy,h1,h2,c1,c2,dp,q⟩:=h;obtain ⟨as,ra⟩:=h1.reads I rx;obtain ⟨bs,rb⟩:=h2.reads I ry;exact SeqAt.compareEq_reads ra rb c1 c2 0x3 ⟨.bl _,H,I,rfl,q⟩
theorem Ng (hu:X.A.units+64<cLine):mq X (compareOp .NotEq) rNeD:=by
 intro pins s σ H x y v u Q I rx ry h;obtain ⟨dx,dy,h1,h2,c1,c2,dp,q⟩:=h;obtain ⟨as,ra⟩:=h1.reads I rx;obtain ⟨bs,rb⟩:=h2.reads I ry;exact SeqAt.compareNe_reads ra rb c1 c2 0x3 ⟨.bl _,H,I,rfl,q⟩
open PySem.W PySem.Builtin.ObjectAttr PySem.Builtin.Getset_descriptor
structure XC (K:PySem.W.Frag) (D:Addr):Prop where
 ga:findIn K (.ref D) "__getattribute__"=some (some (.builtin "BaseException.__getattribute__"))
 gh:findIn K (.ref D) "__getattr__"=some none
 cl:(clsIn K D).isSome=true
 ca:findIn K (.ref D) "__class__"=some (some (.builtin "object.__class__"))
 gs:specialIn K (.builtin "object.__class__") "__get__"=some (some (.builtin "getset_descriptor.__get__"))
 tk:takesIn K (.builtin "object.__class__")=some true
 ob:mroIn K D (.type "object")=some true
 be:mroIn K D (.type "BaseException")=some true
section
variable {x:Addr}
end
structure Fly (B h0 h:Heap) (outer:List Env) (H':Hp) (ea:Addr) (C a0:Value):Prop where
 fl:Heap.FlyingW B outer ea C a0 h
 tr:∀ b o,H' b=some o->∃ u,B.get? b=some u
 old:∀ b o,h0.get? b=some o->b∉frs outer->∃ u,B.get? b=some u
section
variable {E:XK}
end
section
variable {k:Nat}{oW:List V}{ds:List Value}{E:St->XK}{x m:Str}{p:Pos}{o:Expr}{t:TA}
end
section
variable {Lj:List 0x17}{xe:Value->Shared->Prop}{ea:Addr}
end
section
variable {κ:Type} [DecidableEq κ]
def bI (kvs:List (κ×V)) (k:κ):Option V:=(kvs.find? fun kv=>decide (kv.1=k)).map (·.2)
def putK (kvs:List (κ×V)) (k:κ) (v:V):List (κ×V) :=
 if (kvs.any fun kv=>decide (kv.1=k))=true then kvs.map (fun kv=>if kv.1=k then (kv.1,v) else kv) else kvs++[(k,v)]
def jd (kvs:List (κ×V)) (k:κ):List (κ×V):=kvs.filter fun kv=>decide (kv.1≠k)
theorem eY {p:κ×V}{r:List (κ×V)}{k:κ} (e:p.1=k):bI (p::r) k=some p.2:=by simp [bI,A2h,e]
theorem dR {p:κ×V}{r:List (κ×V)}{k:κ} (e:¬ p.1=k):bI (p::r) k=bI r k:=by simp [bI,A2h,e]
theorem jY (k:κ):∀ kvs:List (κ×V),(kvs.any fun kv=>decide (kv.1=k))=(bI kvs k).isSome
 | []=>rfl
 | p::r=>by
  rw [A2l]
  by_cases e:p.1=k
  ·simp only [eY e,A0g e,Bool.true_or,Option.isSome_some]
  ·rw [dR e,A0n e,Bool.false_or];exact jY k r
theorem Aw (k j:κ) (y:V):∀ kvs:List (κ×V),bI (kvs.map fun kv=>if kv.1=k then (kv.1,y) else kv) j=(bI kvs j).map fun x=>if j=k then y else x
 | []=>rfl
 | p::r=>by
  have ih:=Aw k j y r;rw [A0m]
  by_cases h:p.1=k
  ·rw [A0i h]
   by_cases e:p.1=j
   ·rw [eY (p:=(p.1,y)) e,eY e,A3J,A0i (e.symm.trans h)]
   ·rw [dR (p:=(p.1,y)) e,dR e,ih]
  ·rw [A0f h]
   by_cases e:p.1=j
   ·rw [eY (p:=p) e,eY e,A3J,A0f (fun z=>h (e.trans z))]
   ·rw [dR (p:=p) e,dR e,ih]
theorem w6 (k j:κ) (y:V):∀ kvs:List (κ×V),bI kvs k=none->bI (kvs++[(k,y)]) j=if j=k then some y else bI kvs j
 | [],_=>by
  by_cases e:k=j
  ·rw [A0i e.symm];exact eY (p:=(k,y)) e
  ·rw [A0f (fun z=>e z.symm)];exact dR (p:=(k,y)) e
 | p::r,hn=>by
  rw [A1T];have hk:¬ p.1=k:=fun z=>by rw [eY z] at hn;cases hn
  rw [dR hk] at hn;have ih:=w6 k j y r hn
  by_cases e:p.1=j
  ·rw [eY e,eY e,A0f (fun z=>hk (e.trans z))]
  ·rw [dR e,dR e,ih]
theorem bF (kvs:List (κ×V)) (k j:κ) (y:V):bI (putK kvs k y) j=if j=k then some y else bI kvs j:=by
 unfold putK
 by_cases a:(kvs.any fun kv=>decide (kv.1=k))=true
 ·rw [A0i a,Aw];rw [jY] at a
  by_cases e:j=k
  ·obtain ⟨x,hx⟩:=A2x.mp a;rw [A0i e,e,hx,A3J,A0i rfl]
  ·rw [A0f e];cases bI kvs j with
   | none=>rfl
   | some x=>rw [A3J,A0f e]
 ·rw [A0f a];refine w6 k j y kvs ?_;rw [jY] at a;cases q:bI kvs k with
  | none=>rfl
  | some x=>rw [q] at a;exact (a rfl).elim
theorem dY (kvs:List (κ×V)) (k:κ) (v:V):(putK kvs k v).length<=kvs.length+1:=by
 unfold putK
 split
 ·rw [cg];lia
 ·rw [gZ,vI,A4x];lia
theorem Nh {kvs:List (κ×V)}{k:κ} (v:V) (h:bI kvs k=none):putK kvs k v=kvs++[(k,v)]:=by
 unfold putK;rw [jY,h];exact A0f 0x6
theorem jk.iV {o:Option V}{u:Option Value} (r:jk o u):o.isSome=u.isSome:=by
 cases o with
 | none=>cases u with
  | none=>rfl
  | some _=>exact (show False from r).elim
 | some _=>cases u with
  | none=>exact (show False from r).elim
  | some _=>rfl
theorem jk.getD {o:Option V}{u:Option Value}{d:V}{d':Value} (r:jk o u) (rd:RelV d d'):RelV (o.getD d) (u.getD d'):=by
 cases o with
 | none=>cases u with
  | none=>exact rd
  | some _=>exact (show False from r).elim
 | some _=>cases u with
  | none=>exact (show False from r).elim
  | some _=>exact r
theorem KV.val {kvs:List (κ×V)}{vs:List (κ×Value)} (r:KV kvs vs) (k:κ):jk (bI kvs k) (valueAt vs k):=by
 unfold KV at r
 induction r with
 | nil=>exact True.intro
 | @cons p q ps qs h t ih =>
  obtain ⟨h1,h2⟩:=h
  by_cases e:p.1=k
  ·have e':q.1=k:=h1.symm.trans e;have b:valueAt (q::qs) k=some q.2:=by simp [valueAt,A2h,e']
   rw [eY e,b];exact h2
  ·have e':¬ q.1=k:=fun z=>e (h1.trans z);have b:valueAt (q::qs) k=valueAt qs k:=by simp [valueAt,A2h,e']
   rw [dR e,b];exact ih
theorem KV.any {kvs:List (κ×V)}{vs:List (κ×Value)} (r:KV kvs vs) (k:κ):(kvs.any fun kv=>decide (kv.1=k))=vs.any fun kv=>decide (kv.1=k):=by
 unfold KV at r
 induction r with
 | nil=>rfl
 | cons h t ih=>rw [A2l,A2l,ih,h.1]
theorem KV.repl {kvs:List (κ×V)}{vs:List (κ×Value)} (r:KV kvs vs) (k:κ)  (ry:RelV y u) :
  KV (kvs.map fun kv=>if kv.1=k then (kv.1,y) else kv) (vs.map fun kv=>if kv.1=k then (kv.1,u) else kv):=by
 unfold KV at r ⊢
 induction r with
 | nil=>exact .nil
 | @cons p q ps qs h t ih =>
  rw [A0m,A0m];refine .cons ?_ ih;obtain ⟨h1,h2⟩:=h
  by_cases e:p.1=k
  ·rw [A0i e,A0i (h1.symm.trans e)];exact ⟨h1,ry⟩
  ·rw [A0f e,A0f (fun z=>e (h1.trans z))];exact ⟨h1,h2⟩
theorem KV.put {kvs:List (κ×V)}{vs:List (κ×Value)} (r:KV kvs vs) (k:κ)  (ry:RelV y u):KV (putK kvs k y) (stored vs k u):=by
 unfold putK stored;rw [r.any k]
 by_cases e:(vs.any fun kv=>decide (kv.1=k))=true
 ·rw [A0i e,A0i e];exact r.repl k ry
 ·rw [A0f e,A0f e];exact A4J r ⟨rfl,ry⟩
theorem KV.drop {kvs:List (κ×V)}{vs:List (κ×Value)} (r:KV kvs vs) (k:κ):KV (jd kvs k) (without vs k):=by
 unfold KV at r ⊢;unfold jd without
 induction r with
 | nil=>exact .nil
 | @cons p q ps qs h t ih =>
  obtain ⟨h1,h2⟩:=h;rw [List.filter_cons,List.filter_cons]
  by_cases e:p.1=k
  ·have a:¬ decide (p.1≠k)=true:=by simp [e]
   have b:¬ decide (q.1≠k)=true:=by simp [h1.symm.trans e]
   rw [A0f a,A0f b];exact ih
  ·have e':¬ q.1=k:=fun z=>e (h1.trans z);have a:decide (p.1≠k)=true:=by simp [e]
   have b:decide (q.1≠k)=true:=by simp [e']
   rw [A0i a,A0i b];exact .cons ⟨h1,h2⟩ ih
theorem KV.length {kvs:List (κ×V)}{vs:List (κ×Value)} (r:KV kvs vs):kvs.length=vs.length:=A2P r
theorem Ax (kvs:List (κ×V)) (k:κ):(jd kvs k).length<=kvs.length:=A0J _ _
end
theorem mV {k:Key} (r:RelV (kV k) u):(bY P w).is k u=true:=by
 cases k with
 | inl i=>obtain ⟨t,e⟩:=(show ∃ t,u=Value.int i t from r);subst e;exact zO P w i t
 | inr x=>obtain ⟨t,e⟩:=(show ∃ t,u=Value.str x t from r);subst e;exact zP P w x t
theorem wg:∀ {ks:List Key}{us:List Value},Vals (ks.map kV) us->ItemsAre (bY P w) ks us
 | [],_,r=>by rw [A3p] at r;cases r;exact .nil
 | k::ks,_,r=>by
  rw [A0m] at r;cases r with
  | cons h t=>exact .cons (mV h) (wg t)
abbrev KT (H:Hp):List (List Key×V)->List (List Key×Addr×Value)->Prop:=Paired fun p q=>p.1=q.1/\H q.2.1=some (.tup (p.1.map kV))/\RelV p.2 q.2.2
theorem KT.val {kvs:List (List Key×V)}{xs:List (List Key×Addr×Value)} (r:KT H kvs xs) (k:List Key):jk (bI kvs k) ((atKey xs k).map (·.2)):=by
 induction r with
 | nil=>exact True.intro
 | @cons p q ps qs h t ih =>
  obtain ⟨h1,_,h2⟩:=h
  by_cases e:p.1=k
  ·have e':q.1=k:=h1.symm.trans e;have b:atKey (q::qs) k=some q.2:=by simp [atKey,A2h,e']
   rw [eY e,b];exact h2
  ·have e':¬ q.1=k:=fun z=>e (h1.trans z);have b:atKey (q::qs) k=atKey qs k:=by simp [atKey,A2h,e']
   rw [dR e,b];exact ih
theorem KT.repl {kvs:List (List Key×V)}{xs:List (List Key×Addr×Value)} (r:KT H kvs xs) (k:List Key)  (ry:RelV y u) :
  KT H (kvs.map fun kv=>if kv.1=k then (kv.1,y) else kv) (xs.map (putAt k u)):=by
 induction r with
 | nil=>exact .nil
 | @cons p q ps qs h t ih =>
  rw [A0m,A0m];refine .cons ?_ ih;obtain ⟨h1,h2,h3⟩:=h;unfold putAt
  by_cases e:p.1=k
  ·rw [A0i e,A0i (h1.symm.trans e)];exact ⟨h1,h2,ry⟩
  ·rw [A0f e,A0f (fun z=>e (h1.trans z))];exact ⟨h1,h2,h3⟩
theorem KT.put {kvs:List (List Key×V)}{xs:List (List Key×Addr×Value)} (r:KT H kvs xs) (k:List Key)  (hb:H b=some (.tup (k.map kV))) (ry:RelV y u) :
  KT H (putK kvs k y) (storedH xs k b u):=by
 have e:(kvs.any fun kv=>decide (kv.1=k))=(atKey xs k).isSome:=by
  rw [jY,(r.val k).iV,A4g]
 unfold putK storedH;rw [e]
 by_cases q:(atKey xs k).isSome=true
 ·rw [A0i q,A0i q];exact r.repl k ry
 ·rw [A0f q,A0f q];exact A4J r ⟨rfl,hb,ry⟩
theorem KT.keeps {kvs:List (List Key×V)}{xs:List (List Key×Addr×Value)} (r:KT H kvs xs) (ht:∀ b ys,H b=some (.tup ys)->H' b=some (.tup ys)):KT H' kvs xs :=
 Paired.Jl r fun _ _ z=>⟨z.1,ht _ _ z.2.1,z.2.2⟩
theorem W4 {u:HO} (ok:nM P w H h) (e:Rd H a u):dW P w H h a u:=e.ok ok
theorem qW (ok:nM P w H h) (e:Rd H a 0x13):kvs.length<=sizeLine/\(a==sysModules)=false/\∃ vs,KV kvs vs/\h.DictOf (bY P w) a vs :=
 show dW P w H h a 0x13 from W4 ok e
theorem nZ (ok:nM P w H h) (e:H a=some 0x13):kvs.length<=sizeLine/\(a==sysModules)=false/\∃ vs,KV kvs vs/\h.DictOf (bY P w) a vs:=qW ok (.inl e)
theorem oF {ks:List Key} (ok:nM P w H h) (e:H a=some (.tup (ks.map kV))):(tupleKind (bY P w)).is h ks a:=by
 obtain ⟨_,its,r,o,h1,h2,n,h3⟩:=(show dW P w H h a (.tup (ks.map kV)) from ok a _ e)
 exact ⟨o,its.toArray,n,h1,h2,h3,by simpa using wg r⟩
theorem qX {kvs:List (List Key×V)} (ok:nM P w H h) (e:Rd H a (.dT kvs)):kvs.length<=sizeLine/\(a==sysModules)=false /\
  ∃ xs,KT H kvs xs/\h.DictOfH (tupleKind (bY P w)) a xs:=by
 obtain ⟨z,y,xs,r,o,es,ep,h1,h2,h3,h4,h5⟩:=(show dW P w H h a (.dT kvs) from W4 ok e)
 refine ⟨z,y,xs,r,o,es,ep,h1,h2,h3,h4,fun x hx=>?_,h5⟩;have all:∀ {l:List (List Key×V)}{m:List (List Key×Addr×Value)},KT H l m->∀ x∈m,(tupleKind (bY P w)).is h x.1 x.2.1:=by
  intro l m q
  induction q with
  | nil=>intro x hx;exact nomatch hx
  | @cons p q ps qs hq t ih =>
   intro x hx;rcases A0d.mp hx with e | hx
   ·subst e;exact oF ok (by rw [<- hq.1];exact hq.2.1)
   ·exact ih x hx
 exact all r x hx
theorem a0k {kvs:List (List Key×V)} (ok:nM P w H h) (e:H a=some (.dT kvs)):kvs.length<=sizeLine/\(a==sysModules)=false /\
  ∃ xs,KT H kvs xs/\h.DictOfH (tupleKind (bY P w)) a xs:=qX ok (.inl e)
def dj (H:Hp) (a:Addr) (y:V) (r:Option V):Prop :=
 (∃ kvs k,Rd H a 0x13/\y=kV k/\r=bI kvs k)\/∃ kvs k b,Rd H a (.dT kvs)/\y=.ref b/\H b=some (.tup (k.map kV))/\r=bI kvs k
def iK (H:Hp) (a:Addr) (y v:V) (H':Hp):Prop :=
 (∃ kvs k,H a=some 0x13/\y=kV k/\kvs.length<sizeLine/\H'=upd H a (.dK (putK kvs k v))) \/
 ∃ kvs k b,H a=some (.dT kvs)/\y=.ref b/\H b=some (.tup (k.map kV))/\kvs.length<sizeLine/\H'=upd H a (.dT (putK kvs k v))
theorem dj.k {k:Key} (e:H a=some 0x13):dj H a (kV k) (bI kvs k):=.inl ⟨kvs,k,.inl e,rfl,rfl⟩
theorem iK.k {k:Key} (e:H a=some 0x13) (hl:kvs.length<sizeLine):iK H a (kV k) v (upd H a (.dK (putK kvs k v))):=.inl ⟨kvs,k,e,rfl,hl,rfl⟩
section
variable {r:Value}{o:Option V}
theorem Inv.big (I:Inv X pins σ H s):sysModules<s.heap.objs.size:=by
 have h:mainGlobals<s.heap.objs.size:=(I.mod.glob.keeps I.bk).lt;exact Nat.lt_trans 0x6 h
theorem wj (hu:A.units+1<cLine) (I:Inv X pins σ H s) (g:dj H a y (some v)) (ry:RelV y u) (h:∀ w' s',Inv X pins σ H s'->RelV v w'->Q w' s') :
  wpAny 0x9 A (getItem (.ref a) u) Q E s:=by
 rcases g with ⟨kvs,k,e,ey,l⟩ | ⟨kvs,k,b,e,ey,eb,l⟩
 ·subst ey;obtain ⟨z,hd,vs,rel,dd⟩:=qW I.hok e;obtain ⟨w',hw,cO⟩:=jk.some_of (v:=v) (o:=valueAt vs k) (by rw [l];exact rel.val k);exact wpAny_getItem_of (mV ry) dd.mapOf hw (h w' _ (I.tok _) cO)
 ·subst ey;cases (show u=Value.ref b from ry)
  obtain ⟨z,hd,xs,rel,dd⟩:=qX I.hok e;obtain ⟨w',hw,cO⟩:=jk.some_of (v:=v) (o:=(atKey xs k).map (·.2)) (by rw [l];exact rel.val k);obtain ⟨p,hp,hp2⟩:=A0t.mp hw;refine wpAny_getItem_heap (A2p hu) (oF I.hok eb) dd hp ?_;rw [hp2];exact h w' _ (I.tok _) cO
theorem d_in (hu:A.units+1<cLine) (I:Inv X pins σ H s) (g:dj H a y o) (ry:RelV y u) (h:∀ s',Inv X pins σ H s'->Q (.bool o.isSome) s') :
  wpAny 0x9 A (compareOp .In u (.ref a)) Q E s:=by
 rcases g with ⟨kvs,k,e,ey,l⟩ | ⟨kvs,k,b,e,ey,eb,l⟩
 ·subst ey;obtain ⟨z,hd,vs,rel,dd⟩:=qW I.hok e;refine wpAny_in_of (mV ry) hd dd.mapOf ?_;rw [<- (rel.val k).iV,<- l];exact h _ (I.tok _)
 ·subst ey;cases (show u=Value.ref b from ry)
  obtain ⟨z,hd,xs,rel,dd⟩:=qX I.hok e;refine wpAny_in_heap (A2p hu) (oF I.hok eb) hd dd ?_;have q:=(rel.val k).iV;rw [A4g] at q;rw [<- q,<- l];exact h _ (I.tok _)
theorem Tc (hu:A.units+1<cLine) (I:Inv X pins σ H s) (g:dj H a y o) (ry:RelV y u) (h:∀ s',Inv X pins σ H s'->Q (.bool (!o.isSome)) s') :
  wpAny 0x9 A (compareOp .NotIn u (.ref a)) Q E s:=by
 rcases g with ⟨kvs,k,e,ey,l⟩ | ⟨kvs,k,b,e,ey,eb,l⟩
 ·subst ey;obtain ⟨z,hd,vs,rel,dd⟩:=qW I.hok e;refine wpAny_notIn_of (mV ry) hd dd.mapOf ?_;rw [<- (rel.val k).iV,<- l];exact h _ (I.tok _)
 ·subst ey;cases (show u=Value.ref b from ry)
  obtain ⟨z,hd,xs,rel,dd⟩:=qX I.hok e;refine wpAny_notIn_heap (A2p hu) (oF I.hok eb) hd dd ?_;have q:=(rel.val k).iV;rw [A4g] at q;rw [<- q,<- l];exact h _ (I.tok _)
theorem jr {ob:HO} (I:Inv X pins σ H s) (mu:ZS (H a)) (hs:Heap.SameBut a s.heap h') (he:∃ q,h'.get? a=some q) (new:dW X.prog X.w (upd H a ob) h' a ob) :
  Inv X pins σ (upd H a ob) { s with heap:=h',toks:=t' } :=
 I.write (x:=a) (e:=a) mu (.inl rfl) (fun b q hb z=>(hs.2 b hb).trans z) he new
theorem tY {vs:List (Key×Value)} (z:kvs.length<=sizeLine) (hd:(a==sysModules)=false) (rel:KV kvs vs) (dd:h'.DictOf (bY P w) a vs) :
  dW P w H' h' a 0x13:=⟨z,hd,vs,rel,dd⟩
theorem wk {Q:Unit->Shared->Prop} (hu:A.units+1<cLine) (I:Inv X pins σ H s) (g:iK H a y v H') (ry:RelV y u) (rv:RelV v r) (h:∀ s',Inv X pins σ H' s'->Q () s') :
  wpAny 0x9 A (setItem (.ref a) u r) Q E s:=by
 rcases g with ⟨kvs,k,e,ey,l,eH⟩ | ⟨kvs,k,b,e,ey,eb,l,eH⟩
 ·subst ey eH;obtain ⟨z,hd,vs,rel,dd⟩:=nZ I.hok e;have hz:vs.length<=sizeLine:=by rw [<- rel.length];exact z
  have hl:(putK kvs k v).length<=sizeLine:=by have:=dY kvs k v;lia
  refine wpAny_setItem_pairs (hsz:=hz) (mV ry) dd fun h' qY hs=>h _ ?_;have he:∃ q,h'.get? a=some q:=let ⟨q,_,_,hq,_⟩:=qY;⟨q,hq⟩
  exact jr I (by rw [e];exact True.intro) hs he (tY hl hd (rel.put k rv) qY)
 ·subst ey eH;cases (show u=Value.ref b from ry)
  obtain ⟨z,hd,xs,rel,dd⟩:=a0k I.hok e;have hz:xs.length<=sizeLine:=by rw [<- A2P rel];exact z
  have hl:(putK kvs k v).length<=sizeLine:=by have:=dY kvs k v;lia
  refine wpAny_setItem_heap (hsz:=hz) (A2p hu) (oF I.hok eb) dd fun h' qY hs=>h _ ?_;obtain ⟨q,es,ep,hq,h2,h3,h4,_,h5⟩:=qY;refine jr I (by rw [e];exact True.intro) hs ⟨q,hq⟩ ⟨hl,hd,_,(rel.put k eb rv).keeps fun c ys ec=>?_,q,es,ep,hq,h2,h3,h4,h5⟩;rw [aj (aM ec e (fun z=>nomatch z))]
  exact ec
end
section
variable {k:Key}
theorem JF {Q:Unit->Shared->Prop} (I:Inv X pins σ H s) (e:H a=some 0x13) (ry:RelV (kV k) u) (l:(bI kvs k).isSome=true) (h:∀ s',Inv X pins σ (upd H a (.dK (jd kvs k))) s'->Q () s') :
  wpAny 0x9 A (delItem (.ref a) u) Q E s:=by
 obtain ⟨z,hd,vs,rel,dd⟩:=nZ I.hok e;refine wpAny_delItem_slot dd.typeIs 0x6 PySem.F.slot_dict_delitem
  (A2L PySem.F.slot_dict_delitem dd.typeIs PySem.F.entry_dict_delitem (PySem.F.args_dict_delitem_2 _ _) (meets_dict_delitem_pairs (bY X.prog X.w) a (mV ry)) ⟨vs,dd,by rw [<- rel.length];exact z,by rw [<- (rel.val k).iV];exact l,fun h' qY hs=>h _ ?_⟩)
 have he:∃ q,h'.get? a=some q:=let ⟨q,_,_,hq,_⟩:=qY;⟨q,hq⟩
 exact jr I (by rw [e];exact True.intro) hs he (tY (A0M (Ax kvs k) z) hd (rel.drop k) qY)
theorem a0l {more:List Value} (I:Inv X pins σ H s) (e:H a=some 0x13) (ry:RelV (kV k) u) (l:bI kvs k=some v) (hm:more=[]\/∃ x,more=[x])
  (h:∀ w' s',Inv X pins σ (upd H a (.dK (jd kvs k))) s'->RelV v w'->Q w' s'):wpAny 0x9 A (call (.builtin "dict.pop") (.ref a::u::more)) Q E s:=by
 obtain ⟨z,hd,vs,rel,dd⟩:=nZ I.hok e;obtain ⟨w',hw,cO⟩:=jk.some_of (v:=v) (o:=valueAt vs k) (by rw [<- l];exact rel.val k);have hp:(keyPart u).isSome=true:=by
  cases k with
  | inl i=>obtain ⟨t,q⟩:=(show ∃ t,u=Value.int i t from ry);subst q;rfl
  | inr x=>obtain ⟨t,q⟩:=(show ∃ t,u=Value.str x t from ry);subst q;rfl
 have ha:argsOk "dict.pop" ⟨.ref a::u::more,[]⟩:=by
  rcases hm with q | ⟨x,q⟩
  ·subst q;exact PySem.F.args_dict_pop_2 _ _
  ·subst q;exact PySem.F.args_dict_pop_3 _ _ _
 refine A2L PySem.F.slot_dict_pop dd.typeIs PySem.F.entry_dict_pop ha (meets_dict_pop_there (bY X.prog X.w) a (mV ry) more hm hp)
  ⟨vs,w',dd,by rw [<- rel.length];exact z,hw,fun h' qY hs=>h w' _ ?_ cO⟩
 have he:∃ q,h'.get? a=some q:=let ⟨q,_,_,hq,_⟩:=qY;⟨q,hq⟩
 exact jr I (by rw [e];exact True.intro) hs he (tY (A0M (Ax kvs k) z) hd (rel.drop k) qY)
end
def NoSl (i:Expr):Prop:=∀ ov iv,subscripted i false ov iv=operate [ov,iv] (getItem ov iv)
theorem Td {slice:Expr}{id:String}
  (hl:typeLookup (.type T) "__getitem__"=pure (some (.builtin id))) (hs:NoSl slice)
  (h:wpAny 0x14 A (eval value env) (fun o s₁=>wpAny 0x14 A (eval slice env) (fun i s₂=>s₂.TypeIs o T/\wpAny 0x14 A (getItem o i) Q E s₂) E s₁) E s) :
  wpAny 0x14 A (eval (.Subscript value slice pos) env) Q E s:=by
 refine Subscript_ (A1p h (fun o s₁ h₁=>A1p h₁ (fun i s₂ h₂=>?_) fun _ _ x=>x) fun _ _ x=>x);obtain ⟨hT,h₂⟩:=h₂;unfold subscriptTail;refine A0a ?_;rw [getitemInPython_of_ne hT.not_modules];refine A0a (wpAny_specialOf hT hl ?_);have fin:wpAny 0x14 A (subscripted slice false o i) (fun r s₃=>wpAny 0x14 A (letTemporaryGo value o r >>= fun _=>pure r) Q E s₃) E s₂:=by
  rw [hs o i];exact wpAny_operating (A1p h₂ (fun r s₃ h₃=>A0a (wpAny_letTemporaryGo (A0s h₃))) fun _ _ x=>x)
 first
  | exact A0s (A0a fin)
  | exact A0a (A0s (A0a fin))
  | exact A0a fin
theorem Ay {o:Option V} (I:Inv X pins σ H s) (g:dj H a y o):s.TypeIs (.ref a) "dict":=by
 rcases g with ⟨kvs,k,e,_,_⟩ | ⟨kvs,k,b,e,_,_,_⟩
 ·obtain ⟨_,_,vs,_,dd⟩:=qW I.hok e;exact dd.typeIs
 ·obtain ⟨_,_,xs,_,dd⟩:=qX I.hok e;exact dd.typeIs
inductive Hi (Q:VK) (x y:V) (H2:Hp):Prop
 | mk (a:Addr) (v:V) (_:x=.ref a) (_:dj H2 a y (some v)) (_:Q v H2):Hi Q x y H2
def a0m (td ty:TE):TE:=fun σ H Q=>td σ H fun x H1=>ty σ H1 fun y H2=>Hi Q x y H2
inductive Ni (Q:VK) (y x:V) (H2:Hp):Prop
 | mk (a:Addr) (o:Option V) (_:x=.ref a) (_:dj H2 a y o) (_:Q (.bl o.isSome) H2):Ni Q y x H2
def tDIn (ty td:TE):TE:=fun σ H Q=>ty σ H fun y H1=>td σ H1 fun x H2=>Ni Q y x H2
inductive wz (Q:VK) (y x:V) (H2:Hp):Prop
 | mk (a:Addr) (o:Option V) (_:x=.ref a) (_:dj H2 a y o) (_:Q (.bl (!o.isSome)) H2):wz Q y x H2
def Te (ty td:TE):TE:=fun σ H Q=>ty σ H fun y H1=>td σ H1 fun x H2=>wz Q y x H2
inductive Hj (D:Ends) (σ:L2.St) (v x y:V) (H3:Hp):Prop
 | mk (a:Addr) (H4:Hp) (_:x=.ref a) (_:iK H3 a y v H4) (_:D.nx σ H4):Hj D σ v x y H3
def a0n (td ty tv:TE):TS:=fun D σ H=>tv σ H fun v H1=>td σ H1 fun x H2=>ty σ H2 fun y H3=>Hj D σ v x y H3
inductive Hl (tv:TE) (rd:V->V->Hp->VK->Prop) (D:Ends) (σ:L2.St) (x y:V) (H2:Hp):Prop
 | mk (a:Addr) (v:V) (_:x=.ref a) (_:dj H2 a y (some v)) (_:tv σ H2 fun y2 H3=>rd v y2 H3 fun z H4=>∃ H5,iK H4 a y z H5/\D.nx σ H5):Hl tv rd D σ x y H2
def a0o (td ty tv:TE) (rd:V->V->Hp->VK->Prop):TS:=fun D σ H=>td σ H fun x H1=>ty σ H1 fun y H2=>Hl tv rd D σ x y H2
inductive Ho (D:Ends) (σ:L2.St) (x y:V) (H2:Hp):Prop
 | mk (a:Addr) (kvs:List 0x22) (k:L2.Key) (_:x=.ref a) (_:H2 a=some 0x13) (_:y=kV k) (_:(bI kvs k).isSome=true) (_:D.nx σ (upd H2 a (.dK (jd kvs k)))):Ho D σ x y H2
def a0p (td ty:TE):TS:=fun D σ H=>td σ H fun x H1=>ty σ H1 fun y H2=>Ho D σ x y H2
section
variable {o i:Expr}{tpos:Pos}
theorem bH (hu:X.A.units+1<cLine) (ho:PE X o td) (hi:PE X i ty) (hs:NoSl i):PE X (.Subscript o i pos) (a0m td ty):=by
 intro pins s σ H Q I h;refine Td PySem.F.slot_dict_getitem.lookup hs (cN (ho pins s σ H _ I h) fun u s1 ⟨x,H1,I1,rx,q1⟩=>cN (hi pins s1 σ H1 _ I1 q1) fun iv s2 zq=>?_);obtain ⟨y,H2,I2,ry,a,v,ex,g,q2⟩:=zq;subst ex;obtain rfl:u=Value.ref a:=rx;exact ⟨Ay I2 g,wj hu I2 g ry fun w' s3 I3 cO=>⟨v,H2,I3,cO,q2⟩⟩
theorem tZ (hu:X.A.units+1<cLine) (hi:PE X i ty) (ho:PE X o td):PC X .In i o (tDIn ty td):=by
 intro pins s σ H Q I h;refine cN (hi pins s σ H _ I h) fun iv s1 ⟨y,H1,I1,ry,q1⟩=>cN (ho pins s1 σ H1 _ I1 q1) fun u s2 zq=>?_;obtain ⟨x,H2,I2,rx,a,ov,ex,g,q2⟩:=zq;subst ex;obtain rfl:u=Value.ref a:=rx;exact d_in hu I2 g ry fun s3 I3=>⟨.bl ov.isSome,H2,I3,rfl,q2⟩
theorem JG (hu:X.A.units+1<cLine) (hi:PE X i ty) (ho:PE X o td):PC X .NotIn i o (Te ty td):=by
 intro pins s σ H Q I h;refine cN (hi pins s σ H _ I h) fun iv s1 ⟨y,H1,I1,ry,q1⟩=>cN (ho pins s1 σ H1 _ I1 q1) fun u s2 zq=>?_;obtain ⟨x,H2,I2,rx,a,ov,ex,g,q2⟩:=zq;subst ex;obtain rfl:u=Value.ref a:=rx;exact Tc hu I2 g ry fun s3 I3=>⟨.bl (!ov.isSome),H2,I3,rfl,q2⟩
theorem dw (hu:X.A.units+1<cLine) (ho:PE X o td) (hi:PE X i ty) (hv:PE X value tv) (hs:swapsWith value (some (.Subscript o i pos')) pos.line X.env=pure false) :
  PS X (.Assign [.Subscript o i pos'] value pos) (a0n td ty tv):=by
 intro pins s σ H D I h;refine wpAny_Assign_Subscript (cN (hv pins s σ H _ I h) fun r s1 ⟨v,H1,I1,rv,q1⟩=>cN (ho pins s1 σ H1 _ I1 q1) fun u s2 ⟨x,H2,I2,rx,q2⟩=>cN (hi pins s2 σ H2 _ I2 q2) fun iv s3 ⟨y,H3,I3,ry,a,H4,ex,g,q3⟩=>?_) hs;subst ex;obtain rfl:u=Value.ref a:=rx;exact wk hu I3 g ry rv fun s4 I4=>⟨σ,H4,I4,q3⟩
theorem rO {op:Operator}{rd:V->V->Hp->VK->Prop} (hu:X.A.units+1<cLine) (ho:PE X o td) (hi:PE X i ty) (hv:PE X value tv) (hop:Xi X op rd)
  (ha:∀ ov iv new,augStore i ov iv new=(do holding [new,ov,iv] (setItem ov iv new);release [new,ov,iv] [];pure .next)):PS X (.AugAssign (.Subscript o i tpos) op value pos) (a0o td ty tv rd):=by
 intro pins s σ H D I h;refine wpAny_AugAssign_SubscriptAny (cN (ho pins s σ H _ I h) fun u s1 ⟨x,H1,I1,rx,q1⟩=>cN (hi pins s1 σ H1 _ I1 q1) fun iv s2 ⟨y,H2,I2,ry,a,v,ex,g,q2⟩=>?_) ha;subst ex;obtain rfl:u=Value.ref a:=rx;refine wj hu I2 g ry fun w' s3 I3 cO=>cN (hv pins s3 σ H2 _ I3 q2) fun w2 s4 ⟨y2,H3,I4,ry2,q3⟩=>cN (hop pins s4 σ H3 v y2 w' w2 _ I4 cO ry2 q3) fun w3 s5 zq=>?_;obtain ⟨z,H4,I5,rz,H5,g5,q4⟩:=zq;exact wk hu I5 g5 ry rz fun s6 I6=>⟨σ,H5,I6,q4⟩
theorem pF (ho:PE X o td) (hi:PE X i ty):PS X (.Delete [.Subscript o i tpos] pos) (a0p td ty):=by
 intro pins s σ H D I h;refine wpAny_Delete (wpAny_deleteEach_cons (wpAny_delete_Subscript (cN (ho pins s σ H _ I h) fun u s1 ⟨x,H1,I1,rx,q1⟩=>cN (hi pins s1 σ H1 _ I1 q1) fun iv s2 zq=>?_)));obtain ⟨y,H2,I2,ry,a,kvs,k,ex,e,ey,l,q2⟩:=zq;subst ex ey;obtain rfl:u=Value.ref a:=rx;exact JF I2 e ry l fun s3 I3=>wpAny_deleteEach_nil ⟨σ,_,I3,q2⟩
end
theorem Az (h:Heap) (hb:sysModules<h.objs.size):dW P w H (h.push { cls:=.type "dict",data:=.dict #[] }) h.objs.size (.dK []) :=
 ⟨A1f _,A1v.mpr (A0k (A0S hb)),[],.nil,Heap.DictOf.new h⟩
def DP:TE:=fun _ H Q=>∀ p,H p=none->Q (.ref p) (upd H p (.dK []))
theorem je:PE X (.Dict [] [] pos) DP:=fun pins s σ H Q I h =>
 wpAny_Dict_empty ⟨.ref s.heap.objs.size,_,I.laid (a:=s.heap.objs.size) (o:=.dK []) (t':=s.toks) (fun _ _ q=>A0c _ q) (A0h _) (Az s.heap I.big),rfl,h _ (I.hok.fresh (A0h _))⟩
def oG:List (TE×TE)->St->Hp->(List (V×V)->Hp->Prop)->Prop
 | [],_,H,Q=>Q [] H
 | (tk,tv)::r,σ,H,Q=>tk σ H fun x H1=>tv σ H1 fun y H2=>oG r σ H2 fun ps H3=>Q ((x,y)::ps) H3
abbrev VV:List (V×V)->List (Value×Value)->Prop:=Paired fun p q=>RelV p.1 q.1/\RelV p.2 q.2
def PPs (X:Cx) (pos:Pos) (keys:List (Option Expr)) (values:List Expr) (Lb:List (TE×TE)):Prop :=
 ∀ (pins:List 0x17) (s:Shared) (σ:St) (H:Hp) (Q:List (V×V)->Hp->Prop),Inv X pins σ H s->oG Lb σ H Q ->
  wpAny 0x9 X.A (evalPairs (pairTrees keys values X.env pos)) (fun vs s'=>∃ ps H',Inv X pins σ H' s'/\VV ps vs/\Q ps H') X.xe s
theorem Hq:PPs X pos [] [] []:=fun pins s σ H Q I h=>pairTrees_nil_walk ⟨[],H,I,.nil,h⟩
theorem iz {k v:Expr}{ks:List (Option Expr)}{vs:List Expr}{tk:TE} (hk:PE X k tk) (hv:PE X v tv) (hr:PPs X pos ks vs Lb) :
  PPs X pos (some k::ks) (v::vs) ((tk,tv)::Lb):=fun pins s σ H Q I h =>
 pairTrees_cons_walk (cN (hk pins s σ H _ I h) fun u s1 ⟨x,H1,I1,rx,q1⟩=>cN (hv pins s1 σ H1 _ I1 q1) fun w2 s2 ⟨y,H2,I2,ry,q2⟩ =>
  cN (hr pins s2 σ H2 _ I2 q2) fun ws s3 ⟨ps,H3,I3,rel,q3⟩=>⟨(x,y)::ps,H3,I3,.cons ⟨rx,ry⟩ rel,q3⟩)
def dF (kvs more:List 0x30):List 0x30:=more.foldl (fun acc kv=>putK acc kv.1 kv.2) kvs
theorem KV.merge:∀ {more:List 0x30}{rs:List (Key×Value)}{kvs:List 0x30}{vs:List (Key×Value)},KV more rs->KV kvs vs->KV (dF kvs more) (merged vs rs):=by
 intro more rs kvs vs r;unfold KV at r
 induction r generalizing kvs vs with
 | nil=>intro q;exact q
 | @cons p q ps qs h t ih =>
  intro r0;have e:KV (putK kvs p.1 p.2) (stored vs q.1 q.2):=by
   have:=r0.put p.1 h.2;rw [<- h.1];exact this
  exact ih e
theorem jN:∀ (more kvs:List 0x30),(dF kvs more).length<=kvs.length+more.length
 | [],kvs=>by show kvs.length<=kvs.length+0;lia
 | p::r,kvs=>by
  have h1:=jN r (putK kvs p.1 p.2);have h2:=dY kvs p.1 p.2
  show (dF (putK kvs p.1 p.2) r).length<=_
  rw [vI];lia
theorem u0 {P:Program}{w:World}:∀ {kvs:List 0x30}{ws:List (Value×Value)},VV (kvs.map fun kv=>(kV kv.1,kv.2)) ws->∃ rs,Carries (bY P w) ws rs/\KV kvs rs
 | [],_,r=>by rw [A3p] at r;cases r;exact ⟨[],True.intro,.nil⟩
 | p::kvs,_,r=>by
  rw [A0m] at r;cases r with
  | @cons a b as bs h t =>
   obtain ⟨rs,c,q⟩:=u0 (P:=P) (w:=w) t;obtain ⟨b1,b2⟩:=b;exact ⟨(p.1,b2)::rs,⟨mV h.1,rfl,c⟩,.cons ⟨rfl,h.2⟩ q⟩
def o8 (Lb:List (TE×TE)):TE:=fun σ H Q=>∀ p,H p=none->oG Lb σ (upd H p (.dK [])) fun ps H2=>H2 p=some (.dK [])/\∃ kvs:List 0x30,ps=kvs.map (fun kv=>(kV kv.1,kv.2))/\kvs.length<=15/\Q (.ref p) (upd H2 p (.dK (dF [] kvs)))
theorem Hr {keys:List (Option Expr)}{values:List Expr} (h:PPs X pos keys values Lb) (hall:keys.all (·.isSome)=true) (hl:keys.length=values.length) (h0:keys≠[])
  (h15:keys.length<=15):PE X (.Dict keys values pos) (o8 Lb):=by
 intro pins s σ H Q I q;have hn:=I.hok.fresh (A0h s.heap.objs.size);have I1:=I.laid (a:=s.heap.objs.size) (o:=.dK []) (h':=s.heap.push { cls:=.type "dict",data:=.dict #[] }) (t':=s.toks) (fun _ _ q=>A0c _ q) (A0h _) (Az s.heap I.big);refine wpAny_Dict_walk (knd:=bY X.prog X.w) hall hl h0 h15 (cN (h pins _ σ _ _ I1 (q _ hn)) fun ws s2 zq=>?_);obtain ⟨ps,H2,I2,rel,e,kvs,ep,lk,q2⟩:=zq;subst ep;obtain ⟨rs,c,rk⟩:=u0 (P:=X.prog) (w:=X.w) rel;obtain ⟨z,hd,vs0,r0,dd⟩:=nZ I2.hok e;cases r0;refine ⟨rs,c,dd,fun h' qY hs=>⟨.ref s.heap.objs.size,_,?_,rfl,q2⟩⟩;have hz:(dF [] kvs).length<=sizeLine:=by
  have h1:=jN kvs [];rw [A4x] at h1;rw [A1G];lia
 have he:∃ q,h'.get? s.heap.objs.size=some q:=let ⟨q,_,_,hq,_⟩:=qY;⟨q,hq⟩
 exact jr I2 (by rw [e];exact True.intro) hs he (tY hz hd (rk.merge .nil) qY)
structure M1 (X:Cx) (o:Expr) (m:Str) (apos:Pos) (e:Expr) (cpos:Pos):Prop where
 base:attributeBase o m X.env (eval o X.env)=eval o X.env
 few:((backTo cpos (starEach [e] X.env)).all (fun x=>!x.1)&&(backToKw cpos (keywordEach [] X.env)).all (fun x=>x.1.isSome)
  &&decide (([e]:List Expr).length+([]:List Keyword).length+(if ([]:List Keyword).isEmpty then 0 else 1)<30))=true
 line:(apos.endLine==cpos.line)=true
 trees:backTo cpos (starEach [e] X.env)=[(false,eval e X.env)]
structure M2 (X:Cx) (o:Expr) (m:Str) (apos:Pos) (e f:Expr) (cpos:Pos):Prop where
 base:attributeBase o m X.env (eval o X.env)=eval o X.env
 few:((backTo cpos (starEach [e,f] X.env)).all (fun x=>!x.1)&&(backToKw cpos (keywordEach [] X.env)).all (fun x=>x.1.isSome)
  &&decide (([e,f]:List Expr).length+([]:List Keyword).length+(if ([]:List Keyword).isEmpty then 0 else 1)<30))=true
 line:(apos.endLine==cpos.line)=true
 trees:backTo cpos (starEach [e,f] X.env)=[(false,eval e X.env),(false,eval f X.env)]
def ZC (H:Hp) (a:Addr):Prop:=(∃ kvs,Rd H a 0x13)\/∃ kvs,Rd H a (.dT kvs)
theorem xV (I:Inv X pins σ H s) (d:ZC H a) :
  s.TypeIs (.ref a) "dict"/\(∀ b,Value.ref a=.ref b->∃ ob,s.heap.get? b=some ob/\ob.dict=none)/\(a==sysModules)=false:=by
 rcases d with ⟨kvs,e⟩ | ⟨kvs,e⟩
 ·obtain ⟨_,hd,vs,_,dd⟩:=qW I.hok e;refine ⟨dd.typeIs,fun b q=>?_,hd⟩;cases q;obtain ⟨ob,_,_,h1,h2,_⟩:=dd;exact ⟨ob,h1,h2.2.1⟩
 ·obtain ⟨_,hd,xs,_,dd⟩:=qX I.hok e;refine ⟨dd.typeIs,fun b q=>?_,hd⟩;cases q;obtain ⟨ob,_,_,h1,h2,_⟩:=dd;exact ⟨ob,h1,h2.2.1⟩
section
variable {d:V}{r:Value}{o:Option V}
theorem XJ (hu:A.units+1<cLine) (I:Inv X pins σ H s) (g:dj H a y o) (ry:RelV y u) (h:∀ w' s',Inv X pins σ H s'->RelV (o.getD .non) w'->Q w' s') :
  wpAny 0x9 A (call (.builtin "dict.get") [.ref a,u]) Q E s:=by
 rcases g with ⟨kvs,k,e,ey,l⟩ | ⟨kvs,k,b,e,ey,eb,l⟩
 ·subst ey;obtain ⟨z,hd,vs,rel,dd⟩:=qW I.hok e;refine A2L A1X dd.typeIs A2M (PySem.F.args_dict_get_2 _ _) (meets_dict_get (bY X.prog X.w) a (mV ry) hd) ⟨_,dd.mapOf,h _ _ (I.tok _) ?_⟩;rw [l];exact (rel.val k).getD rfl
 ·subst ey;cases (show u=Value.ref b from ry)
  obtain ⟨z,hd,xs,rel,dd⟩:=qX I.hok e;refine A2L A1X dd.typeIs A2M (PySem.F.args_dict_get_2 _ _) (meetsH_dict_get (tupleKind (bY X.prog X.w)) a b hd) ⟨A2p hu,k,xs,oF I.hok eb,dd,h _ _ (I.tok _) ?_⟩;rw [l];exact (rel.val k).getD rfl
theorem XM (hu:A.units+1<cLine) (I:Inv X pins σ H s) (g:dj H a y o) (ry:RelV y u) (rd:RelV d r) (h:∀ w' s',Inv X pins σ H s'->RelV (o.getD d) w'->Q w' s') :
  wpAny 0x9 A (call (.builtin "dict.get") [.ref a,u,r]) Q E s:=by
 rcases g with ⟨kvs,k,e,ey,l⟩ | ⟨kvs,k,b,e,ey,eb,l⟩
 ·subst ey;obtain ⟨z,hd,vs,rel,dd⟩:=qW I.hok e;refine A2L A1X dd.typeIs A2M (PySem.F.args_dict_get_3 _ _ _) (meets_dict_get_default (bY X.prog X.w) a (mV ry) hd r) ⟨_,dd.mapOf,h _ _ (I.tok _) ?_⟩;rw [l];exact (rel.val k).getD rd
 ·subst ey;cases (show u=Value.ref b from ry)
  obtain ⟨z,hd,xs,rel,dd⟩:=qX I.hok e;refine A2L A1X dd.typeIs A2M (PySem.F.args_dict_get_3 _ _ _) (meetsH_dict_get_default (tupleKind (bY X.prog X.w)) a b hd r) ⟨A2p hu,k,xs,oF I.hok eb,dd,h _ _ (I.tok _) ?_⟩;rw [l];exact (rel.val k).getD rd
end
inductive Ba (ty:TE) (σ:L2.St) (Q:VK) (x:V) (H1:Hp):Prop
 | mk (a:Addr) (_:x=.ref a) (_:ZC H1 a) (_:ty σ H1 fun y H2=>∃ o,dj H2 a y o/\Q (o.getD .non) H2):Ba ty σ Q x H1
def XQ (td ty:TE):TE:=fun σ H Q=>td σ H fun x H1=>Ba ty σ Q x H1
inductive Bb (ty tx:TE) (σ:L2.St) (Q:VK) (x:V) (H1:Hp):Prop
 | mk (a:Addr) (_:x=.ref a) (_:ZC H1 a) (_:ty σ H1 fun y H2=>tx σ H2 fun z H3=>∃ o,dj H3 a y o/\Q (o.getD z) H3):Bb ty tx σ Q x H1
def XS (td ty tx:TE):TE:=fun σ H Q=>td σ H fun x H1=>Bb ty tx σ Q x H1
inductive Bc (ty:TE) (σ:L2.St) (Q:VK) (x:V) (H1:Hp):Prop
 | mk (a:Addr) (_:x=.ref a) (_:ZC H1 a) (_:ty σ H1 fun y H2=>∃ kvs k v,H2 a=some 0x13/\y=kV k/\bI kvs k=some v/\Q v (upd H2 a (.dK (jd kvs k)))):Bc ty σ Q x H1
def Y0 (td ty:TE):TE:=fun σ H Q=>td σ H fun x H1=>Bc ty σ Q x H1
section
variable {o f:Expr}{tx:TE}
theorem uc (hu:X.A.units+1<cLine) (ho:PE X o td) (he:PE X e ty) (m:M1 X o "get" apos e cpos):PE X (.Call (.Attribute o "get" apos) [e] [] cpos) (XQ td ty):=by
 intro pins s σ H Q I h;refine A2Q m.base m.few m.line A2e A1X PySem.F.type_dict_get (cN (ho pins s σ H _ I h) fun u s1 zq=>?_);obtain ⟨x,H1,I1,rx,a,ex,d,q1⟩:=zq;subst ex;obtain rfl:u=Value.ref a:=rx;obtain ⟨t1,t2,_⟩:=xV I1 d;refine ⟨t1,t2,?_⟩;rw [m.trees];refine A1r rfl (A2a (A1P (cN (he pins s1 σ H1 _ I1 q1) fun iv s2 ⟨y,H2,I2,ry,ov,g,q2⟩=>A2s ?_)));exact XJ hu I2 g ry fun w' s3 I3 cO=>⟨_,H2,I3,cO,q2⟩
theorem Bf (hu:X.A.units+1<cLine) (ho:PE X o td) (he:PE X e ty) (hf:PE X f tx) (m:M2 X o "get" apos e f cpos):PE X (.Call (.Attribute o "get" apos) [e,f] [] cpos) (XS td ty tx):=by
 intro pins s σ H Q I h;refine A2Q m.base m.few m.line A2e A1X PySem.F.type_dict_get (cN (ho pins s σ H _ I h) fun u s1 zq=>?_);obtain ⟨x,H1,I1,rx,a,ex,d,q1⟩:=zq;subst ex;obtain rfl:u=Value.ref a:=rx;obtain ⟨t1,t2,_⟩:=xV I1 d;refine ⟨t1,t2,?_⟩;rw [m.trees];refine A1r rfl (A2a (A1P (cN (he pins s1 σ H1 _ I1 q1) fun iv s2 ⟨y,H2,I2,ry,q2⟩ =>
  A1P (cN (hf pins s2 σ H2 _ I2 q2) fun fv s3 ⟨z,H3,I3,rz,ov,g,q3⟩=>A2s ?_))))
 exact XM hu I3 g ry rz fun w' s4 I4 cO=>⟨_,H3,I4,cO,q3⟩
theorem pG (ho:PE X o td) (he:PE X e ty) (m:M1 X o "pop" apos e cpos):PE X (.Call (.Attribute o "pop" apos) [e] [] cpos) (Y0 td ty):=by
 intro pins s σ H Q I h;refine A2Q m.base m.few m.line A2e PySem.F.slot_dict_pop PySem.F.type_dict_pop (cN (ho pins s σ H _ I h) fun u s1 zq=>?_);obtain ⟨x,H1,I1,rx,a,ex,d,q1⟩:=zq;subst ex;obtain rfl:u=Value.ref a:=rx;obtain ⟨t1,t2,_⟩:=xV I1 d;refine ⟨t1,t2,?_⟩;rw [m.trees];refine A1r rfl (A2a (A1P (cN (he pins s1 σ H1 _ I1 q1) fun iv s2 ⟨y,H2,I2,ry,kvs,k,v,ea,ey,l,q2⟩=>A2s ?_)));subst ey;exact a0l I2 ea ry l (.inl rfl) fun w' s3 I3 cO=>⟨v,_,I3,cO,q2⟩
end
section
variable {a b:Expr}{ta:TA}{p:Pos}
end
def gG (P:Params):List DictEntry->List (Str×V)->Prop
 | [],[]=>True
 | e::r,(k,v)::q=>((∃ t,e.key=.str k t)/\e.hash=PyData.keyHash P k/\RelV v e.val)/\gG P r q
 | _,_=>False
theorem gG.lit {P:Params}:∀ {es:List DictEntry}{kvs:List (Str×V)},gG P es kvs->KeysLit P es
 | [],[],_=>trivial
 | e::r,(k,v)::q,⟨⟨⟨t,h1⟩,h2,_⟩,h⟩=>⟨⟨k,t,h1,h2⟩,h.lit⟩
theorem gG.rel {P:Params} (x:Str):∀ {es:List DictEntry}{kvs:List (Str×V)},gG P es kvs->jk (kvs.lookup x) ((es.find? fun e=>Value.isStrOf x e.key).map (·.val))
 | [],[],_=>trivial
 | e::r,(k,v)::q,⟨⟨⟨t,h1⟩,h2,h3⟩,h⟩=>by
  have hk:Value.isStrOf x e.key=(k==x):=by rw [h1];rfl
  by_cases hx:x=k
  ·subst hx;have:Value.isStrOf x e.key=true:=by rw [hk];simp
   rw [A2h,this,A0X];simp only [A2H];exact h3
  ·have h4:Value.isStrOf x e.key=false:=by rw [hk];simpa using fun z:k=x=>hx z.symm
   have h5:(x==k)=false:=by simpa using hx
   rw [A2h,h4,A0X,h5];exact h.rel x
structure KD (K:PySem.W.Frag) (P:Params) (a:Addr) (kvs:List (Str×V)):Prop where
 ex:∃ es n,K.lookup a=some ⟨.type "dict",none,.dict es n,#[]⟩/\gG P es.toList kvs
 lo:(a==sysModules)=false
theorem KD.map {kvs:List (Str×V)} (d:KD K w.params a kvs)  (X:K.In h):∃ f,h.MapOf (strKind prog w) a f/\∀ x,jk (kvs.lookup x) (f x):=by
 obtain ⟨es,n,hl,he⟩:=d.ex;refine ⟨_,mapOf_K X hl he.lit,fun x=>?_⟩;obtain ⟨l⟩:=es;have:=he.rel x;unfold findBy;rw [List.find?_toArray];exact this
inductive W5 (K:W.Frag) (P:Params) (neg:Bool) (x y:V) (H:Hp) (Q:VK):Prop
 | mk (z:Str) (a:Addr) (kvs:List (Prod Str V)) (_:x=.str z) (_:y=.ref a) (_:KD K P a kvs) (_:Q (.bl (neg != (kvs.lookup z).isSome)) H):W5 K P neg x y H Q
theorem Hs:mq X (compareOp .In) (W5 X.K X.w.params false):=by
 intro pins s σ H x y v u Q I rx ry h;obtain ⟨z,a,kvs,rfl,rfl,d,q⟩:=h;obtain ⟨t,rfl⟩:=rx;cases ry;obtain ⟨f,hm,hr⟩:=d.map (prog:=X.prog) I.nO;refine wpAny_in_of (A3g X.prog X.w z t) d.lo hm ?_;rw [<- (hr z).iV];exact ⟨.bl _,H,I.tok _,rfl,by simpa using q⟩
inductive W6 (K:W.Frag) (P:Params) (x y:V) (H:Hp) (Q:VK):Prop
 | mk (a:Addr) (kvs:List (Prod Str V)) (z:Str) (v:V) (_:x=.ref a) (_:y=.str z) (_:KD K P a kvs) (_:kvs.lookup z=some v) (_:Q v H):W6 K P x y H Q
theorem Ht:Xn X (W6 X.K X.w.params):=by
 intro value slice pins s σ H x y v u Q I rx ry h hs;obtain ⟨a,kvs,z,w',rfl,rfl,d,hl,q⟩:=h;cases rx;obtain ⟨t,rfl⟩:=ry;obtain ⟨f,hm,hr⟩:=d.map (prog:=X.prog) I.nO;obtain ⟨u',hu,ru⟩:=jk.some_of (v:=w') (o:=f z) (by rw [<- hl];exact hr z);exact tail_any hm.typeIs slot_dict_getitem.lookup (wpAny_getItem_of (A3g X.prog X.w z t) hm hu ⟨w',H,I.tok _,ru,q⟩) hs
end L2
namespace HT
open PySem PySem.Spec PyProof.Rows
theorem pH {items:Array Value}{lo:Option Int} (ht:IsTup s.heap t items) (hs:s.heap.IsSliceOf sl vl vu .none) (pl:IsPart vl lo) (pu:IsPart vu hi)
  (hw:eO items.size 0 lo=0/\eO items.size items.size hi=items.size) (h:Q (.ref t) s):wpAny 0x14 A (getItem (.ref t) (.ref sl)) Q E s:=by
 obtain ⟨os,hos,hcs,hds⟩:=id hs;have hTs:s.TypeIs (.ref sl) "slice":=⟨os,hos,hcs⟩;unfold getItem
 try with_reducible refine A2Z ?_
 first | refine A0a (A0s ?_) | skip
 refine A0a (wpAny_sequenceKey ht.typeIs 0x6 ?_);refine A0a (A1z (name:=Str.ofString "__getitem__") ht.typeIs A1o
  (A1Y A1o ht.typeIs entry_tuple_getitem ?_ (args_tuple_getitem _ _)))
 show wpAny _ _ (Builtin.Tuple.tupleItemsOf (.ref t) >>= _) _ _ s
 refine A0a (tupleItemsOf_ ht ?_);refine A0a (wpAny_typeOf hTs ?_);rw [A0i 0x6];refine A0a (jX hs pl pu ?_);have hyes:0x15=true:=by
  rw [hw.1,hw.2];simp
 show wpAny _ _ (if 0x15=true then _ else _) _ _ s
 rw [A0i hyes];unfold Builtin.Tuple.tupleIsExact;refine A0a (A0a (wpAny_typeOf ht.typeIs (A0s ?_)));rw [A0i 0x6];exact A0a (A4u (A0s ⟨_,rfl,A0s h⟩))
end HT
namespace L2
open PySem PySem.Spec PyProof.Rows PySem.W
theorem Nj {lo:Option Int} (h:HT.eO xs.length 0 lo=0/\HT.eO xs.length xs.length hi=xs.length):ig xs lo hi=xs:=by
 unfold ig;rw [h.1,h.2];simp
inductive rSlW (K:W.Frag) (x:V) (lo hi:Option Int) (H:Hp) (Q:VK):Prop
 | mk (a:Addr) (xs:List V) (_:x=.ref a) (_:bZ K H a xs) (_:∀ p H',(bZ K H a (ig xs lo hi)/\p=a/\H'=H)\/(H p=none/\H'=upd H p (.tup (ig xs lo hi)))->Q (.ref p) H'):rSlW K x lo hi H Q
theorem xW:SlR X (rSlW X.K):=by
 intro pins s σ H x v vl vu lo hi sl Q I rx hs pl pu h;obtain ⟨a,xs,rfl,hx,q⟩:=h
 by_cases hw:HT.eO xs.length 0 lo=0/\HT.eO xs.length xs.length hi=xs.length
 ·cases rx;obtain ⟨its,r,ht,hz⟩:=I.tuple hx;have hlen:its.toArray.size=xs.length:=by rw [A0u];exact r.length.symm
  refine ⟨"tuple",_,A1o.lookup,ht.typeIs,?_⟩;exact HT.pH ht hs pl pu (by rw [hlen];exact hw) ⟨.ref a,H,I,rfl,q a H (.inl ⟨by rw [Nj hw];exact hx,rfl,rfl⟩)⟩
 ·exact Xm pins s σ H _ v vl vu lo hi sl Q I rx hs pl pu ⟨a,xs,rfl,hx,hw,fun p hp=>q p _ (.inr ⟨hp,rfl⟩)⟩
theorem oH {p:Addr}{zs:List V} (h:(bZ K H a zs/\p=a/\H'=H)\/(H p=none/\H'=upd H p (.tup zs))):bZ K H' p zs/\Same H H':=by
 rcases h with ⟨h,rfl,rfl⟩ | ⟨h,rfl⟩
 ·exact ⟨h,Same.refl _⟩
 ·refine ⟨bZ.of ao,fun b u q=>?_⟩;rw [aj (aq q h)];exact q
def SetT (P:Program) (w:World) (a:Addr) (S:Str->Bool) (n:Nat):HO:=.ext fun h=>h.SetOf (strKind P w) a S n
theorem xX {S:Str->Bool} (hs:h.SetOf (strKind P w) a S n):dW P w H h a (SetT P w a S n):=by
 refine ⟨hs,?_,fun h1 h2 p k=>?_⟩
 ·obtain ⟨o,es,ep,t,e,_⟩:=hs;exact ⟨o,e⟩
 ·obtain ⟨o,es,ep,t,e,r⟩:=p;exact ⟨o,es,ep,t,k _ e,r⟩
theorem Inv.Nk {S:Str->Bool} (I:Inv X pins σ H s) (e:H a=some (SetT X.prog X.w a S n)):s.heap.SetOf (strKind X.prog X.w) a S n:=(I.hok _ _ e).1
inductive rInT (P:Program) (w:World) (neg:Bool) (x y:V) (H:Hp) (Q:VK):Prop
 | mk (z:Str) (a:Addr) (S:Str->Bool) (n:Nat) (_:x=.str z) (_:y=.ref a) (_:H a=some (SetT P w a S n)) (_:Q (.bl (neg != S z)) H):rInT P w neg x y H Q
theorem JH:mq X (compareOp .NotIn) (rInT X.prog X.w true):=by
 intro pins s σ H x y v u Q I rx ry h;obtain ⟨z,a,S,n,rfl,rfl,e,q⟩:=h;obtain ⟨t,rfl⟩:=rx;cases ry;exact wpAny_notInSet_of (A3g X.prog X.w z t) rfl (I.Nk e) ⟨.bl _,H,I.tok _,rfl,by simpa using q⟩
inductive Hu (P:Program) (w:World) (ty:TE) (σ:L2.St) (Q:VK) (x:V) (H1:Hp):Prop
 | mk (a:Addr) (S:Str->Bool) (n:Nat) (_:x=.ref a) (_:H1 a=some (SetT P w a S n)) (_:ty σ H1 fun y H2=>∃ z,y=.str z/\H2 a=some (SetT P w a S n)/\n<=1000/\Q .non (upd H2 a (SetT P w a (fun k=>S k||decide (k=z)) (if S z=true then n else n+1)))):Hu P w ty σ Q x H1
def a0q (P:Program) (w:World) (td ty:TE):TE:=fun σ H Q=>td σ H fun x H1=>Hu P w ty σ Q x H1
theorem Tf {o:Expr} (ho:PE X o td) (he:PE X e ty) (m:M1 X o "add" apos e cpos):PE X (.Call (.Attribute o "add" apos) [e] [] cpos) (a0q X.prog X.w td ty):=by
 intro pins s σ H Q I h;refine A2Q m.base m.few m.line PySem.F.plainAttrs_set PySem.F.slot_set_add PySem.F.type_set_add (cN (ho pins s σ H _ I h) fun u s1 zq=>?_);obtain ⟨x,H1,I1,rx,a,S,n,ex,d,q1⟩:=zq;subst ex;obtain rfl:u=Value.ref a:=rx;refine ⟨(I1.Nk d).typeIs,(I1.Nk d).noDict,?_⟩;rw [m.trees];refine A1r rfl (A2a (A1P (cN (he pins s1 σ H1 _ I1 q1) fun iv s2 ⟨y,H2,I2,ry,z,ey,d2,hn,q2⟩=>A2s ?_)));subst ey;obtain ⟨t,rfl⟩:=ry;refine call_set_add (A3g X.prog X.w z t) rfl (I2.Nk d2) (A1s (A2V hn) 0x6) fun h' hsb hS'=>?_;have he':∃ q,h'.get? a=some q:=by obtain ⟨o,_,_,_,e,_⟩:=hS';exact ⟨o,e⟩
 exact ⟨.non,_,jr I2 (by rw [d2];exact True.intro) hsb he' (xX hS'),rfl,q2⟩
inductive Hv (P:Program) (w:World) (Q:VK) (p:Addr) (x:V) (H2:Hp):Prop
 | mk (z:Str) (_:x=.str z) (_:H2 p=some (SetT P w p (fun _=>false) 0)) (_:Q (.ref p) (upd H2 p (SetT P w p (fun k=>decide (k=z)) 1))):Hv P w Q p x H2
def a0r (P:Program) (w:World) (te:TE):TE:=fun σ H Q=>∀ p,H p=none->te σ (upd H p (SetT P w p (fun _=>false) 0)) fun x H2=>Hv P w Q p x H2
theorem Np (h:codeIn K cd q=true):kdsCode K cd=true:=by
 unfold codeIn at h;unfold kdsCode
 split at h
 ·split at h
  ·rename_i ho
   simp only [ho]
  ·cases h
 ·cases h
theorem Tg (hc:kdsCode X.K X.env.code=true) (he:PE X e te) (hp:kdsPlain e=true:=by rfl):PE X (.Set [e] 0 pos) (a0r X.prog X.w te):=by
 intro pins s σ H Q I h;rw [arm_eval_Set];refine A0a (A2Y ?_);refine A0a (kds_main I.nO hc fun b=>?_);rw [kds_star [e] (by rw [A2k,hp];rfl),A0Z];refine kds_core (ts:=(evalEach [e] X.env).map fun t=>do let v <- t;standAt pos;pure v) rfl ?_ ?_ ?_ fun led=>?_
 ·refine List.findIdx?_eq_none_iff.mpr fun x hx=>?_;obtain ⟨t,_,rfl⟩:=A0e.mp hx;rfl
 ·rw [cg,kds_len];exact A1d rfl
 ·rw [A0Z];try rfl
 ·refine kds_all pos [e] _ _ ?_;have hfr:=I.hok.fresh (A0h s.heap.objs.size);have hS0:(s.heap.push { cls:=.type "set",dict:=none,data:=.set #[] 0 (.fresh 0 0 led) }).SetOf (strKind X.prog X.w) s.heap.objs.size (fun _=>false) 0:=(setObjOf_fresh led).setOf (A0y _ rfl) 0x6;have I1:=I.laid (a:=s.heap.objs.size) (o:=SetT X.prog X.w s.heap.objs.size (fun _=>false) 0) (h':=s.heap.push { cls:=.type "set",dict:=none,data:=.set #[] 0 (.fresh 0 0 led) }) (t':=s.toks) (fun _ _ q=>A0c _ q) (A0h _) (xX hS0);refine A1p (he pins _ σ _ _ I1 (h _ hfr)) (fun v s2 ⟨x,H2,I2,rx,z,ex,d2,q2⟩=>?_) fun _ _ y=>y;subst ex;obtain ⟨t,rfl⟩:=rx;refine kds_fill_cons ?_;unfold setAdd;refine A0a ((strKind X.prog X.w).pyHash (A3g X.prog X.w z t) ?_);refine wpAny_setAddHashed_of (s:={ s2 with toks:=s2.toks+1 }) (A3g X.prog X.w z t) rfl (I2.Nk d2) 0x6 fun h' hsb hS'=>?_;refine kds_fill_nil rfl ?_;have he':∃ q,h'.get? s.heap.objs.size=some q:=by obtain ⟨o,_,_,_,e,_⟩:=hS';exact ⟨o,e⟩
  have hS2:h'.SetOf (strKind X.prog X.w) s.heap.objs.size (fun k=>decide (k=z)) 1:=by
   have e1:(fun k'=>(fun _:Str=>false) k'||decide (k'=z))=fun k=>decide (k=z):=by funext k;simp
   have:=hS';rw [e1] at this;exact this
  exact ⟨.ref _,_,jr (I2.tok _) (by rw [d2];exact True.intro) hsb he' (xX hS2),rfl,q2⟩
theorem fu.okC {x:Str}{k:Nat} (F:fu K x qual st f fd) (S:aP N ps (aH st)) (len:∀ vs H Q E,sp vs H Q E->vs.length=ps.length)
  (hbody:∀ (cdv:Value) (A:Around) (outer:List Env) (s:Shared) (H:Hp) (vs:List V) (Q:VK) (E:XK),codeIn K cdv qual=true->cH k (A.deeper (envOfC qual (aH st) s.heap.objs.size f cdv))->sp vs H Q E ->
   ∃ t,CV (Dp bO P w K mg base N qual (aH st) f cdv A outer s H E).Zz (iw st) t/\t { nx:=fun _ H'=>Q .non H',rt:=Q } (start N vs) H):aL P w K mg base bO (k+1) f fd ps sp:=by
 obtain ⟨oc,od,kV,doc,pm,an,cdv,ct,osl,rfl,lk,hcd⟩:=F.ex;refine VD lk hcd S len fun A outer s H vs Q E hr hsp=>?_;obtain ⟨t,h,q⟩:=hbody cdv A outer s H vs Q E hcd hr hsp;exact ⟨t,h.Zz,q⟩
theorem HJ:∀ {ss:List Str}{us:List Value},Vals (ss.map V.str) us->StrsAre us ss
 | [],_,r=>by rw [A3p] at r;cases r;exact .nil
 | x::ss,_,r=>by
  rw [A0m] at r;cases r with
  | cons r1 r2 =>
   obtain ⟨t,rfl⟩:=r1;exact .cons x t (HJ r2)
theorem pI:∀ {ss:List Str}{us:List Value},StrsAre us ss->Vals (ss.map V.str) us
 | _,_,.nil=>.nil
 | _,_,.cons y t r=>.cons ⟨t,rfl⟩ (pI r)
inductive Nq (K:W.Frag) (xs:List V) (H:Hp) (Q:VK):Prop
 | mk (p:Addr) (ss:List Str) (_:xs=[.ref p]) (_:bR K H p (ss.map V.str)) (_:ss.length<64) (_:∀ l ss',H l=none->ss'.Perm ss->sortedS ss'=true->Q (.ref l) (upd H l (.lst (ss'.map V.str)))):Nq K xs H Q
theorem iB:jj X (.builtin "sorted") (Nq X.K):=by
 intro pins s σ H xs us Q I r h;obtain ⟨p,ss,rfl,hq,hl,q⟩:=h;obtain ⟨u,rfl,ru⟩:=vals1 r;cases ru;obtain ⟨its,rv,pl,hz⟩:=I.list hq;have hlen:=rv.length;rw [cg] at hlen;refine sorted_strs pl.isList (HJ rv) 0x3 fun out ss' h1 h2 h3=>?_;obtain ⟨e,he⟩:=sortedAll_at s.heap its out;have hle:ss'.length<64:=by rw [h2.length_eq];exact hl
 have new:dW X.prog X.w (upd H 0x11 (.lst (ss'.map V.str))) (sortedAll s.heap its out) 0x11 (.lst (ss'.map V.str)) :=
  ⟨by rw [cg];exact A0M (A2J hle) 0x6,out.toList,e,pI h1,by rw [he]⟩
 exact ⟨.ref 0x11,_,I.laid (t':=s.toks) (fun b o q=>sortedAll_old q) (A2t _) new,rfl,q _ ss' (I.hok.fresh (A2t _)) h2 h3⟩
section
variable {o:Obj}
theorem Inv.freeze (I:Inv X pins σ H s) (e:H a=some 0x13):∃ o,Inv X pins σ (upd H a (.iQ o 0x13)) s/\∀ o u,X.H₀ a≠some (.iQ o u):=by
 obtain ⟨z,hd,vs,rel,dd⟩:=nZ I.hok e;obtain ⟨o,es,ep,ho,r⟩:=id dd;refine ⟨o,jr (t':=s.toks) I (by rw [e];exact True.intro) (Heap.SameBut.refl a s.heap) ⟨o,ho⟩ ⟨ho,z,hd,vs,rel,dd⟩,fun o' u q=>?_⟩;have:=I.base.sX a o' u q;rw [e] at this;cases this
theorem Inv.thaw (I:Inv X pins σ H s) (e:H a=some (.iQ o 0x13)) (n:∀ o u,X.H₀ a≠some (.iQ o u)):Inv X pins σ (upd H a 0x13) s:=by
 have nn:∀ {b},H b=none->b≠a:=fun q h=>by rw [h,e] at q;cases q
 have nt:∀ {b xs},H b=some 0x2E->b≠a:=fun q h=>by rw [h,e] at q;cases q
 have no:∀ {b y},H b=some (.own y)->b≠a:=fun q h=>by rw [h,e] at q;cases q
 refine ⟨I.ok,I.os,I.bare,⟨I.base.keep,I.base.slot,fun b ob q hb hx=>?_,I.base.there,fun b xs q=>?_,fun b ob u q=>?_,fun b ps q=>?_⟩,I.loc,I.cell,?_,fun x c q=>?_,fun p hp=>?_,fun b u q=>?_,I.len⟩
 ·have z:=I.base.free b ob q hb hx;rw [aj (nn z)];exact z
 ·have z:=I.base.tups b xs q;rw [aj (nt z)];exact z
 ·by_cases h:b=a
  ·subst h;exact absurd q (n ob u)
  ·rw [aj h];exact I.base.sX b ob u q
 ·obtain ⟨more,z⟩:=I.base.xg b ps q;exact ⟨more,by rw [aj (fun h=>by rw [h,e] at z;cases z)];exact z⟩
 ·rw [aj (nn I.free)];exact I.free
 ·rw [aj (nn (I.jU x c q))];exact I.jU x c q
 ·obtain ⟨q1,q2,q3⟩:=I.pin p hp;exact ⟨q1,by rw [aj (nn q2)];exact q2,q3⟩
 ·by_cases h:b=a
  ·subst h;rw [ao] at q;cases q;obtain ⟨_,z⟩:=I.hok _ _ e;exact z.stay (fun _ _ _ q=>q) (fun c q=>by rw [aj (no q)];exact q) fun c xs q=>by rw [aj (nt q)];exact q
  ·rw [aj h] at q;exact (I.hok b u q).stay (fun _ _ _ q=>q) (fun c q=>by rw [aj (no q)];exact q) fun c xs q=>by rw [aj (nt q)];exact q
inductive Y4 (t:TE) (σ:L2.St) (H:Hp) (Q:VK):Prop
 | mk (a:Addr) (kvs:List (Prod L2.Key V)) (_:H a=some 0x13) (_:∀ o,t σ (upd H a (.iQ o 0x13)) fun v H'=>H' a=some (.iQ o 0x13)/\Q v (upd H' a 0x13)):Y4 t σ H Q
theorem xY {t:TE} (he:PE X e t):PE X e (Y4 t):=by
 intro pins s σ H Q I ⟨a,kvs,ea,h⟩;obtain ⟨o,I1,n⟩:=I.freeze ea;exact A1p (he pins s σ _ _ I1 (h o)) (fun v s' ⟨x,H',I',r,e',q⟩=>⟨x,_,I'.thaw e' n,r,q⟩) fun _ _ y=>y
def Itd (a:Addr) (o:Obj) (kvs:List 0x30):It:=⟨fun i H=>H a=some (.iQ o 0x13)/\i<kvs.length,fun i H v H'=>H'=H/\∃ kv,kvs[i]?=some kv/\v=kV kv.1,fun i H=>H a=some (.iQ o 0x13)/\kvs.length<=i⟩
theorem Nr {k:Key} (h:(bY P w).is k u=true):RelV (kV k) u:=by
 rcases dJ (show sW k u=true from h) with ⟨i,t,rfl,rfl⟩ | ⟨x,t,rfl,rfl⟩
 ·exact ⟨t,rfl⟩
 ·exact ⟨t,rfl⟩
theorem KV.at {κ:Type}:∀ {kvs:List (κ×V)}{vs:List (κ×Value)},KV kvs vs->∀ {i:Nat}{kv:κ×V},kvs[i]?=some kv->∃ u,vs[i]?=some (kv.1,u)/\RelV kv.2 u:=by
 intro kvs vs r;unfold KV at r
 induction r with
 | nil=>intro i kv h;simp at h
 | @cons p q ps qs h t ih =>
  intro i kv hi;cases i with
  | zero =>
   simp only [List.getElem?_cons_zero,Option.some.injEq] at hi;subst hi;obtain ⟨q1,q2⟩:=q;obtain ⟨h1,h2⟩:=h;simp only at h1;subst h1;exact ⟨q2,rfl,h2⟩
  | succ j =>
   simp only [List.getElem?_cons_succ] at hi ⊢;exact ih hi
theorem xZ (I:Inv X pins σ H s) (e:H a=some (.iQ o 0x13)) {es:Array DictEntry} (hd:o.data=.dict es ep):(a==sysModules)=false/\∃ vs,KV kvs vs/\s.heap.DictAt (bY X.prog X.w) a vs ep:=by
 obtain ⟨ho,z,hs,vs,rel,o',es',ep',ho',r⟩:=I.hok _ _ e;rw [ho] at ho';cases ho';obtain ⟨r1,r2,r3⟩:=r;rw [hd] at r2;injection r2 with q1 q2;subst q1 q2;exact ⟨hs,vs,rel,o,es,ho,r1,hd,r3⟩
theorem JK (it:Addr) {es:Array DictEntry} (hd:o.data=.dict es ep) :
  Turn P w K tg (Itd a o kvs) [it] it (fun i h=>h.IsKeyIter it a i kvs.length ep) where
 mem:=by simp
 obj:=fun i h st b hb=>by
  have e:b=it:=by simpa using hb
  subst e;obtain ⟨ob,e,c,d⟩:=st;exact ⟨ob,e,fun v z=>by rw [d] at z;cases z⟩
 keep:=fun i h h' st k=>by
  obtain ⟨ob,e,r⟩:=st;exact ⟨ob,k it 0xA ob e,r⟩
 item:=by
  intro X hP hw hK hc i pins s σ H E I hf st hg;subst hP hw hK;obtain ⟨f0,f1,f2,f3,f4,f5⟩:=hf it 0xA;obtain ⟨hg1,hg2⟩:=hg;obtain ⟨hs,vs,rel,dat⟩:=xZ I hg1 hd;have hl:kvs.length=vs.length:=rel.length;obtain ⟨u,hu,ru⟩:=rel.at (jR hg2);rw [hl] at st;refine wpAny_pyNext_dict_item st dat hu fun key h' hkey hit' hsb=>?_;have I1:Inv X pins σ H { s with heap:=h' }:=I.turned (t':=s.toks) (fun b ob hb e=>hsb.extBut b ob hb e) f0 f1 f3 f4 f5;obtain ⟨ob,e,cc,d⟩:=id hit';refine ⟨_,rfl,Lr (s:={ s with heap:=h' }) e cc d 0x6 ⟨kV (kvs[i]).1,H,I1,Nr hkey,⟨rfl,_,jR hg2,rfl⟩,?_,fun b hb=>(hf b hb).1⟩⟩;rw [hl];exact hit'
 done:=by
  intro X hP hw hK hc i pins s σ H E I hf st hg;subst hP hw hK;obtain ⟨f0,f1,f2,f3,f4,f5⟩:=hf it 0xA;obtain ⟨hg1,hg2⟩:=hg;obtain ⟨hs,vs,rel,dat⟩:=xZ I hg1 hd;have hl:kvs.length=vs.length:=rel.length;rw [hl] at st hg2;exact wpAny_pyNext_dict_end (I.ok.hd hc) st dat (List.getElem?_eq_none hg2) fun h' eb=>⟨rfl,I.turned (t':=s.toks) (fun b ob hb e=>eb b ob hb e) f0 f1 f3 f4 f5⟩
 self:=fun A i s Q E st h=>wpAny_pyIter_keyiter st h
inductive HS (R:It->Hp->Prop) (x:V) (H1:Hp):Prop
 | mk (a:Addr) (o:Obj) (kvs:List 0x22) (_:x=.ref a) (_:H1 a=some (.iQ o 0x13)) (_:R (Itd a o kvs) H1):HS R x H1
def W7 (tl:TE):TI:=fun σ H R=>tl σ H fun x H1=>HS R x H1
theorem HX {l:Expr} (hl:PE X l tl):PI X tg l (W7 tl):=by
 intro pins s σ H R I h;refine cN (hl pins s σ H _ I h) fun v s1 zq=>?_;obtain ⟨x,H1,I1,r1,a,o,kvs,ex,ea,q⟩:=zq;subst ex;cases r1;obtain ⟨ho,z,hs,vs,rel,o',es,ep,ho',hx,hdd,r⟩:=id (I1.hok _ _ ea);rw [ho] at ho';cases ho';have dat:s1.heap.DictAt (bY X.prog X.w) a vs ep:=⟨o,es,ho,hx,hdd,r⟩;have hlen:kvs.length=vs.length:=rel.length;refine wpAny_pyIter_dict hs dat ?_;refine ⟨s1.heap.objs.size,[s1.heap.objs.size],_,_,H1,rfl,I1.kept (t':=s1.toks) fun b o e=>A0c _ e,JK _ hdd,⟨_,A0y _ rfl,rfl,by rw [hlen];rfl⟩,fun b hb=>?_,q⟩;have e:b=s1.heap.objs.size:=by simpa using hb
 subst e;exact I1.xG (A0h _) (I1.hok.fresh (A0h _))
theorem JM {o:Obj}{k:Nat}{Q:VK} (Pv:Nat->List V->Hp->Prop) (hl:∀ i ys H,Pv i ys H->H a=some (.iQ o 0x13)) (h0:Pv 0 [] (upd H1 D (.lst []))) (hD:∀ i ys H,Pv i ys H->H D=some (.lst ys))
  (hs:∀ i ys H kv,kvs[i]?=some kv->Pv i ys H->Ah D σ k ix g tt te (kV kv.1) ys H (Pv (i+1))) (hd:∀ ys H,Pv kvs.length ys H->Q (.ref D) H):oE (Itd a o kvs) D σ k ix g tt te Q H1 :=
 xR (n:=kvs.length) (item:=fun i=>match kvs[i]? with | some kv=>kV kv.1 | none=>.non) Pv (fun i ys H p=>⟨fun h=>⟨⟨hl i ys H p,h⟩,fun v H' y=>by
  obtain ⟨e,kv,hc,rfl⟩:=y;exact ⟨e,by rw [hc]⟩⟩,fun h=>⟨hl i ys H p,h⟩⟩) h0 hD (fun i ys H h p=>by
   have e:kvs[i]?=some kvs[i]:=jR h;simp only [e];exact hs i ys H _ e p) hd
end
end L2
namespace PySem
theorem jZ:entryFor table "dict_itemiterator.__iter__"=some Builtin.«dict_keyiterator.__iter__» :=
 entryFor_alias (id':="dict_keyiterator.__iter__") (by kernel_rfl) rfl 0x1A (by kernel_rfl)
end PySem
namespace L2
open PySem PySem.Spec PyProof.Rows PySem.W
def W8 (a:Addr) (o:Obj) (kvs:List 0x30):It:=⟨fun i H=>H a=some (.iQ o 0x13)/\i<kvs.length,fun i H v H'=>∃ p kv,kvs[i]?=some kv/\v=.ref p/\H p=none/\H'=upd H p (.tup [kV kv.1,kv.2]),fun i H=>H a=some (.iQ o 0x13)/\kvs.length<=i⟩
section
variable {o:Obj}
theorem DQ (it:Addr) {es:Array DictEntry} (hd:o.data=.dict es ep) :
  Turn P w K (.Tuple elts x1 tp) (W8 a o kvs) [it] it (fun i h=>∃ ok ov,IsItemIter h it a i kvs.length ep ok ov) where
 mem:=by simp
 obj:=fun i h ⟨ok,ov,st⟩ b hb=>by
  have e:b=it:=by simpa using hb
  subst e;exact ⟨_,st,fun v z=>by cases z⟩
 keep:=fun i h h' ⟨ok,ov,st⟩ k=>⟨ok,ov,k it 0xA _ st⟩
 item:=by
  intro X hP hw hK hc i pins s σ H E I hf ⟨ok,ov,st⟩ hg;subst hP hw hK;obtain ⟨hg1,hg2⟩:=hg;obtain ⟨hs,vs,rel,dat⟩:=xZ I hg1 hd;have hl:kvs.length=vs.length:=rel.length;obtain ⟨u,hu,ru⟩:=rel.at (jR hg2);rw [hl] at st;refine wpAny_pyNext_items_item st dat hu fun key h' hkey ho hT hsz hk=>⟨_,rfl,wpAny_letOwnedTupleGo_items ho fun h2 he2 sb=>?_⟩;have hilt:it<s.heap.objs.size:=A0I st;have hT2:=sb.extBut _ _ (A3P hilt) hT;have kk:∀ b ob,b∉[it]->s.heap.get? b=some ob->h2.get? b=some ob:=fun b ob hb q=>by
   have hb':b≠it:=by simpa using hb
   exact sb.extBut _ _ hb' (hk b ob hb' q)
  refine ⟨.ref s.heap.objs.size,upd H s.heap.objs.size (.tup [kV (kvs[i]).1,(kvs[i]).2]),I.Hf (t':=s.toks) hf kk (A0h _) ⟨vP 0xA |> A2J,[key,u],.cons (Nr hkey) (.cons ru .nil),⟨_,hT2,rfl,_,rfl⟩⟩,rfl,⟨_,kvs[i],jR hg2,rfl,I.fresh,rfl⟩,?_,fun b hb=>?_⟩
  ·rw [hl];exact ⟨_,_,he2⟩
  ·have e:b=it:=by simpa using hb
   subst e;rw [aj (A0S hilt)];exact (hf _ 0xA).1
 done:=by
  intro X hP hw hK hc i pins s σ H E I hf ⟨ok,ov,st⟩ hg;subst hP hw hK;obtain ⟨f0,f1,f2,f3,f4,f5⟩:=hf it 0xA;obtain ⟨hg1,hg2⟩:=hg;obtain ⟨hs,vs,rel,dat⟩:=xZ I hg1 hd;have hl:kvs.length=vs.length:=rel.length;rw [hl] at st hg2;exact wpAny_pyNext_items_end (I.ok.hd hc) st dat (List.getElem?_eq_none hg2) fun h' eb=>⟨rfl,I.turned (t':=s.toks) (fun b ob hb e=>eb b ob hb e) f0 f1 f3 f4 f5⟩
 self:=fun A i s Q E ⟨ok,ov,st⟩ h=>by
  have hT:s.TypeIs (.ref it) "dict_itemiterator":=⟨_,st,rfl⟩;refine wpAny_pyIter_slot hT A3a (A1Y A3a hT PySem.jZ ?_ (PySem.F.args_dict_itemiterator_iter_1 _))
  show wpAny _ _ (ret (.ref it)) _ _ s
  exact A0s ⟨_,rfl, "dict_itemiterator",_,hT,PySem.F.slot_dict_itemiterator_next.lookup,h⟩
inductive Bg (R:It->Hp->Prop) (x:V) (H1:Hp):Prop
 | mk (a:Addr) (o:Obj) (kvs:List 0x22) (_:x=.ref a) (_:H1 a=some (.iQ o 0x13)) (_:R (W8 a o kvs) H1):Bg R x H1
def Y5 (tl:TE):TI:=fun σ H R=>tl σ H fun x H1=>Bg R x H1
theorem uf {l:Expr} (hl:PE X l tl) (hbase:attributeBase l "items" X.env (eval l X.env)=eval l X.env:=by rfl) (hline:(apos.endLine==cpos.line)=true:=by rfl) :
  PI X (.Tuple elts x1 tp) (.Call (.Attribute l "items" apos) [] [] cpos) (Y5 tl):=by
 intro pins s σ H R I h;refine wpAny_Call_method0_late hbase hline (cN (hl pins s σ H _ I h) fun v s1 zq=>?_);obtain ⟨x,H1,I1,r1,a,o,kvs,ex,ea,q⟩:=zq;subst ex;cases r1;obtain ⟨ho,z,hs,vs,rel,o',es,ep,ho',hx,hdd,r⟩:=id (I1.hok _ _ ea);rw [ho] at ho';cases ho';have dat:s1.heap.DictAt (bY X.prog X.w) a vs ep:=⟨o,es,ho,hx,hdd,r⟩;have hT:s1.TypeIs (.ref a) "dict":=dat.dictOf.typeIs;refine ⟨"dict", "dict.items",A2e,PySem.F.slot_dict_items,PySem.F.type_dict_items,hT,(fun b e=>by injection e with e;subst e;exact ⟨o,ho,hx.2.1⟩),?_⟩;refine A1r rfl (PySem.evalArgs_none ?_);refine A2L PySem.F.slot_dict_items hT PySem.F.entry_dict_items (PySem.F.args_dict_items_1 _) (meets_dict_items (bY X.prog X.w) a hs) ⟨⟨vs,dat.dictOf⟩,?_⟩;have hlen:kvs.length=vs.length:=rel.length;have hne:a≠s1.heap.objs.size:=A0S dat.lt_size;have I2:Inv X pins σ H1 { s1 with heap:=s1.heap.push { cls:=.type "dict_items",data:=.fields #[.ref a] } }:=I1.kept (t':=s1.toks) fun b o e=>A0c _ e;have dat2:(s1.heap.push { cls:=.type "dict_items",data:=.fields #[.ref a] }).DictAt (bY X.prog X.w) a vs ep:=dat.at' fun o e=>A0c _ e
 show wpAny _ _ (pyIter (.ref s1.heap.objs.size)) _ _ _
 refine wpAny_pyIter_items (s:={ s1 with heap:=s1.heap.push { cls:=.type "dict_items",data:=.fields #[.ref a] } }) ⟨_,A0y _ rfl,rfl,rfl⟩ dat2 ?_;refine ⟨_,[_],_,_,H1,rfl,I2.kept (t':=s1.toks) fun b o e=>A0c _ e,DQ _ hdd,⟨_,_,by rw [hlen];exact A0y _ rfl⟩,fun b hb=>?_,q⟩;have e:=A0b.mp hb;subst e;exact I2.xG (A0h _) (I2.hok.fresh (A0h _))
theorem qZ (h:H a=some (.iQ o 0x13)):(i<kvs.length->(W8 a o kvs).go i H/\∀ v H',(W8 a o kvs).Jr i H v H'->∃ p,v=.ref p/\H p=none/\H'=upd H p (.tup [(kvs.map fun kv=>kV kv.1).getD i .non,(kvs.map fun kv=>kv.2).getD i .non]))/\(kvs.length<=i->(W8 a o kvs).stop i H):=by
 refine ⟨fun hi=>⟨⟨h,hi⟩,fun v H' ⟨p,kv,e1,e2,e3,e4⟩=>⟨p,e2,e3,?_⟩⟩,fun hi=>⟨h,hi⟩⟩;rw [e4,qQ,qQ,jQ,jQ,e1];rfl
end
end L2
namespace M
open PySem L2
def top (i:Nat):Stmt:=PySem.Challenge.pw_manrent_k16_lieges_judged.main.body.getD i (.Pass ⟨0,0,0,0⟩)
abbrev Nt:Stmt:=inClass (top 22) 0
abbrev DW:Stmt:=inClass (top 22) 1
abbrev yc:Stmt:=inClass (top 22) 3
abbrev Nu:Stmt:=inClass (top 22) 4
abbrev Y6:Stmt:=inClass (top 22) 5
abbrev Ia:Stmt:=inClass (top 22) 9
abbrev yd:Stmt:=inClass (top 22) 10
abbrev DX:Stmt:=inClass (top 22) 12
abbrev yg:Stmt:=inClass (top 22) 14
abbrev Nv:Stmt:=inClass (top 22) 15
abbrev DY:Stmt:=inClass (top 22) 16
abbrev Nx:Stmt:=inClass (top 22) 17
abbrev Ea:Stmt:=inClass (top 22) 18
abbrev Y7:Stmt:=inClass (top 22) 19
theorem aO {p:Addr} (h:H p=none) (o:HO):Same H (upd H p o):=fun b u q=>by rw [aj (aq q h)];exact q
theorem bU {l:Addr} (s:Same H H2) (h:H l=none):Same H (upd H2 l o):=fun b u q=>by rw [aj (aq q h)];exact s b u q
theorem small (h:n<=1000000):n<=sizeLine:=A0M h 0x6
theorem bQ (h:n<1000000):n<sizeLine:=A0x h 0x6
theorem u1 {k:Nat} (r:cH k A):A.units+1<cLine:=by have:=r.un;lia
structure gq (K:PySem.W.Frag) (C:Addr):Prop where
 cl:Cls K C
 n1:dN K C "lord_of"
 n2:dN K C "holder_of"
 n3:dN K C "own_of"
 n4:dN K C "service_of"
 n5:dN K C "breadth_of"
abbrev F5 (a1 a2 a3 a4 a5:Addr):List (Str×V):=[("lord_of",.ref a1),("holder_of",.ref a2),("own_of",.ref a3),("service_of",.ref a4),("breadth_of",.ref a5)]
structure cP (C:Addr) (H:Hp) (x dx a1 a2 a3 a4 a5:Addr) (lo ho ow se br:List 0x30):Prop where
 o:H x=some (.ins C dx (F5 a1 a2 a3 a4 a5))
 l1:H a1=some (.dK lo)
 l2:H a2=some (.dK ho)
 l3:H a3=some (.dK ow)
 l4:H a4=some (.dK se)
 l5:H a5=some (.dK br)
theorem cP.same {x a1 a2 a3 a4 a5:Addr}{se br:List 0x30} (k:cP C H x dx a1 a2 a3 a4 a5 lo ho ow se br) (s:Same H H'):cP C H' x dx a1 a2 a3 a4 a5 lo ho ow se br:=⟨s _ _ k.o,s _ _ k.l1,s _ _ k.l2,s _ _ k.l3,s _ _ k.l4,s _ _ k.l5⟩
structure Ti (a1 a2 a3 a4 a5:Addr):Prop where
 n12:a1≠a2
 n13:a1≠a3
 n14:a1≠a4
 n15:a1≠a5
 n23:a2≠a3
 n24:a2≠a4
 n25:a2≠a5
 n34:a3≠a4
 n35:a3≠a5
 n45:a4≠a5
theorem iM {e:Str} (h:H a=some 0x13) (hv:bI kvs (.inr e)=some v):dj H a (V.str e) (some v):=by
 have:=dj.k (k:=.inr e) h;rw [hv] at this;exact this
inductive rP (C:Addr) (vs:List V) (H:Hp) (Q:VK) (cB:XK):Prop
 | mk (x dx a1 a2 a3 a4 a5:Addr) (lo ho ow se br:List 0x22) (e:Str) (_:vs=[.ref x,.str e]) (_:cP C H x dx a1 a2 a3 a4 a5 lo ho ow se br) (_:Q (.bl (bI lo (.inr e)).isSome) H):rP C vs H Q cB
inductive kE (C:Addr) (vs:List V) (H:Hp) (Q:VK) (cB:XK):Prop
 | mk (x dx a1 a2 a3 a4 a5:Addr) (lo ho ow se br:List 0x22) (e:Str) (_:vs=[.ref x,.str e]) (_:cP C H x dx a1 a2 a3 a4 a5 lo ho ow se br) (_:(bI lo (.inr e)).isSome=true) (_:Q .non H):kE C vs H Q cB
inductive ug (C:Addr) (vs:List V) (H:Hp) (Q:VK) (cB:XK):Prop
 | mk (x dx a1 a2 a3 a4 a5:Addr) (lo ho ow se br:List 0x22) (e:Str) (v:V) (_:vs=[.ref x,.str e]) (_:cP C H x dx a1 a2 a3 a4 a5 lo ho ow se br) (_:(bI lo (.inr e)).isSome=true) (_:bI ho (.inr e)=some v) (_:Q v H):ug C vs H Q cB
inductive Eb (C:Addr) (vs:List V) (H:Hp) (Q:VK) (cB:XK):Prop
 | mk (x dx a1 a2 a3 a4 a5:Addr) (lo ho ow se br:List 0x22) (e:Str) (v:V) (_:vs=[.ref x,.str e]) (_:cP C H x dx a1 a2 a3 a4 a5 lo ho ow se br) (_:(bI lo (.inr e)).isSome=true) (_:bI lo (.inr e)=some v) (_:Q v H):Eb C vs H Q cB
inductive Ny (C:Addr) (vs:List V) (H:Hp) (Q:VK) (cB:XK):Prop
 | mk (x dx a1 a2 a3 a4 a5:Addr) (lo ho ow se br:List 0x22) (e:Str) (v:V) (_:vs=[.ref x,.str e]) (_:cP C H x dx a1 a2 a3 a4 a5 lo ho ow se br) (_:(bI lo (.inr e)).isSome=true) (_:bI ow (.inr e)=some v) (_:Q v H):Ny C vs H Q cB
inductive pJ (C:Addr) (vs:List V) (H:Hp) (Q:VK) (cB:XK):Prop
 | mk (x dx a1 a2 a3 a4 a5:Addr) (lo ho ow se br:List 0x22) (e man:Str) (_:vs=[.ref x,.str e,.str man]) (_:cP C H x dx a1 a2 a3 a4 a5 lo ho ow se br) (_:ho.length<=900) (_:Q .non (upd H a2 (.dK (putK ho (.inr e) (.str man))))):pJ C vs H Q cB
def JN (H:Hp) (a1 a2 a3 a4 a5:Addr) (lo ho ow se br:List 0x30) (n:Str) (lord holder:Str) (acres:Int) (t:Addr):Hp :=
 upd (upd (upd (upd (upd H a1 (.dK (putK lo 0x2C (.str lord)))) a2 (.dK (putK ho 0x2C (.str holder)))) a3 (.dK (putK ow 0x2C (.int acres)))) a4 (.dK (putK se 0x2C (.ref t)))) a5 (.dK (putK br 0x2C (.int acres)))
inductive NK (C:Addr) (vs:List V) (H:Hp) (Q:VK) (cB:XK):Prop
 | mk (x dx a1 a2 a3 a4 a5:Addr) (lo ho ow se br:List 0x22) (n lord holder:Str) (acres:Int) (t:Addr) (_:vs=[.ref x,.str n,.str lord,.str holder,.int acres,.ref t]) (_:cP C H x dx a1 a2 a3 a4 a5 lo ho ow se br) (_:Ti a1 a2 a3 a4 a5) (_:lo.length<=900) (_:ho.length<=900) (_:ow.length<=900) (_:se.length<=900) (_:br.length<=900) (_:Q .non (JN H a1 a2 a3 a4 a5 lo ho ow se br n lord holder acres t)):NK C vs H Q cB
section
theorem Tj:aP A4M A4M (aH DW):=0x0
theorem NP (T:gq K C) (F:fu K "there" "Land.there" DW f fd):aL P w K mg base bO 1 f fd A4M (rP C):=by
 refine F.ok Tj 0x1 0x2;obtain ⟨x,dx,a1,a2,a3,a4,a5,lo,ho,ow,se,br,e,rfl,L,k⟩:=h;refine ⟨_,aG (aV (xr (tZ (u1 hr) 0x10 0xC) 0xE)),?_⟩;exact ⟨_,rfl,_,rfl,x,C,dx,_,_,rfl,L.o,T.cl,T.n1,rfl,a1,_,rfl,dj.k (k:=.inr e) L.l1,k⟩
theorem NQ:aP A4M A4M (aH Ea):=0x0
theorem JQ (T:gq K C) (F:fu K "check_there" "Land.check_there" Ea f fd)  (G1:aL P w K mg base bO 1 g1 d1 A4M (rP C)) (m1:Meth K C "there" g1) (b1:Binds K d1 A4M []):aL P w K mg base bO 2 f fd A4M (kE C):=by
 refine F.ok NQ 0x1 0x2;obtain ⟨x,dx,a1,a2,a3,a4,a5,lo,ho,ow,se,br,e,rfl,L,he,k⟩:=h;refine ⟨_,aG (bK (iT (dZ 0x39)) dM aR),?_⟩;refine ⟨_,rfl,x,dx,_,rfl,L.o,rfl,_,rfl,x,dx,a1,a2,a3,a4,a5,lo,ho,ow,se,br,e,rfl,L,_,rfl,?_⟩;rw [he];exact cA k
theorem NT:aP A4M A4M (aH yc):=0x0
theorem JR (T:gq K C) (F:fu K "holder" "Land.holder" yc f fd)  (G1:aL P w K mg base bO 2 g1 d1 A4M (kE C)) (m1:Meth K C "check_there" g1) (b1:Binds K d1 A4M []):aL P w K mg base bO 3 f fd A4M (ug C):=by
 refine F.ok NT 0x1 0x2;obtain ⟨x,dx,a1,a2,a3,a4,a5,lo,ho,ow,se,br,e,v,rfl,L,he,hv,k⟩:=h;refine ⟨_,au (bV 0x39) (aG (aV (bH (u1 hr) 0xC 0x10 0x4))),?_⟩;refine ⟨_,rfl,x,dx,_,rfl,L.o,rfl,_,rfl,x,dx,a1,a2,a3,a4,a5,lo,ho,ow,se,br,e,rfl,L,he,?_⟩;exact ⟨_,rfl,x,C,dx,_,_,rfl,L.o,T.cl,T.n2,rfl,_,rfl,_,v,rfl,iM L.l2 hv,k⟩
theorem Y8:aP A4M A4M (aH Nu):=0x0
theorem Tn (T:gq K C) (F:fu K "lord" "Land.lord" Nu f fd)  (G1:aL P w K mg base bO 2 g1 d1 A4M (kE C)) (m1:Meth K C "check_there" g1) (b1:Binds K d1 A4M []):aL P w K mg base bO 3 f fd A4M (Eb C):=by
 refine F.ok Y8 0x1 0x2;obtain ⟨x,dx,a1,a2,a3,a4,a5,lo,ho,ow,se,br,e,v,rfl,L,he,hv,k⟩:=h;refine ⟨_,au (bV 0x39) (aG (aV (bH (u1 hr) 0xC 0x10 0x4))),?_⟩;refine ⟨_,rfl,x,dx,_,rfl,L.o,rfl,_,rfl,x,dx,a1,a2,a3,a4,a5,lo,ho,ow,se,br,e,rfl,L,he,?_⟩;exact ⟨_,rfl,x,C,dx,_,_,rfl,L.o,T.cl,T.n1,rfl,_,rfl,_,v,rfl,iM L.l1 hv,k⟩
theorem a0s:aP A4M A4M (aH Y6):=0x0
theorem Y9 (T:gq K C) (F:fu K "own" "Land.own" Y6 f fd)  (G1:aL P w K mg base bO 2 g1 d1 A4M (kE C)) (m1:Meth K C "check_there" g1) (b1:Binds K d1 A4M []):aL P w K mg base bO 3 f fd A4M (Ny C):=by
 refine F.ok a0s 0x1 0x2;obtain ⟨x,dx,a1,a2,a3,a4,a5,lo,ho,ow,se,br,e,v,rfl,L,he,hv,k⟩:=h;refine ⟨_,au (bV 0x39) (aG (aV (bH (u1 hr) 0xC 0x10 0x4))),?_⟩;refine ⟨_,rfl,x,dx,_,rfl,L.o,rfl,_,rfl,x,dx,a1,a2,a3,a4,a5,lo,ho,ow,se,br,e,rfl,L,he,?_⟩;exact ⟨_,rfl,x,C,dx,_,_,rfl,L.o,T.cl,T.n3,rfl,_,rfl,_,v,rfl,iM L.l3 hv,k⟩
theorem NZ:aP ["self", "estate", "man"] ["self", "estate", "man"] (aH yg):=0x0
theorem JT (T:gq K C) (F:fu K "convey" "Land.convey" yg f fd):aL P w K mg base bO 1 f fd ["self", "estate", "man"] (pJ C):=by
 refine F.ok NZ 0x1 0x2;obtain ⟨x,dx,a1,a2,a3,a4,a5,lo,ho,ow,se,br,e,man,rfl,L,hl,k⟩:=h;refine ⟨_,aG (dw (u1 hr) 0xC 0x10 (pv 2) rfl),?_⟩;exact ⟨_,rfl,_,rfl,x,C,dx,_,_,rfl,L.o,T.cl,T.n2,rfl,_,rfl,a2,_,rfl,iK.k (k:=.inr e) L.l2 (bQ 0x3),k⟩
theorem a0t:aP A4X A4X (aH Y7):=0x0
theorem Yb (T:gq K C) (F:fu K "add_estate" "Land.add_estate" Y7 f fd):aL P w K mg base bO 1 f fd A4X (NK C):=by
 refine F.ok a0t 0x1 0x2;obtain ⟨x,dx,a1,a2,a3,a4,a5,lo,ho,ow,se,br,n,lord,holder,acres,t,rfl,L,ap,e1,e2,e3,e4,e5,k⟩:=h;refine ⟨_,au (dw (u1 hr) 0xC 0x10 (pv 2) rfl) (au (dw (u1 hr) 0xC 0x10 (pv 3) rfl) (au (dw (u1 hr) 0xC 0x10 (pv 4) rfl)
  (au (dw (u1 hr) 0xC 0x10 (pv 5) rfl) (aG (dw (u1 hr) 0xC 0x10 (pv 4) rfl))))),?_⟩
 have x1:=aM L.o L.l1 0x16;have x2:=aM L.o L.l2 0x16;have x3:=aM L.o L.l3 0x16;have x4:=aM L.o L.l4 0x16;refine ⟨_,rfl,_,rfl,x,C,dx,_,_,rfl,L.o,T.cl,T.n1,rfl,_,rfl,a1,_,rfl,iK.k (k:=.inr n) L.l1 (bQ 0x3),?_⟩;refine ⟨_,rfl,_,rfl,x,C,dx,_,_,rfl,by rw [aj x1];exact L.o,T.cl,T.n2,rfl,_,rfl,a2,_,rfl,iK.k (k:=.inr n) (by rw [aj (A0k ap.n12)];exact L.l2) (bQ 0x3),?_⟩;refine ⟨_,rfl,_,rfl,x,C,dx,_,_,rfl,by rw [aj x2,aj x1];exact L.o,T.cl,T.n3,rfl,_,rfl,a3,_,rfl,iK.k (k:=.inr n) (by rw [aj (A0k ap.n23),aj (A0k ap.n13)];exact L.l3) (bQ 0x3),?_⟩;refine ⟨_,rfl,_,rfl,x,C,dx,_,_,rfl,by rw [aj x3,aj x2,aj x1];exact L.o,T.cl,T.n4,rfl,_,rfl,a4,_,rfl,iK.k (k:=.inr n) (by rw [aj (A0k ap.n34),aj (A0k ap.n24),aj (A0k ap.n14)];exact L.l4) (bQ 0x3),?_⟩;exact ⟨_,rfl,_,rfl,x,C,dx,_,_,rfl,by rw [aj x4,aj x3,aj x2,aj x1];exact L.o,T.cl,T.n5,rfl,_,rfl,a5,_,rfl,iK.k (k:=.inr n) (by rw [aj (A0k ap.n45),aj (A0k ap.n35),aj (A0k ap.n25),aj (A0k ap.n15)];exact L.l5) (bQ 0x3),k⟩
open PyProof.Rows
def lF (kv:Key×V):Str:=match kv.1 with
 | .inr s=>s
 | .inl _=>""
def TK (kvs:List 0x30):Prop:=∀ kv∈kvs,kV kv.1=V.str (lF kv)
def TV (kvs:List 0x30):Prop:=∀ kv∈kvs,kv.2=.non\/∃ s,kv.2=.str s
theorem nH {p:Key×V->Bool}{kv:Key×V} (h:kvs[i]?=some kv):((kvs.take (i+1)).filter p).map (fun kv=>V.str (lF kv))=((kvs.take i).filter p).map (fun kv=>V.str (lF kv))++(if p kv=true then [V.str (lF kv)] else []):=by
 rw [A1a,h,A1i,iZ]
 congr 1
 cases e:p kv <;> simp [e]
theorem Bh {p:Key×V->Bool} (h:kvs.length<=n):(((kvs.take i).filter p).map (fun kv=>V.str (lF kv))).length<=n:=by
 rw [cg];have:=A0J p (kvs.take i);rw [A0G] at this;lia
theorem strs_map (l:List 0x30):l.map (fun kv=>V.str (lF kv))=(l.map lF).map V.str:=by rw [A0Z];rfl
theorem iu {x y:Str}:decide (V.str x=V.str y)=decide (x=y):=A3t.mpr ⟨fun e=>by injection e,fun e=>by rw [e]⟩
inductive yh (C:Addr) (vs:List V) (H:Hp) (Q:VK) (cB:XK):Prop
 | mk (x dx a1 a2 a3 a4 a5:Addr) (lo ho ow se br:List (Prod L2.Key V)) (man:Str) (_:vs=[.ref x,.str man]) (_:cP C H x dx a1 a2 a3 a4 a5 lo ho ow se br) (_:TK ho) (_:TV ho) (_:ho.length<64) (_:∀ r ss H',Same H H'->H r=none->H' r=some (.lst (ss.map V.str))->ss.Perm ((ho.filter fun kv=>decide (kv.2=.str man)).map lF)->sortedS ss=true->Q (.ref r) H'):yh C vs H Q cB
inductive yj (C:Addr) (vs:List V) (H:Hp) (Q:VK) (cB:XK):Prop
 | mk (x dx a1 a2 a3 a4 a5:Addr) (lo ho ow se br:List (Prod L2.Key V)) (e:Str) (_:vs=[.ref x,.str e]) (_:cP C H x dx a1 a2 a3 a4 a5 lo ho ow se br) (_:(bI lo (.inr e)).isSome=true) (_:TK lo) (_:TV lo) (_:lo.length<64) (_:∀ r ss H',Same H H'->H r=none->H' r=some (.lst (ss.map V.str))->ss.Perm ((lo.filter fun kv=>decide (kv.2=.str e)).map lF)->sortedS ss=true->Q (.ref r) H'):yj C vs H Q cB
theorem qD {Hz:Hp}{o:Obj} (h:H a=some 0x13) (s:Same (upd H a (.iQ o 0x13)) Hz):Same H (upd Hz a 0x13):=fun b u q=>by
 by_cases e:b=a
 ·subst e;rw [h] at q;cases q;exact ao
 ·rw [aj e];exact s b u (by rw [aj e];exact q)
theorem Yc:aP A4Q A4Q (aH Ia):=0x0
def a0u:Scope:={ kind:=.function,names:=[(".0",.local),("name",.local),("holder",.local),("man",.free)],isGenerator:=false,isCoroutine:=false }
theorem a0v:gO A4Q (aH Ia) a0u ["name", "holder"] ["man"] [1]:=0xB
theorem W9:((["name", "holder"]:List Str)++(["man"]:List Str)).Nodup:=by decide +kernel
theorem yp {α:Type}{g:Key×V->α}{d:α}{kv:Key×V} (h:kvs[i]?=some kv):(kvs.map g).getD i d=g kv:=by rw [qQ,jQ,h];rfl
theorem Tp (T:gq K C) (ms:mg "sorted"=none) (F:fu K "held" "Land.held" Ia f fd):aL P w K mg base bO 1 f fd A4Q (yh C):=by
 refine F.ok Yc 0x1 0x2;obtain ⟨x,dx,a1,a2,a3,a4,a5,lo,ho,ow,se,br,man,rfl,L,tk,tv,hl,k⟩:=h;refine ⟨_,aG (aV (bG iB rfl ms jx (ak (xY (j9 rfl a0v (uf 0xC) (fun s H fp C'=>⟨pC (K:=K) (n:=2) rfl (bT (bf (i:=0) W9 rfl 0x8) (bT (bf (i:=1) W9 rfl 0x8) gC)),jG (aQ cV 0x10 (pv 2) (bB _)),pv 0⟩))) aC))),?_⟩;have nx:=aM L.o L.l2 0x16;refine ⟨a2,ho,L.l2,fun o=>⟨_,rfl,x,C,dx,_,_,rfl,by rw [aj nx];exact L.o,T.cl,T.n2,rfl,a2,o,ho,rfl,ao,fun D hD=>?_⟩⟩;have nD:a2≠D:=aq (show (upd H a2 (.iQ o (.dK ho))) a2=some (.iQ o (.dK ho)) from ao) hD
 refine pB (n:=ho.length) (fx:=fun i=>(ho.map fun kv=>kV kv.1).getD i .non) (fy:=fun i=>(ho.map fun kv=>kv.2).getD i .non) (fun i ys Hz=>ys=((ho.take i).filter fun kv=>decide (kv.2=.str man)).map (fun kv=>V.str (lF kv))/\Same (upd H a2 (.iQ o (.dK ho))) Hz/\Hz D=some (.lst ys))
  (fun i ys Hz h=>qZ (h.2.1 _ _ ao)) ⟨rfl,aO hD _,ao⟩ (fun i ys Hz h=>h.2.2) ?_ ?_
 ·rintro i ys Hz p hi ⟨rfl,sz,jA⟩ hp;have hkv:ho[i]?=some ho[i]:=jR hi;rw [yp hkv,yp hkv];have hm:=A0R hi;rw [tk _ hm];have npD:D≠p:=aq jA hp;have sp:=aO hp (.tup [V.str (lF ho[i]),(ho[i]).2]);refine ⟨p,_,rfl,bZ.of ao,rfl,_,_,rfl,_,_,rfl,rfl,Kp.set rfl (Kp.set rfl (Kp.refl _)),?_⟩;have hsc:Lw (ho[i]).2 (V.str man)=true:=by
   rcases tv _ hm with e | ⟨z,e⟩ <;> rw [e] <;> rfl
  refine ⟨_,rfl,_,rfl,hsc,_,rfl,?_⟩;refine iy 0x35 0x35
  ·refine ⟨_,rfl,sp _ _ jA,A1s (Bh (A2J hl)) 0x6,?_,bU (sz.trans sp) hD,ao⟩;rw [nH hkv,A0i c]
  ·refine ⟨?_,sz.trans sp,sp _ _ jA⟩;rw [nH hkv,A0f c,A0K]
 ·rintro ys Hz ⟨rfl,sz,jA⟩;rw [A1c] at jA;refine ⟨sz _ _ ao,?_⟩;have s2:=qD L.l2 sz;have hDt:(upd Hz a2 (.dK ho)) D=some (.lst (((ho.filter fun kv=>decide (kv.2=.str man)).map lF).map V.str)):=by rw [aj (A0k nD),jA,strs_map]
  refine ⟨D,_,rfl,bR.of hDt,?_,fun l ss hl0 hp hs=>?_⟩
  ·rw [cg];exact A1s (A0J _ _) hl
  ·exact k l ss _ (bU s2 (s2.free hl0)) (s2.free hl0) ao hp hs
theorem scUn:aP A4M A4M (aH yd):=0x0
def a0w:Scope:={ kind:=.function,names:=[(".0",.local),("name",.local),("lord",.local),("estate",.free)],isGenerator:=false,isCoroutine:=false }
theorem a0x:gO A4M (aH yd) a0w ["name", "lord"] ["estate"] [1]:=0xB
theorem Wc:((["name", "lord"]:List Str)++(["estate"]:List Str)).Nodup:=by decide +kernel
theorem O1 (T:gq K C) (ms:mg "sorted"=none) (F:fu K "under" "Land.under" yd f fd)  (G1:aL P w K mg base bO 2 g1 d1 A4M (kE C)) (m1:Meth K C "check_there" g1) (b1:Binds K d1 A4M []):aL P w K mg base bO 3 f fd A4M (yj C):=by
 refine F.ok scUn 0x1 0x2;obtain ⟨x,dx,a1,a2,a3,a4,a5,lo,ho,ow,se,br,man,rfl,L,he,tk,tv,hl,k⟩:=h;refine ⟨_,au (bV 0x39) (aG (aV (bG iB rfl ms jx (ak (xY (j9 rfl a0x (uf 0xC) (fun s H fp C'=>⟨pC (K:=K) (n:=2) rfl (bT (bf (i:=0) Wc rfl 0x8) (bT (bf (i:=1) Wc rfl 0x8) gC)),jG (aQ cV 0x10 (pv 2) (bB _)),pv 0⟩))) aC)))),?_⟩;refine ⟨_,rfl,x,dx,_,rfl,L.o,rfl,_,rfl,x,dx,a1,a2,a3,a4,a5,lo,ho,ow,se,br,man,rfl,L,he,?_⟩;have nx:=aM L.o L.l1 0x16;refine ⟨a1,lo,L.l1,fun o=>⟨_,rfl,x,C,dx,_,_,rfl,by rw [aj nx];exact L.o,T.cl,T.n1,rfl,a1,o,lo,rfl,ao,fun D hD=>?_⟩⟩;have nD:a1≠D:=aq (show (upd H a1 (.iQ o (.dK lo))) a1=some (.iQ o (.dK lo)) from ao) hD
 refine pB (n:=lo.length) (fx:=fun i=>(lo.map fun kv=>kV kv.1).getD i .non) (fy:=fun i=>(lo.map fun kv=>kv.2).getD i .non) (fun i ys Hz=>ys=((lo.take i).filter fun kv=>decide (kv.2=.str man)).map (fun kv=>V.str (lF kv))/\Same (upd H a1 (.iQ o (.dK lo))) Hz/\Hz D=some (.lst ys))
  (fun i ys Hz h=>qZ (h.2.1 _ _ ao)) ⟨rfl,aO hD _,ao⟩ (fun i ys Hz h=>h.2.2) ?_ ?_
 ·rintro i ys Hz p hi ⟨rfl,sz,jA⟩ hp;have hkv:lo[i]?=some lo[i]:=jR hi;rw [yp hkv,yp hkv];have hm:=A0R hi;rw [tk _ hm];have npD:D≠p:=aq jA hp;have sp:=aO hp (.tup [V.str (lF lo[i]),(lo[i]).2]);refine ⟨p,_,rfl,bZ.of ao,rfl,_,_,rfl,_,_,rfl,rfl,Kp.set rfl (Kp.set rfl (Kp.refl _)),?_⟩;have hsc:Lw (lo[i]).2 (V.str man)=true:=by
   rcases tv _ hm with e | ⟨z,e⟩ <;> rw [e] <;> rfl
  refine ⟨_,rfl,_,rfl,hsc,_,rfl,?_⟩;refine iy 0x35 0x35
  ·refine ⟨_,rfl,sp _ _ jA,A1s (Bh (A2J hl)) 0x6,?_,bU (sz.trans sp) hD,ao⟩;rw [nH hkv,A0i c]
  ·refine ⟨?_,sz.trans sp,sp _ _ jA⟩;rw [nH hkv,A0f c,A0K]
 ·rintro ys Hz ⟨rfl,sz,jA⟩;rw [A1c] at jA;refine ⟨sz _ _ ao,?_⟩;have s2:=qD L.l1 sz;have hDt:(upd Hz a1 (.dK lo)) D=some (.lst (((lo.filter fun kv=>decide (kv.2=.str man)).map lF).map V.str)):=by rw [aj (A0k nD),jA,strs_map]
  refine ⟨D,_,rfl,bR.of hDt,?_,fun l ss hl0 hp hs=>?_⟩
  ·rw [cg];exact A1s (A0J _ _) hl
  ·exact k l ss _ (bU s2 (s2.free hl0)) (s2.free hl0) ao hp hs
inductive rQ (C:Addr) (vs:List V) (H:Hp) (Q:VK) (cB:XK):Prop
 | mk (x dx a1 a2 a3 a4 a5:Addr) (lo ho ow se br:List 0x22) (e n man:Str) (acres service own:Int) (_:vs=[.ref x,.str e,.str n,.str man,.int acres,.int service]) (_:cP C H x dx a1 a2 a3 a4 a5 lo ho ow se br) (_:Ti a1 a2 a3 a4 a5) (_:bI ow (.inr e)=some (.int own)) (_:lo.length<=900) (_:ho.length<=900) (_:ow.length<=800) (_:se.length<=900) (_:br.length<=900) (_:∀ t,H t=none->Q .non (JN (upd (upd H a3 (.dK (putK ow (.inr e) (.int (own - acres))))) t (.tup [.int service,.int 1])) a1 a2 a3 a4 a5 lo ho (putK ow (.inr e) (.int (own - acres))) se br n e man acres t)):rQ C vs H Q cB
def moved (lo:List 0x30) (ss:List Str) (p:Str):List 0x30:=ss.foldl (fun acc n=>putK acc 0x2C (.str p)) lo
theorem um (lo:List 0x30) (ss:List Str) (n p:Str):moved lo (ss++[n]) p=putK (moved lo ss p) 0x2C (.str p):=by
 unfold moved;rw [List.foldl_append];rfl
theorem wA (lo:List 0x30) (p:Str) (ss:List Str):(moved lo ss p).length<=lo.length+ss.length:=by
 unfold moved
 induction ss generalizing lo with
 | nil=>exact A0h _
 | cons n r ih =>
  rw [A1h,vI];have h1:=ih (putK lo 0x2C (.str p));have h2:=dY lo 0x2C (.str p);lia
inductive yq (C:Addr) (vs:List V) (H:Hp) (Q:VK) (cB:XK):Prop
 | mk (x dx a1 a2 a3 a4 a5:Addr) (lo ho ow se br:List (Prod L2.Key V)) (e p:Str) (own1 yr:Int) (_:vs=[.ref x,.str e]) (_:cP C H x dx a1 a2 a3 a4 a5 lo ho ow se br) (_:Ti a1 a2 a3 a4 a5) (_:bI lo (.inr e)=some (.str p)) (_:bI ow (.inr e)=some (.int own1)) (_:bI ow (.inr p)=some (.int yr)) (_:(bI ho (.inr e)).isSome=true) (_:(bI se (.inr e)).isSome=true) (_:(bI br (.inr e)).isSome=true) (_:TK lo) (_:TV lo) (_:lo.length<64) (_:ow.length<=800) (_:∀ ss H',ss.Perm ((lo.filter fun kv=>decide (kv.2=.str e)).map lF)->(bI (moved lo ss p) (.inr e)).isSome=true->cP C H' x dx a1 a2 a3 a4 a5 (jd (moved lo ss p) (.inr e)) (jd ho (.inr e)) (jd (putK ow (.inr p) (.int (yr+own1))) (.inr e)) (jd se (.inr e)) (jd br (.inr e))->(∀ c o,c≠a1->c≠a2->c≠a3->c≠a4->c≠a5->H c=some o->H' c=some o)->Q .non H'):yq C vs H Q cB
theorem Ec {k:Key} (h:(bI lo k).isSome=true):∀ ss:List Str,(bI (moved lo ss p) k).isSome=true:=by
 intro ss;unfold moved
 induction ss generalizing lo with
 | nil=>exact h
 | cons n r ih =>
  rw [A1h];refine ih ?_;rw [bF]
  by_cases q:k=.inr n
  ·rw [A0i q];rfl
  ·rw [A0f q];exact h
theorem Tq:aP A4Y A4Y (aH DX):=0x0
theorem O2 (T:gq K C) (F:fu K "grant" "Land.grant" DX f fd)  (G1:aL P w K mg base bO 1 g1 d1 A4X (NK C)) (m1:Meth K C "add_estate" g1) (b1:Binds K d1 A4X []) :
  aL P w K mg base bO 2 f fd A4Y (rQ C):=by
 refine F.ok Tq 0x1 0x2;obtain ⟨x,dx,a1,a2,a3,a4,a5,lo,ho,ow,se,br,e,n,man,acres,service,own,rfl,L,ap,hn,e1,e2,e3,e4,e5,k⟩:=h;refine ⟨_,au (rO (u1 hr) 0xC 0x10 (pv 4) Mg (fun _ _ _=>rfl))
  (aG (bV (cj (pv 0) T.cl m1 G1 hr b1 .nil bC (ak (pv 2) (ak 0x10 (ak (pv 3) (ak (pv 4) (ak (cZ (ak (pv 5) (ak aA aC))) aC)))))))),?_⟩
 refine ⟨_,rfl,x,C,dx,_,_,rfl,L.o,T.cl,T.n3,rfl,_,rfl,a3,_,rfl,iM L.l3 hn,_,rfl,_,_,rfl,rfl,_,iK.k (k:=.inr e) L.l3 (bQ 0x3),?_⟩;have L1:cP C (upd H a3 (.dK (putK ow (.inr e) (.int (own - acres))))) x dx a1 a2 a3 a4 a5 lo ho (putK ow (.inr e) (.int (own - acres))) se br :=
  ⟨by rw [aj (aM L.o L.l3 0x16)];exact L.o,by rw [aj ap.n13];exact L.l1,by rw [aj ap.n23];exact L.l2,ao,by rw [aj (A0k ap.n34)];exact L.l4,by rw [aj (A0k ap.n35)];exact L.l5⟩
 refine ⟨_,rfl,x,dx,_,rfl,L1.o,rfl,_,rfl,_,rfl,_,rfl,_,rfl,_,rfl,small 0xA,fun t ht=>?_⟩;have nt:t≠a3:=fun q=>by rw [q,ao] at ht;cases ht
 have ht0:H t=none:=by rw [aj nt] at ht;exact ht
 have hl:=dY ow (.inr e) (.int (own - acres));exact ⟨x,dx,a1,a2,a3,a4,a5,lo,ho,_,se,br,n,e,man,acres,t,rfl,L1.same (aO ht _),ap,e1,e2,by lia,e4,e5,k t ht0⟩
theorem Ed:aP ["self", "estate", "lord", "name"] A4M (aH Nv):=0x0
theorem Tr (T:gq K C) (F:fu K "fall_back" "Land.fall_back" Nv f fd)  (G1:aL P w K mg base bO 3 g1 d1 A4M (yj C)) (m1:Meth K C "under" g1) (b1:Binds K d1 A4M []) :
  aL P w K mg base bO 4 f fd A4M (yq C):=by
 refine F.ok Ed 0x1 0x2;obtain ⟨x,dx,a1,a2,a3,a4,a5,lo,ho,ow,se,br,e,p,own1,yr,rfl,L,ap,hlo,ho1,ho2,hh,hse,hbr,tk,tv,hl,how,k⟩:=h;refine ⟨_,au (aY (i:=2) Ed.nd rfl 0x8 (bH (u1 hr) 0xC 0x10 0x4))
  (au (rO (u1 hr) 0xC (pv 2) (bH (u1 hr) 0xC 0x10 0x4) Ma (fun _ _ _=>rfl))
  (au (fM A0N rfl (cX 0x39) (bf (i:=3) Ed.nd rfl 0x8) (aG (dw (u1 hr) 0xC (pv 3) (pv 2) rfl)))
  (au (pF 0xC 0x10) (au (pF 0xC 0x10) (au (pF 0xC 0x10) (au (pF 0xC 0x10) (aG (pF 0xC 0x10)))))))),?_⟩
 refine ⟨_,rfl,x,C,dx,_,_,rfl,L.o,T.cl,T.n1,rfl,_,rfl,_,_,rfl,iM L.l1 hlo,?_⟩;refine ⟨_,rfl,x,C,dx,_,_,rfl,L.o,T.cl,T.n3,rfl,_,rfl,a3,_,rfl,iM L.l3 ho2,_,rfl,x,C,dx,_,_,rfl,L.o,T.cl,T.n3,rfl,_,rfl,_,_,rfl,iM L.l3 ho1,_,_,rfl,rfl,_,iK.k (k:=.inr p) L.l3 (bQ 0x3),?_⟩;have L1:cP C (upd H a3 (.dK (putK ow (.inr p) (.int (yr+own1))))) x dx a1 a2 a3 a4 a5 lo ho (putK ow (.inr p) (.int (yr+own1))) se br :=
  ⟨by rw [aj (aM L.o L.l3 0x16)];exact L.o,by rw [aj ap.n13];exact L.l1,by rw [aj ap.n23];exact L.l2,ao,by rw [aj (A0k ap.n34)];exact L.l4,by rw [aj (A0k ap.n35)];exact L.l5⟩
 have Ef:∀ c o,c≠a3->H c=some o->(upd H a3 (.dK (putK ow (.inr p) (.int (yr+own1))))) c=some o:=fun c o hc q=>by rw [aj hc];exact q
 have hown:(bI (putK ow (.inr p) (.int (yr+own1))) (.inr e)).isSome=true:=by
  rw [bF]
  by_cases q:(Sum.inr e:Key)=.inr p
  ·rw [A0i q];rfl
  ·rw [A0f q,ho1];rfl
 generalize upd H a3 (.dK (putK ow (.inr p) (.int (yr+own1))))=H1 at L1 Ef ⊢;generalize putK ow (.inr p) (.int (yr+own1))=ow1 at L1 hown k ⊢;refine ⟨_,rfl,x,dx,_,rfl,L1.o,rfl,_,rfl,x,dx,a1,a2,a3,a4,a5,lo,ho,ow1,se,br,e,rfl,L1,by rw [hlo];rfl,tk,tv,hl,fun r ss H2 s2 hr0 hr2 hp hs=>?_⟩;have hsl:ss.length<=lo.length:=by
  rw [hp.length_eq,cg];exact A0J _ _
 have L2:=L1.same s2;refine ⟨r,rfl,⟨_,bR.of hr2⟩,dX (K:=K) (a:=r) (xs:=ss.map V.str) (fun i σ Hx=>(∃ u3,σ=[some (.ref x),some (.str e),some (.str p),u3])/\Hx r=some (.lst (ss.map V.str))/\cP C Hx x dx a1 a2 a3 a4 a5 (moved lo (ss.take i) p) ho ow1 se br/\∀ c o,c≠a1->H1 c=some o->Hx c=some o)
  ⟨⟨none,rfl⟩,hr2,L2,fun c o _ q=>s2 c o q⟩ (fun i σ Hx _ h=>bR.of h.2.1) ?_ ?_⟩
 ·rintro i v σ Hx hv ⟨⟨u3,rfl⟩,rx,Lx,fx⟩;rw [jQ] at hv;obtain ⟨n,hn,rfl⟩:=A0t.mp hv;have hml:=wA lo p (ss.take i);rw [A0G] at hml;refine ⟨_,rfl,_,rfl,x,C,dx,_,_,rfl,Lx.o,T.cl,T.n1,rfl,_,rfl,a1,_,rfl,iK.k (k:=.inr n) Lx.l1 (bQ 0x3),?_⟩;have em:moved lo (ss.take (i+1)) p=putK (moved lo (ss.take i) p) 0x2C (.str p):=by rw [A1a,hn];exact um _ _ _ _
  refine ⟨⟨_,rfl⟩,by rw [aj (aM rx Lx.l1 0x16)];exact rx,⟨by rw [aj (aM Lx.o Lx.l1 0x16)];exact Lx.o,by rw [em];exact ao,by rw [aj (A0k ap.n12)];exact Lx.l2,by rw [aj (A0k ap.n13)];exact Lx.l3,by rw [aj (A0k ap.n14)];exact Lx.l4,by rw [aj (A0k ap.n15)];exact Lx.l5⟩,fun c o hc q=>by rw [aj hc];exact fx c o hc q⟩
 ·rintro σ Hx ⟨⟨u3,rfl⟩,rx,Lx,fx⟩;rw [cg,A1c] at Lx;have hmv:=Ec (p:=p) (show (bI lo (.inr e)).isSome=true by rw [hlo];rfl) ss
  have x1:=aM Lx.o Lx.l1 0x16;have x2:=aM Lx.o Lx.l2 0x16;have x3:=aM Lx.o Lx.l3 0x16;have x4:=aM Lx.o Lx.l4 0x16;have x5:=aM Lx.o Lx.l5 0x16;refine ⟨_,rfl,x,C,dx,_,_,rfl,Lx.o,T.cl,T.n1,rfl,_,rfl,a1,_,.inr e,rfl,Lx.l1,rfl,hmv,?_⟩;refine ⟨_,rfl,x,C,dx,_,_,rfl,by rw [aj x1];exact Lx.o,T.cl,T.n2,rfl,_,rfl,a2,_,.inr e,rfl,by rw [aj (A0k ap.n12)];exact Lx.l2,rfl,hh,?_⟩;refine ⟨_,rfl,x,C,dx,_,_,rfl,by rw [aj x2,aj x1];exact Lx.o,T.cl,T.n3,rfl,_,rfl,a3,_,.inr e,rfl,by rw [aj (A0k ap.n23),aj (A0k ap.n13)];exact Lx.l3,rfl,hown,?_⟩;refine ⟨_,rfl,x,C,dx,_,_,rfl,by rw [aj x3,aj x2,aj x1];exact Lx.o,T.cl,T.n4,rfl,_,rfl,a4,_,.inr e,rfl,by rw [aj (A0k ap.n34),aj (A0k ap.n24),aj (A0k ap.n14)];exact Lx.l4,rfl,hse,?_⟩;refine ⟨_,rfl,x,C,dx,_,_,rfl,by rw [aj x4,aj x3,aj x2,aj x1];exact Lx.o,T.cl,T.n5,rfl,_,rfl,a5,_,.inr e,rfl,by rw [aj (A0k ap.n45),aj (A0k ap.n35),aj (A0k ap.n25),aj (A0k ap.n15)];exact Lx.l5,rfl,hbr,?_⟩;refine k ss _ hp hmv ⟨?_,?_,?_,?_,?_,ao⟩ fun c o c1 c2 c3 c4 c5 q=>?_
  ·rw [aj x5,aj x4,aj x3,aj x2,aj x1];exact Lx.o
  ·rw [aj ap.n15,aj ap.n14,aj ap.n13,aj ap.n12,ao]
  ·rw [aj ap.n25,aj ap.n24,aj ap.n23,ao]
  ·rw [aj ap.n35,aj ap.n34,ao]
  ·rw [aj ap.n45,ao]
  ·rw [aj c5,aj c4,aj c3,aj c2,aj c1];exact fx c o c1 (Ef c o c3 q)
end
abbrev O4:Stmt:=top 48
abbrev Bj:Stmt:=top 49
def vA (v:Int):Prop:=0<=v/\v<1000003
theorem yt {fs:List Int}{v:Int} (h:∀ x∈fs,vA x) (hv:vA v):∀ x∈fs++[v],vA x:=fun x hx=>by
 rcases A0l.mp hx with z | z
 ·exact h x z
 ·rw [A0b.mp z];exact hv
theorem rR (fs:List Int) (v:Int):fs.map V.int++[V.int v]=(fs++[v]).map V.int:=by simp
inductive Eh (K:W.Frag) (vs:List V) (H:Hp) (Q:VK) (cB:XK):Prop
 | mk (a:Addr) (ns:List Int) (many:Int) (_:vs=[.ref a,.int many]) (_:bR K H a (ns.map V.int)) (_:ns.length<=63) (_:0<=many) (_:many<=100000) (_:∀ (r:Addr) (H':Hp) (fs:List Int),Same H H'->H r=none->H' r=some (.lst (fs.map V.int))->(fs.length:Int)=many->(∀ v∈fs,vA v)->Q (.ref r) H'):Eh K vs H Q cB
theorem jO:aP ["_law_script", "_law_many", "_law_feed_here", "_law_salt", "_law_cell", "_law_rest", "_law_k"] ["_law_script", "_law_many"] (aH O4):=0x0
theorem Tt (F:fu K "_law_feed" "_law_feed" O4 f fd) (mr:mg "range"=none) (ml:mg "len"=none):aL P w K mg base bO 1 f fd ["_law_script", "_law_many"] (Eh K):=by
 refine F.ok jO 0x1 0x2;obtain ⟨a,ns,many,rfl,hS,h63,hm0,hm1,k⟩:=h;refine ⟨_,au (aY (i:=2) jO.nd rfl 0x8 (cU aC))
  (au (aY (i:=3) jO.nd rfl 0x8 aA)
  (au (fM A0N rfl (cX (eV jF (pv 0) fV (cD aA))) (bf (i:=4) jO.nd rfl 0x8)
   (au (aY (i:=3) jO.nd rfl 0x8 (aX bW (aX cY (aX cY (aX jM (pv 3) aA) (aX bW (pv 4) aA)) aA) aA))
   (au (aY (i:=5) jO.nd rfl 0x8 (aX tG (pv 4) (aX Xf aA aA)))
   (au (bK (aQ tK (pv 5) aA (bB _))
     (aG (bV (iR A0H A0O A0P cT (pv 2) (ak (aX bW (pv 4) aA) aC)))) aR)
   (aG (fM A0N rfl (jV rfl mr (ak aA aC)) (bf (i:=6) jO.nd rfl 0x8)
    (aG (bK (aQ Lz (pv 5) aA (bB _))
     (au (bV (iR A0H A0O A0P cT (pv 2) (ak (aX bW (pv 5) aA) aC)))
     (aG (aY (i:=5) jO.nd rfl 0x8 (aX jo (pv 5) aA)))) aR))))))))
  (au (fM A0N rfl (jV rfl mr (ak (aX tG 0x10 (bG cI rfl ml A1m (ak (pv 2) aC))) aC)) (bf (i:=6) jO.nd rfl 0x8)
   (au (aY (i:=3) jO.nd rfl 0x8 (aX bW (aX cY (aX cY (aX cY (aX jM (aX jM (pv 3) (pv 3)) (pv 3)) (aX jM aA (pv 3))) (aX jM aA (pv 6))) aA) aA))
   (aG (bV (iR A0H A0O A0P cT (pv 2) (ak (aX bW (aX jo (pv 3) aA) aA) aC))))))
  (aG (aV (eV jF (pv 2) fV (cD 0x10))))))),?_⟩
 refine ⟨small 0xA,fun l hl=>?_⟩;have s1:Same H (upd H l (.lst [])):=aO hl _;refine ⟨_,rfl,_,rfl,a,_,rfl,s1.seq hS,fun p hp=>?_⟩;have npl:p≠l:=fun e=>by rw [e,ao] at hp;cases hp
 have hp0:H p=none:=by rw [aj npl] at hp;exact hp
 refine ⟨p,rfl,⟨_,bR.of ao⟩,dX (K:=K) (a:=p) (xs:=ig (ns.map V.int) none (some 63)) (fun i σ H2=>∃ (fs:List Int) (salt:Int) (c r k:Option V),σ=[some (.ref a),some (.int many),some (.ref l),some (.int salt),c,r,k]/\Same H H2 /\
   H2 p=some (.lst (ig (ns.map V.int) none (some 63)))/\H2 l=some (.lst (fs.map V.int))/\fs.length<=61 * i/\(∀ v∈fs,vA v)/\0<=salt/\salt<2147483647)
  ⟨[],29,none,none,none,rfl,bU s1 hp0,ao,by rw [aj (A0k npl),ao];rfl,A1f _,(fun v hv=>nomatch hv),by decide,by decide⟩ (fun i σ H2 _ ⟨_,_,_,_,_,_,_,hq,_⟩=>bR.of hq) ?_ ?_⟩
 ·rintro i y σ H2 hi ⟨fs,salt,c,r,kk,rfl,s2,hq,hL,hlen,hok,z0,z1⟩;have hil:i<(ig (ns.map V.int) none (some 63)).length:=(A0j.mp hi).1;have hcl:=jE (ns.map V.int) none (some 63);rw [cg] at hcl;obtain ⟨cell,rfl⟩:∃ z,y=V.int z:=by
   have hm:y∈ig (ns.map V.int) none (some 63):=vm hi;have hm2:y∈ns.map V.int:=A2S (A2b hm);obtain ⟨z,_,rfl⟩:=A0e.mp hm2;exact ⟨z,rfl⟩
  refine ⟨_,rfl,_,_,rfl,rfl,.inl ⟨by lia,by lia⟩,_,rfl,_,_,rfl,rfl,(by show (0:Int)<2147483629;decide),_,_,rfl,rfl,_,_,rfl,rfl,_,_,rfl,rfl,(by show (0:Int)<2147483647;decide),?_⟩
  refine ⟨_,rfl,_,_,rfl,rfl,⟨by decide,by decide,by decide⟩,_,_,rfl,rfl,?_⟩;have z0':0<=(salt * 69621+cell % 2147483629+11) % 2147483647:=A0Q _ 0x6;have z1':(salt * 69621+cell % 2147483629+11) % 2147483647<2147483647:=A0L _ 0x6;refine ⟨_,rfl,_,_,rfl,rfl,_,rfl,?_⟩;refine iy 0x35 0x35
  ·refine ⟨_,rfl,.inl ⟨rfl,_,bR.of hL⟩,_,rfl,_,_,rfl,rfl,(by show (0:Int)<1000003;decide),l,_,_,rfl,rfl,hL,(by rw [cg];exact bQ 0x3),?_⟩
   have hgs:∃ gs:List Int,(upd H2 l (.lst (fs.map V.int++[V.int (cell % 1000003)]))) l=some (.lst (gs.map V.int))/\gs.length<=61 * i+1/\∀ v∈gs,vA v :=
    ⟨fs++[cell % 1000003],by rw [ao,rR],by rw [gZ,A0r];lia,yt hok ⟨A0Q _ 0x6,A0L _ 0x6⟩⟩
   have s3:Same H (upd H2 l (.lst (fs.map V.int++[V.int (cell % 1000003)]))):=bU s2 hl;have hq3:(upd H2 l (.lst (fs.map V.int++[V.int (cell % 1000003)]))) p=some (.lst (ig (ns.map V.int) none (some 63))):=by rw [aj npl];exact hq
   generalize upd H2 l (.lst (fs.map V.int++[V.int (cell % 1000003)]))=H3 at hgs s3 hq3;obtain ⟨gs,hL3,hg1,hg2⟩:=hgs;refine ⟨60,rfl,by decide,by decide,jW (lo:=0) (n:=60) (fun j σ H4=>∃ (hs:List Int) (rest mX:Int) (k:Option V),σ=[some (.ref a),some (.int many),some (.ref l),some (.int mX),some (.int cell),some (.int rest),k]/\0<=mX/\mX<2147483647/\Same H H4 /\
    H4 p=some (.lst (ig (ns.map V.int) none (some 63)))/\H4 l=some (.lst (hs.map V.int))/\hs.length<=61 * i+1+j/\(∀ v∈hs,vA v)) ⟨gs,_,_,kk,rfl,z0',z1',s3,hq3,hL3,hg1,hg2⟩ ?_ ?_⟩
   ·rintro j σ H4 hj ⟨hs,rest,mX,k',rfl,x0,x1,s4,Tv,CW,hh1,JV⟩;refine ⟨_,rfl,_,_,rfl,rfl,_,rfl,?_⟩;refine iy 0x35 0x35
    ·refine ⟨_,rfl,.inl ⟨rfl,_,bR.of CW⟩,_,rfl,_,_,rfl,rfl,(by show (0:Int)<1009;decide),l,_,_,rfl,rfl,CW,(by rw [cg];exact bQ 0x3),?_⟩
     refine ⟨_,rfl,_,_,rfl,rfl,⟨by decide,by decide⟩,?_⟩;exact ⟨hs++[rest % 1009],_,_,_,rfl,x0,x1,bU s4 hl,by rw [aj npl];exact Tv,by rw [ao,rR],by rw [gZ,A0r];lia,
      yt JV ⟨A0Q _ 0x6,by have:=A0L rest (show (0:Int)<1009 by decide);lia⟩⟩
    ·exact ⟨hs,_,_,_,rfl,x0,x1,s4,Tv,CW,by lia,JV⟩
   ·rintro σ H4 ⟨hs,rest,mX,k',rfl,x0,x1,s4,Tv,CW,hh1,JV⟩;exact ⟨hs,_,_,_,_,rfl,s4,Tv,CW,by lia,JV,x0,x1⟩
  ·obtain ⟨gs,hL3,hg1,hg2⟩:∃ gs:List Int,H2 l=some (.lst (gs.map V.int))/\gs.length<=61 * i+1/\∀ v∈gs,vA v:=⟨fs,hL,by lia,hok⟩;refine ⟨60,rfl,by decide,by decide,jW (lo:=0) (n:=60) (fun j σ H4=>∃ (hs:List Int) (rest mX:Int) (k:Option V),σ=[some (.ref a),some (.int many),some (.ref l),some (.int mX),some (.int cell),some (.int rest),k]/\0<=mX/\mX<2147483647/\Same H H4 /\
    H4 p=some (.lst (ig (ns.map V.int) none (some 63)))/\H4 l=some (.lst (hs.map V.int))/\hs.length<=61 * i+1+j/\(∀ v∈hs,vA v)) ⟨gs,_,_,kk,rfl,z0',z1',s2,hq,hL3,hg1,hg2⟩ ?_ ?_⟩
   ·rintro j σ H4 hj ⟨hs,rest,mX,k',rfl,x0,x1,s4,Tv,CW,hh1,JV⟩;refine ⟨_,rfl,_,_,rfl,rfl,_,rfl,?_⟩;refine iy 0x35 0x35
    ·refine ⟨_,rfl,.inl ⟨rfl,_,bR.of CW⟩,_,rfl,_,_,rfl,rfl,(by show (0:Int)<1009;decide),l,_,_,rfl,rfl,CW,(by rw [cg];exact bQ 0x3),?_⟩
     refine ⟨_,rfl,_,_,rfl,rfl,⟨by decide,by decide⟩,?_⟩;exact ⟨hs++[rest % 1009],_,_,_,rfl,x0,x1,bU s4 hl,by rw [aj npl];exact Tv,by rw [ao,rR],by rw [gZ,A0r];lia,
      yt JV ⟨A0Q _ 0x6,by have:=A0L rest (show (0:Int)<1009 by decide);lia⟩⟩
    ·exact ⟨hs,_,_,_,rfl,x0,x1,s4,Tv,CW,by lia,JV⟩
   ·rintro σ H4 ⟨hs,rest,mX,k',rfl,x0,x1,s4,Tv,CW,hh1,JV⟩;exact ⟨hs,_,_,_,_,rfl,s4,Tv,CW,by lia,JV,x0,x1⟩
 ·rintro σ H2 ⟨fs,salt,c,r,kk,rfl,s2,hq,hL,hlen,hok,z0,z1⟩;have hcl:=jE (ns.map V.int) none (some 63);rw [cg] at hcl;refine ⟨_,rfl,_,rfl,l,_,rfl,.inl (bR.of hL),_,_,rfl,rfl,many - (fs.length:Int),(by rw [cg]),by lia,by lia,?_⟩;refine jW (lo:=0) (n:=(many - (fs.length:Int)).toNat) (fun j σ H4=>∃ (hs:List Int) (salt:Int) (k:Option V),σ=[some (.ref a),some (.int many),some (.ref l),some (.int salt),c,r,k]/\Same H H4 /\
    H4 l=some (.lst (hs.map V.int))/\hs.length=fs.length+j/\(∀ v∈hs,vA v)/\0<=salt/\salt<2147483647) ⟨fs,salt,kk,rfl,s2,hL,rfl,hok,z0,z1⟩ ?_ ?_
  ·rintro j σ H4 hj ⟨hs,salt,k',rfl,s4,CW,hh1,JV,y0,y1⟩;refine ⟨_,rfl,_,rfl,_,_,rfl,rfl,.inl ⟨by lia,by lia⟩,_,rfl,_,_,rfl,rfl,.inr ⟨by lia,by lia⟩,_,rfl,_,_,rfl,rfl,.inl ⟨by decide,by decide⟩,_,_,rfl,rfl,_,rfl,_,_,rfl,rfl,.inl ⟨by decide,by decide⟩,_,_,rfl,rfl,_,_,rfl,rfl,_,_,rfl,rfl,(by show (0:Int)<2147483629;decide),?_⟩
   refine ⟨_,rfl,.inl ⟨rfl,_,bR.of CW⟩,_,rfl,_,_,rfl,rfl,⟨by decide,by decide⟩,_,_,rfl,rfl,(by show (0:Int)<1009;decide),l,_,_,rfl,rfl,CW,(by rw [cg];exact bQ 0x3),?_⟩
   refine ⟨hs++[_],_,_,rfl,bU s4 hl,by rw [ao,rR],by rw [gZ,A0r];lia,yt JV ⟨A0Q _ 0x6,?_⟩,A0Q _ 0x6,?_⟩
   ·have:=A0L ((salt * salt * salt+48271 * salt+13 * (0+(j:Int))+5) % 2147483629 / 1013) (show (0:Int)<1009 by decide)
    lia
   ·have:=A0L (salt * salt * salt+48271 * salt+13 * (0+(j:Int))+5) (show (0:Int)<2147483629 by decide)
    lia
  ·rintro σ H4 ⟨hs,salt,k',rfl,s4,CW,hh1,JV,y0,y1⟩;refine ⟨_,rfl,_,rfl,many,rfl,l,_,rfl,bR.of CW,fun q hq'=>?_⟩;have hcut:ig (hs.map V.int) none (some many)=(hs.take many.toNat).map V.int:=by
    unfold ig;have e1:HT.eO (hs.map V.int).length 0 none=0:=rfl;have e2:HT.eO (hs.map V.int).length (hs.map V.int).length (some many)=min many.toNat (hs.map V.int).length:=by
     have em:many=((many.toNat:Nat):Int):=by lia
     generalize many.toNat=mm at em ⊢;rw [em,HT.jD]
    rw [e1,e2,A4a,List.map_take,Nat.sub_zero,cg];rw [List.take_eq_take_iff,cg];lia
   refine k q _ (hs.take many.toNat) (bU s4 (s4.free hq')) (s4.free hq') (by rw [ao,hcut]) ?_ fun v hv=>JV v (A2b hv);rw [A0G];lia
def Wd:V->Bool
 | .non | .bl _ | .int _ | .str _=>true
 | _=>false
def Wg (H:Hp):Nat->V->V->Prop
 | 0,_,_=>False
 | n+1,x,y=>(x=y/\Wd x=true)\/(∃ p q xs ys,x=.ref p/\y=.ref q/\H p=some 0x2E/\H q=some (.tup ys)/\xs.length=ys.length/\xs.length<=1000/\∀ (i:Nat) (x y:V),xs[i]?=some x->ys[i]?=some y->Wg H n x y) \/
  (∃ p q xs ys,x=.ref p/\y=.ref q/\H p=some (.lst xs)/\H q=some (.lst ys)/\xs.length=ys.length/\xs.length<=1000/\∀ (i:Nat) (x y:V),xs[i]?=some x->ys[i]?=some y->Wg H n x y)
theorem Wg.same (s:Same H H'):∀ {n:Nat}{x y:V},Wg H n x y->Wg H' n x y
 | 0,_,_,h=>h
 | n+1,x,y,h=>by
  rcases h with h | ⟨p,q,xs,ys,e1,e2,e3,e4,e5,e6,e7⟩ | ⟨p,q,xs,ys,e1,e2,e3,e4,e5,e6,e7⟩
  ·exact .inl h
  ·exact .inr (.inl ⟨p,q,xs,ys,e1,e2,s _ _ e3,s _ _ e4,e5,e6,fun i x y h1 h2=>(e7 i x y h1 h2).same s⟩)
  ·exact .inr (.inr ⟨p,q,xs,ys,e1,e2,s _ _ e3,s _ _ e4,e5,e6,fun i x y h1 h2=>(e7 i x y h1 h2).same s⟩)
inductive qF (n:Nat) (vs:List V) (H:Hp) (Q:VK) (cB:XK):Prop
 | mk (x y:V) (_:vs=[x,y]) (_:Wg H n x y) (_:∀ H',Same H H'->Q (.bl true) H'):qF n vs H Q cB
structure Ms (K:PySem.W.Frag) (mg:Str->Option Value) (x:Str) (g:Addr) (gd:FuncData) (ps:List Str):Prop where
 b:Binds K gd ps []
 k:PySem.W.keepIn K (.ref g)=true
 m:mg x=some (.ref g)
structure MgS (mg:Str->Option Value):Prop where
 RV:mg "isinstance"=none
 bool:mg "bool"=none
 int:mg "int"=none
 str:mg "str"=none
 list:mg "list"=none
 tuple:mg "tuple"=none
 len:mg "len"=none
 all:mg "all"=none
 zip:mg "zip"=none
theorem Yd:aP A4V A4V (aH Bj):=0x0
def scS1:Scope:={ kind:=.function,names:=[(".0",.local),("_law_one",.local),("_law_other",.local),("_law_same",.globalImplicit)],isGenerator:=false,isCoroutine:=false }
theorem csS1:gO A4V (aH Bj) scS1 A5h [] []:=0xB
theorem Tw:((A5h:List Str)++([]:List Str)).Nodup:=by decide +kernel
theorem all_true {bs:List Bool} (h:∀ b∈bs,b=true):bs.all id=true:=A1u.mpr fun b hb=>h b hb
theorem O5 (n:Nat):List.replicate n (V.bl true)=(List.replicate n true).map V.bl:=by rw [List.map_replicate]
theorem O6 (F:fu K "_law_same" "_law_same" Bj f fd) (m:MgS mg) (M:Ms K mg "_law_same" f fd A4V) (G:aL P w K mg base bO n f fd A4V (qF n)):aL P w K mg base bO (n+1) f fd A4V (qF (n+1)):=by
 refine F.ok Yd 0x1 0x2;obtain ⟨x,y,rfl,heq,k⟩:=h;refine ⟨_,au (bK (xu (Lp 0x10)) (aG (aV (xr (Lp (pv 0))))) aR)
  (au (bK (dZ (bG (cR (K:=K)) rfl m.RV cG (ak 0x10 (ak (j8 rfl m.bool xU rfl (v:=.ty "bool")) aC))))
   (aG (aV (m7 (bG (cR (K:=K)) rfl m.RV cG (ak (pv 0) (ak (j8 rfl m.bool xU rfl (v:=.ty "bool")) aC))) (sZ (gK cV (pv 0) 0x10 (bB _)))))) aR)
  (au (bK (dZ (bG (cR (K:=K)) rfl m.RV cG (ak 0x10 (ak (j8 rfl m.tuple Ak rfl (v:=.ty "tuple")) aC))))
   (au (bK (PW.pt (zV (iT (dZ (bG (cR (K:=K)) rfl m.RV cG (ak (pv 0) (ak (j8 rfl m.tuple Ak rfl (v:=.ty "tuple")) aC))))) (sY (aQ oU (bG (nG (K:=K)) rfl m.len A1m (ak (pv 0) aC)) (bG (nG (K:=K)) rfl m.len A1m 0x26) (bB _))))) (aG (aV nW)) aR)
   (aG (aV (bG (qC (K:=K) rfl hr.hd) rfl m.all Dz (ak (j9 rfl csS1 (Nb rfl m.zip (ak (pv 0) 0x26))
    (fun s H fp C=>⟨pC (K:=K) (n:=2) rfl (bT (bf (i:=0) Tw rfl 0x8) (bT (bf (i:=1) Tw rfl 0x8) gC)),rM,bJ G hr rfl M.m M.k M.b .nil bC (ak (pv 0) 0x26)⟩)) aC))))) aR)
  (au (bK (dZ (bG (cR (K:=K)) rfl m.RV cG (ak 0x10 (ak (j8 rfl m.list pA rfl (v:=.ty "list")) aC))))
   (au (bK (PW.pt (zV (iT (dZ (bG (cR (K:=K)) rfl m.RV cG (ak (pv 0) (ak (j8 rfl m.list pA rfl (v:=.ty "list")) aC))))) (sY (aQ oU (bG (nG (K:=K)) rfl m.len A1m (ak (pv 0) aC)) (bG (nG (K:=K)) rfl m.len A1m 0x26) (bB _))))) (aG (aV nW)) aR)
   (aG (aV (bG (qC (K:=K) rfl hr.hd) rfl m.all Dz (ak (j9 rfl csS1 (Nf rfl m.zip (ak (pv 0) 0x26))
    (fun s H fp C=>⟨pC (K:=K) (n:=2) rfl (bT (bf (i:=0) Tw rfl 0x8) (bT (bf (i:=1) Tw rfl 0x8) gC)),rM,bJ G hr rfl M.m M.k M.b .nil bC (ak (pv 0) 0x26)⟩)) aC))))) aR)
  (au (bK (dZ (bG (cR (K:=K)) rfl m.RV cG (ak 0x10 (ak (j8 rfl m.str MP rfl (v:=.ty "str")) aC))))
   (aG (aV (m7 (bG (cR (K:=K)) rfl m.RV cG (ak (pv 0) (ak (j8 rfl m.str MP rfl (v:=.ty "str")) aC))) (sZ (gK cV (pv 0) 0x10 (bB _)))))) aR)
  (aG (aV (m7 (bG (cR (K:=K)) rfl m.RV cG (ak (pv 0) (ak (j8 rfl m.int Xw rfl (v:=.ty "int")) aC)))
   (m7 (X3 (bG (cR (K:=K)) rfl m.RV cG (ak (pv 0) (ak (j8 rfl m.bool xU rfl (v:=.ty "bool")) aC)))) (sZ (gK cV (pv 0) 0x10 (bB _))))))))))),?_⟩
 rcases heq with ⟨rfl,hsc⟩ | ⟨p,q,xs,ys,rfl,rfl,hp,hq,hl,hz,hi⟩ | ⟨p,q,xs,ys,rfl,rfl,hp,hq,hl,hz,hi⟩
 ·cases x with
  | non=>exact ⟨_,rfl,_,rfl,dU ⟨_,rfl,k _ (Same.refl _)⟩⟩
  | bl b =>
   refine ⟨_,rfl,_,rfl,cA ?_⟩;refine ⟨_,rfl,_,_,_,true,rfl,.bl b,rfl,_,rfl,dU ?_⟩;refine ⟨_,rfl,_,_,_,true,rfl,.bl b,rfl,_,rfl,dU ?_⟩;refine ⟨_,rfl,_,rfl,rfl,?_⟩
   show Q (.bl (decide (V.bl b=V.bl b))) H
   rw [A0g rfl];exact k _ (Same.refl _)
  | int i =>
   refine ⟨_,rfl,_,rfl,cA ?_⟩;refine ⟨_,rfl,_,_,_,false,rfl,.int i,rfl,_,rfl,cA ?_⟩;refine ⟨_,rfl,_,_,_,false,rfl,.int i,rfl,_,rfl,cA ?_⟩;refine ⟨_,rfl,_,_,_,false,rfl,.int i,rfl,_,rfl,cA ?_⟩;refine ⟨_,rfl,_,_,_,false,rfl,.int i,rfl,_,rfl,cA ?_⟩;refine ⟨_,rfl,_,_,_,true,rfl,.int i,rfl,_,rfl,dU ?_⟩;refine ⟨_,rfl,_,_,_,false,rfl,.int i,rfl,_,rfl,_,rfl,dU ?_⟩;refine ⟨_,rfl,_,rfl,rfl,?_⟩
   show Q (.bl (decide (V.int i=V.int i))) H
   rw [A0g rfl];exact k _ (Same.refl _)
  | str z =>
   refine ⟨_,rfl,_,rfl,cA ?_⟩;refine ⟨_,rfl,_,_,_,false,rfl,.str z,rfl,_,rfl,cA ?_⟩;refine ⟨_,rfl,_,_,_,false,rfl,.str z,rfl,_,rfl,cA ?_⟩;refine ⟨_,rfl,_,_,_,false,rfl,.str z,rfl,_,rfl,cA ?_⟩;refine ⟨_,rfl,_,_,_,true,rfl,.str z,rfl,_,rfl,dU ?_⟩;refine ⟨_,rfl,_,_,_,true,rfl,.str z,rfl,_,rfl,dU ?_⟩;refine ⟨_,rfl,_,rfl,rfl,?_⟩
   show Q (.bl (decide (V.str z=V.str z))) H
   rw [A0g rfl];exact k _ (Same.refl _)
  | Gm _=>cases hsc
  | flt _=>cases hsc
  | ref _=>cases hsc
  | ty _=>cases hsc
 ·refine ⟨_,rfl,_,rfl,cA ?_⟩;refine ⟨_,rfl,_,_,_,false,rfl,.tup hq,rfl,_,rfl,cA ?_⟩;refine ⟨_,rfl,_,_,_,true,rfl,.tup hq,rfl,_,rfl,dU ?_⟩;refine ⟨_,rfl,_,_,_,true,rfl,.tup hp,rfl,_,rfl,cA ?_⟩;refine ⟨_,rfl,p,xs,rfl,.inr (bZ.of hp),_,rfl,q,ys,rfl,.inr (bZ.of hq),rfl,_,rfl,?_⟩;refine VJ (by rw [hl]) ?_;refine ⟨_,rfl,_,rfl,p,q,rfl,⟨_,bZ.of hp⟩,⟨_,bZ.of hq⟩,fun D hD=>?_⟩;refine pB (n:=xs.length) (fx:=fun i=>xs.getD i .non) (fy:=fun i=>ys.getD i .non) (fun i zs H2=>zs=List.replicate i (V.bl true)/\Same H H2/\H2 D=some (.lst zs)) (fun i zs H2 ⟨_,s2,_⟩=>Aq (bZ.of (s2 _ _ hp)) (bZ.of (s2 _ _ hq)) hl) ⟨rfl,aO hD _,ao⟩ (fun i zs H2 h=>h.2.2) ?_ ?_
  ·rintro i zs H2 r hir ⟨rfl,s2,hD2⟩ hr2;have nrD:D≠r:=aq hD2 hr2;have e1:xs[i]?=some (xs.getD i .non):=by rw [qQ,jR hir];rfl
   have e2:ys[i]?=some (ys.getD i .non):=by rw [qQ,jR 0x3];rfl
   have s3:Same H (upd H2 r (.tup [xs.getD i .non,ys.getD i .non])):=bU s2 (s2.free hr2);refine ⟨r,_,rfl,bZ.of ao,rfl,_,_,rfl,_,_,rfl,rfl,Kp.set rfl (Kp.set rfl (Kp.refl _)),?_⟩;refine pq ?_;refine ⟨_,rfl,_,rfl,_,_,rfl,(hi i _ _ e1 e2).same s3,fun H4 s4=>⟨s4 _ _ (by rw [aj nrD];exact hD2),?_,?_,bU (s3.trans s4) hD,ao⟩⟩
   ·rw [A1N];exact bQ 0x3
   ·rw [A3x]
  ·rintro zs H2 ⟨rfl,s2,hD2⟩;refine ⟨D,List.replicate xs.length true,rfl,bR.of (by rw [<- O5];exact hD2),?_⟩;rw [all_true fun b hb=>A3b hb];exact k _ s2
 ·refine ⟨_,rfl,_,rfl,cA ?_⟩;refine ⟨_,rfl,_,_,_,false,rfl,.lst hq,rfl,_,rfl,cA ?_⟩;refine ⟨_,rfl,_,_,_,false,rfl,.lst hq,rfl,_,rfl,cA ?_⟩;refine ⟨_,rfl,_,_,_,true,rfl,.lst hq,rfl,_,rfl,dU ?_⟩;refine ⟨_,rfl,_,_,_,true,rfl,.lst hp,rfl,_,rfl,cA ?_⟩;refine ⟨_,rfl,p,xs,rfl,.inl (bR.of hp),_,rfl,q,ys,rfl,.inl (bR.of hq),rfl,_,rfl,?_⟩;refine VJ (by rw [hl]) ?_;refine ⟨_,rfl,_,rfl,p,q,rfl,⟨_,bR.of hp⟩,⟨_,bR.of hq⟩,fun D hD=>?_⟩;refine pB (n:=xs.length) (fx:=fun i=>xs.getD i .non) (fy:=fun i=>ys.getD i .non) (fun i zs H2=>zs=List.replicate i (V.bl true)/\Same H H2/\H2 D=some (.lst zs)) (fun i zs H2 ⟨_,s2,_⟩=>Ar (bR.of (s2 _ _ hp)) (bR.of (s2 _ _ hq)) hl) ⟨rfl,aO hD _,ao⟩ (fun i zs H2 h=>h.2.2) ?_ ?_
  ·rintro i zs H2 r hir ⟨rfl,s2,hD2⟩ hr2;have nrD:D≠r:=aq hD2 hr2;have e1:xs[i]?=some (xs.getD i .non):=by rw [qQ,jR hir];rfl
   have e2:ys[i]?=some (ys.getD i .non):=by rw [qQ,jR 0x3];rfl
   have s3:Same H (upd H2 r (.tup [xs.getD i .non,ys.getD i .non])):=bU s2 (s2.free hr2);refine ⟨r,_,rfl,bZ.of ao,rfl,_,_,rfl,_,_,rfl,rfl,Kp.set rfl (Kp.set rfl (Kp.refl _)),?_⟩;refine pq ?_;refine ⟨_,rfl,_,rfl,_,_,rfl,(hi i _ _ e1 e2).same s3,fun H4 s4=>⟨s4 _ _ (by rw [aj nrD];exact hD2),?_,?_,bU (s3.trans s4) hD,ao⟩⟩
   ·rw [A1N];exact bQ 0x3
   ·rw [A3x]
  ·rintro zs H2 ⟨rfl,s2,hD2⟩;refine ⟨D,List.replicate xs.length true,rfl,bR.of (by rw [<- O5];exact hD2),?_⟩;rw [all_true fun b hb=>A3b hb];exact k _ s2
theorem yu (F:fu K "_law_same" "_law_same" Bj f fd) (m:MgS mg) (M:Ms K mg "_law_same" f fd A4V):∀ n:Nat,aL P w K mg base bO n f fd A4V (qF n)
 | 0=>⟨fun vs H Q E ⟨x,y,_,h,_⟩=>h.elim,fun A outer s H args us vs Q E _ _ _ _ ⟨x,y,_,h,_⟩=>h.elim⟩
 | n+1=>O6 F m M (yu F m M n)
def jB (H:Hp) (p:Addr) (t b:Int):Prop:=H p=some (.tup [.int t,.int b])
def Bd (e:Nat) (x:Int×Int):Prop:=x.1.natAbs<10 ^ e/\0<x.2/\x.2.natAbs<10 ^ e
theorem Bd.mono {e f:Nat}{x:Int×Int} (h:Bd e x) (he:e<=f):Bd f x:=⟨A0x h.1 (A3y 0x6 he),h.2.1,A0x h.2.2 (A3y 0x6 he)⟩
abbrev Ib:Stmt:=top 12
abbrev Ye:Stmt:=top 23
def KTp (K:PySem.W.Frag) (a:Addr) (xs:List V):Prop:=∃ (o:Obj) (its:Array Value) (n:Nat),K.lookup a=some o/\o.cls=.type "tuple"/\o.data=.seq its n/\its.size<=sizeLine/\Vals xs its.toList
theorem KTp.sq (h:KTp K a xs) (H:Hp):bZ K H a xs:=.inr h
structure Tz (K:PySem.W.Frag) (P:Params) (mg:Str->Option Value):Prop where
 bounds:∃ a b1 b2 b3 b4 b5 b6 b7,mg "BOUNDS"=some (.ref a)/\KD K P a [("day",.ref b1),("acres",.ref b2),("service",.ref b3),("bears",.ref b4),("edge",.ref b5),("number",.ref b6),("entry",.ref b7)]/\KTp K b2 [.int 1,.int 9999]
 crown:∃ t,mg "CROWN"=some (.str "" t)
inductive Ei (vs:List V) (H:Hp) (Q:VK) (cB:XK):Prop
 | mk (n:Int) (_:vs=[.str "acres",.int n]) (_:1<=n) (_:n<=9999) (_:Q (.bl true) H):Ei vs H Q cB
inductive Ie (vs:List V) (H:Hp) (Q:VK) (cB:XK):Prop
 | mk (n:Int) (_:vs=[.int n]) (_:1<=n) (_:n<=9999) (_:Q .non H):Ie vs H Q cB
abbrev lR (v:V):List 0x30:=[(.inr "",v)]
inductive yw (C:Addr) (vs:List V) (H:Hp) (Q:VK) (cB:XK):Prop
 | mk (x dx:Addr) (n:Int) (_:vs=[.ref x,.int n]) (_:H x=some (.ins C dx [])) (_:1<=n) (_:n<=9999) (_:∀ a1 a2 a3 a4 a5 t H',(∀ c o,c≠x->H c=some o->H' c=some o)->cP C H' x dx a1 a2 a3 a4 a5 (lR .non) (lR (.str "")) (lR (.int n)) (lR (.ref t)) (lR (.int n))->Ti a1 a2 a3 a4 a5->H a1=none->H a2=none->H a3=none->H a4=none->H a5=none->H t=none->jB H' t 0 1->Q .non H'):yw C vs H Q cB
theorem iC {k v:Expr}{tk:TE} (hk:PE X k tk) (hv:PE X v tv):PE X (.Dict [some k] [v] pos) (o8 [(tk,tv)]):=by
 refine Hr ?h ?a ?b ?c ?d
 case a=>exact rfl
 case b=>exact rfl
 case c=>exact List.cons_ne_nil _ _
 case d=>exact A1d rfl
 case h=>exact iz hk hv Hq
theorem yx {f:Str}{rest:TS}{D:Ends} (h:tv σ H fun y H1=>ta σ H1 fun x H2=>xH K f { D with nx:=rest D } σ y x H2):Lq (Xh K ta tv f) rest D σ H:=h
theorem Yg {f:Str}{D:Ends} (h:tv σ H fun y H1=>ta σ H1 fun x H2=>xH K f D σ y x H2):Xh K ta tv f D σ H:=h
theorem kI {x:Addr}{o':HO} (h0:H x=some o) (h1:H' x=some o') (f:∀ c o,c≠x->H c=some o->H' c=some o):∀ c,H' c=none->H c=none:=fun c hc=>by
 cases q:H c with
 | none=>rfl
 | some u =>
  by_cases hcx:c=x
  ·rw [hcx,h1] at hc;cases hc
  ·rw [f c u hcx q] at hc;cases hc
theorem pK {k:Str}{Q:VK} (h:∀ p,H p=none->∀ Q':VK,(∀ y H2,H2 p=some (.dK [])->Q (.ref p) (upd H2 p (.dK [(.inr k,y)]))->Q' y H2)->tv σ (upd H p (.dK [])) Q'):o8 [(tC (.str k),tv)] σ H Q:=by
 intro p hp
 show tv σ _ _
 refine h p hp _ fun y H2 e q=>?_;exact ⟨e,[(.inr k,y)],rfl,A1d rfl,q⟩
theorem qG:aP ["sort", "piece", "least", "greatest"] ["sort", "piece"] (aH Ib):=0x0
theorem TF (F:fu K "fits" "fits" Ib f fd) (mo:Tz K w.params mg):aL P w K mg base bO 1 f fd ["sort", "piece"] Ei:=by
 obtain ⟨aB,b1,b2,b3,b4,b5,b6,b7,mB,kB,t2⟩:=mo.bounds;refine F.ok qG 0x1 0x2;obtain ⟨n,rfl,h1,h2,k⟩:=h;refine ⟨_,au (bK (aQ Hs (pv 0) (cQ rfl mB rfl (v:=.ref aB)) 0xE)
   (au (tu (aN Ht (cQ rfl mB rfl (v:=.ref aB)) (pv 0) 0x4) (lC rfl (bT (bf (i:=2) qG.nd rfl 0x8) (bT (bf (i:=3) qG.nd rfl 0x8) gC))))
   (aG (aV (zZ tL tL (pv 2) 0x10 (pv 3))))) aR) dM,?_⟩
 refine ⟨_,rfl,_,aB,_,rfl,rfl,kB,_,rfl,dU ?_⟩;refine ⟨_,rfl,aB,_,_,_,rfl,rfl,kB,rfl,?_⟩;refine ⟨b2,_,rfl,t2.sq _,rfl,_,_,rfl,_,_,rfl,rfl,?_⟩;refine ⟨_,rfl,_,rfl,_,_,rfl,rfl,_,rfl,?_⟩;rw [A0g h1];refine dU ⟨_,rfl,_,_,rfl,rfl,?_⟩
 show Q (.bl (decide (n<=9999))) H
 rw [A0g h2];exact k
theorem a0y:aP ["acres"] ["acres"] (aH Ye):=0x0
theorem Yh (F:fu K "check_acres" "check_acres" Ye f fd)  (G1:aL P w K mg base bO 1 g1 d1 ["sort", "piece"] Ei) (M1:Ms K mg "fits" g1 d1 ["sort", "piece"]):aL P w K mg base bO 2 f fd ["acres"] Ie:=by
 refine F.ok a0y 0x1 0x2;obtain ⟨n,rfl,h1,h2,k⟩:=h;refine ⟨_,aG (bK (iT (dZ (bJ G1 hr rfl M1.m M1.k M1.b .nil bC (ak aK (ak (pv 0) aC))))) dM aR),?_⟩;exact ⟨_,rfl,n,rfl,h1,h2,_,rfl,cA k⟩
theorem Yi:aP A5d A5d (aH Nt):=0x0
theorem TJ (T:gq K C) (F:fu K "__init__" "Land.__init__" Nt f fd) (mo:Tz K w.params mg)  (G1:aL P w K mg base bO 2 g1 d1 ["acres"] Ie) (M1:Ms K mg "check_acres" g1 d1 ["acres"]):aL P w K mg base bO 3 f fd A5d (yw C):=by
 obtain ⟨tc,mC⟩:=mo.crown;refine F.ok Yi 0x1 0x2;obtain ⟨x,dx,n,rfl,hx,h1,h2,k⟩:=h;refine ⟨_,au (bV (bJ G1 hr rfl M1.m M1.k M1.b .nil bC 0x26))
  (au (dO (pv 0) (iC 0x20 lB) rfl)
  (au (dO (pv 0) (iC 0x20 0x20) rfl)
  (au (dO (pv 0) (iC 0x20 0x10) rfl)
  (au (dO (pv 0) (iC 0x20 (cZ (ak aA (ak aA aC)))) rfl)
  (aG (dO (pv 0) (iC 0x20 0x10) rfl)))))),?_⟩
 refine ⟨_,rfl,n,rfl,h1,h2,?_⟩;refine yx (pK (k:="") (tv:=tC .non) fun a1 e1 Q1 k1=>k1 _ _ ao ?_);have n1:x≠a1:=aq hx e1;refine ⟨_,rfl,x,C,dx,_,rfl,by rw [aj n1,aj n1];exact hx,T.cl,T.n1,A0v rfl,?_⟩;generalize hH1:upd _ x _=H1;have x1:H1 x=some (.ins C dx [("lord_of",.ref a1)]):=by rw [<- hH1,ao];rfl
 have p1:H1 a1=some (.dK (lR .non)):=by rw [<- hH1,aj (A0k n1),ao]
 have f1:∀ c o,c≠x->H c=some o->H1 c=some o:=fun c o hc ho=>by rw [<- hH1,aj hc,aj (aq ho e1),aj (aq ho e1)];exact ho
 have z1:∀ c,H1 c=none->H c=none:=kI hx x1 f1;clear hH1;refine yx (pK (k:="") (tv:=tC (.str "")) fun a2 e2 Q2 k2=>k2 _ _ ao ?_);have n2:x≠a2:=aq x1 e2;refine ⟨_,rfl,x,C,dx,_,rfl,by rw [aj n2,aj n2];exact x1,T.cl,T.n2,A0v rfl,?_⟩;generalize hH2:upd _ x _=H2;have x2:H2 x=some (.ins C dx [("lord_of",.ref a1),("holder_of",.ref a2)]):=by rw [<- hH2,ao];rfl
 have p2:H2 a2=some (.dK (lR (.str ""))):=by rw [<- hH2,aj (A0k n2),ao]
 have f2:∀ c o,c≠x->H1 c=some o->H2 c=some o:=fun c o hc ho=>by rw [<- hH2,aj hc,aj (aq ho e2),aj (aq ho e2)];exact ho
 have z2:∀ c,H2 c=none->H1 c=none:=kI x1 x2 f2;clear hH2;refine yx (pK (k:="") (tv:=zT 1) fun a3 e3 Q3 k3=>⟨_,rfl,k3 _ _ ao ?_⟩);have n3:x≠a3:=aq x2 e3;refine ⟨_,rfl,x,C,dx,_,rfl,by rw [aj n3,aj n3];exact x2,T.cl,T.n3,A0v rfl,?_⟩;generalize Le:upd _ x _=H3;have x3:H3 x=some (.ins C dx [("lord_of",.ref a1),("holder_of",.ref a2),("own_of",.ref a3)]):=by rw [<- Le,ao];rfl
 have p3:H3 a3=some (.dK (lR (.int n))):=by rw [<- Le,aj (A0k n3),ao]
 have f3:∀ c o,c≠x->H2 c=some o->H3 c=some o:=fun c o hc ho=>by rw [<- Le,aj hc,aj (aq ho e3),aj (aq ho e3)];exact ho
 have z3:∀ c,H3 c=none->H2 c=none:=kI x2 x3 f3;clear Le;refine yx (pK (k:="") (tv:=Sv (qU (tC (.int 0)) (qU (tC (.int 1)) nP))) fun a4 e4 Q4 k4=>⟨small 0xA,fun t ht=>k4 _ _ (by rw [aj (fun q=>by rw [<- q,ao] at ht;cases ht)];exact ao) ?_⟩);have n4:x≠a4:=aq x3 e4;have t4:t≠a4:=fun q=>by rw [q,ao] at ht;cases ht
 have ht0:H3 t=none:=by rw [aj t4] at ht;exact ht
 have nt:x≠t:=aq x3 ht0;refine ⟨_,rfl,x,C,dx,_,rfl,by rw [aj n4,aj nt,aj n4];exact x3,T.cl,T.n4,A0v rfl,?_⟩;generalize wC:upd _ x _=H4;have x4:H4 x=some (.ins C dx [("lord_of",.ref a1),("holder_of",.ref a2),("own_of",.ref a3),("service_of",.ref a4)]):=by rw [<- wC,ao];rfl
 have p4:H4 a4=some (.dK (lR (.ref t))):=by rw [<- wC,aj (A0k n4),ao]
 have f4:∀ c o,c≠x->H3 c=some o->H4 c=some o:=fun c o hc ho=>by rw [<- wC,aj hc,aj (aq ho e4),aj (aq ho ht0),aj (aq ho e4)];exact ho
 have pt:H4 t=some (.tup [.int 0,.int 1]):=by rw [<- wC,aj (A0k nt),aj t4,ao]
 have z4:∀ c,H4 c=none->H3 c=none:=kI x3 x4 f4;clear wC;refine Yg (pK (k:="") (tv:=zT 1) fun a5 e5 Q5 k5=>⟨_,rfl,k5 _ _ ao ?_⟩);have n5:x≠a5:=aq x4 e5;refine ⟨_,rfl,x,C,dx,_,rfl,by rw [aj n5,aj n5];exact x4,T.cl,T.n5,A0v rfl,?_⟩;generalize TQ:upd _ x _=H5;have x5:H5 x=some (.ins C dx [("lord_of",.ref a1),("holder_of",.ref a2),("own_of",.ref a3),("service_of",.ref a4),("breadth_of",.ref a5)]):=by rw [<- TQ,ao];rfl
 have p5:H5 a5=some (.dK (lR (.int n))):=by rw [<- TQ,aj (A0k n5),ao]
 have f5:∀ c o,c≠x->H4 c=some o->H5 c=some o:=fun c o hc ho=>by rw [<- TQ,aj hc,aj (aq ho e5),aj (aq ho e5)];exact ho
 have z5:∀ c,H5 c=none->H4 c=none:=kI x4 x5 f5;clear TQ;have q15:=f2 _ _ (A0k n1) p1;have q25:=f3 _ _ (A0k n1) q15;have q35:=f4 _ _ (A0k n1) q25;have q45:=f5 _ _ (A0k n1) q35;have r3:=f3 _ _ (A0k n2) p2;have r4:=f4 _ _ (A0k n2) r3;have r5:=f5 _ _ (A0k n2) r4;have s4:=f4 _ _ (A0k n3) p3;have s5:=f5 _ _ (A0k n3) s4;have u5:=f5 _ _ (A0k n4) p4;refine k a1 a2 a3 a4 a5 t _ (fun c o hc ho=>f5 _ _ hc (f4 _ _ hc (f3 _ _ hc (f2 _ _ hc (f1 _ _ hc ho))))) ⟨x5,q45,r5,s5,u5,p5⟩
  ⟨aq p1 e2,aq q15 e3,aq q25 e4,aq q35 e5,aq p2 e3,aq r3 e4,aq r4 e5,aq p3 e4,aq s4 e5,aq p4 e5⟩
  e1 (z1 _ e2) (z1 _ (z2 _ e3)) (z1 _ (z2 _ (z3 _ e4))) (z1 _ (z2 _ (z3 _ (z4 _ e5)))) (z1 _ (z2 _ (z3 _ ht0))) (f5 _ _ (A0k nt) pt)
abbrev Bl:Stmt:=top 52
theorem JW:∃ k1 x1 k2 x2 x3 k4 x4 k5 x5 x6 k7 x7 x8 x9 k10 x10 k11 x11 k12 x12 k13 x13 x14 x15 x16 x17 x18 j0 j1 j2 j3 j4 j5 j6 j7 p0 p1 p2 p3 p4 p5 p6 p7 q q',iw Bl=[.Return (some (.Dict [some (.Constant (.str "lords") j0 p0),some (.Constant (.str "holders") j1 p1),some (.Constant (.str "own") j2 p2),some (.Constant (.str "due") j3 p3),some (.Constant (.str "known") j4 p4),some (.Constant (.str "heirs") j5 p5),some (.Constant (.str "dead") j6 p6),some (.Constant (.str "lieges") j7 p7)] [.Dict [some (.Constant (.str "") k1 x1)] [.Constant .none k2 x2] x3,.Dict [some (.Constant (.str "") k4 x4)] [.Constant (.str "") k5 x5] x6,.Dict [some (.Constant (.str "") k7 x7)] [.Name "_law_acres" x8] x9,.Dict [some (.Constant (.str "") k10 x10)] [.Tuple [.Constant (.int 0) k11 x11,.Constant (.int 1) k12 x12] k13 x13] x14,.List [] x15,.Dict [] [] x16,.List [] x17,.Dict [] [] x18] q)) q']:=⟨_,_,_,_,_,_,_,_,_,_,_,_,_,_,_,_,_,_,_,_,_,_,_,_,_,_,_,_,_,_,_,_,_,_,_,_,_,_,_,_,_,_,_,_,_,rfl⟩
theorem O7 (hv:∀ p,PE X (.Name "_law_acres" p) (zT 0)):CV X (iw Bl) (Sd (o8 [(tC (.str "lords"),o8 [(tC (.str ""),tC .non)]),(tC (.str "holders"),o8 [(tC (.str ""),tC (.str ""))]),(tC (.str "own"),o8 [(tC (.str ""),zT 0)]),(tC (.str "due"),o8 [(tC (.str ""),Sv (qU (tC (.int 0)) (qU (tC (.int 1)) nP)))]),(tC (.str "known"),Xj nP),(tC (.str "heirs"),DP),(tC (.str "dead"),Xj nP),(tC (.str "lieges"),DP)])):=by
 obtain ⟨k1,x1,k2,x2,x3,k4,x4,k5,x5,x6,k7,x7,x8,x9,k10,x10,k11,x11,k12,x12,k13,x13,x14,x15,x16,x17,x18,j0,j1,j2,j3,j4,j5,j6,j7,p0,p1,p2,p3,p4,p5,p6,p7,q,q',h⟩:=JW;rw [h];refine aG ?_;refine aV ?_;refine Hr ?h ?a ?b ?c ?d
 case a=>exact rfl
 case b=>exact rfl
 case c=>exact List.cons_ne_nil _ _
 case d=>exact A1d rfl
 case h =>
  refine iz (X:=X) (aK (X:=X)) ?_ ?_
  ·exact iC (X:=X) (aK (X:=X)) (lB (X:=X))
  refine iz (X:=X) (aK (X:=X)) ?_ ?_
  ·exact iC (X:=X) (aK (X:=X)) (aK (X:=X))
  refine iz (X:=X) (aK (X:=X)) ?_ ?_
  ·exact iC (X:=X) (aK (X:=X)) (hv _)
  refine iz (X:=X) (aK (X:=X)) ?_ ?_
  ·exact iC (X:=X) (aK (X:=X)) (cZ (X:=X) (ak (X:=X) (aA (X:=X)) (ak (X:=X) (aA (X:=X)) (aC (X:=X)))))
  refine iz (X:=X) (aK (X:=X)) ?_ ?_
  ·exact cU (X:=X) (aC (X:=X))
  refine iz (X:=X) (aK (X:=X)) ?_ ?_
  ·exact je (X:=X)
  refine iz (X:=X) (aK (X:=X)) ?_ ?_
  ·exact cU (X:=X) (aC (X:=X))
  refine iz (X:=X) (aK (X:=X)) ?_ ?_
  ·exact je (X:=X)
  exact Hq
theorem jf {a:V}{r:List (TE×TE)}{Q:List (V×V)->Hp->Prop} (h:tv σ H fun y H2=>oG r σ H2 fun ps H3=>Q ((a,y)::ps) H3):oG ((tC a,tv)::r) σ H Q:=h
theorem O8 {Q:List (V×V)->Hp->Prop} (h:Q [] H):oG [] σ H Q:=h
theorem tRD {D:Ends} (h:∀ p,H p=none->oG Lb σ (upd H p (.dK [])) fun ps H2=>H2 p=some (.dK [])/\∃ kvs:List 0x30,ps=kvs.map (fun kv=>(kV kv.1,kv.2))/\kvs.length<=15/\D.rt (.ref p) (upd H2 p (.dK (dF [] kvs)))):Sd (o8 Lb) D σ H:=h
def eF (p1 p2 p3 p4 p5 ph pd p8:Addr):List 0x30:=[(.inr "lords",.ref p1),(.inr "holders",.ref p2),(.inr "own",.ref p3),(.inr "due",.ref p4),(.inr "known",.ref p5),(.inr "heirs",.ref ph),(.inr "dead",.ref pd),(.inr "lieges",.ref p8)]
section
variable {p1 p2 p3 p4 p5 ph pd p8:Addr}
theorem Ej:[(V.str "lords",V.ref p1),(V.str "holders",V.ref p2),(V.str "own",V.ref p3),(V.str "due",V.ref p4),(V.str "known",V.ref p5),(V.str "heirs",V.ref ph),(V.str "dead",V.ref pd),(V.str "lieges",V.ref p8)]=(0x1E).map fun kv=>(kV kv.1,kv.2):=rfl
theorem Ek:bI (dF [] 0x1E) (.inr "lords")=some (.ref p1):=by
 unfold dF eF;simp only [A1h,A2q];rw [bF,A0f 0x1A,bF,A0f 0x1A,bF,A0f 0x1A,bF,A0f 0x1A,bF,A0f 0x1A,bF,A0f 0x1A,bF,A0f 0x1A,bF,A0i rfl]
theorem yC:bI (dF [] 0x1E) (.inr "holders")=some (.ref p2):=by
 unfold dF eF;simp only [A1h,A2q];rw [bF,A0f 0x1A,bF,A0f 0x1A,bF,A0f 0x1A,bF,A0f 0x1A,bF,A0f 0x1A,bF,A0f 0x1A,bF,A0i rfl]
theorem O9:bI (dF [] 0x1E) (.inr "own")=some (.ref p3):=by
 unfold dF eF;simp only [A1h,A2q];rw [bF,A0f 0x1A,bF,A0f 0x1A,bF,A0f 0x1A,bF,A0f 0x1A,bF,A0f 0x1A,bF,A0i rfl]
theorem Oa:bI (dF [] 0x1E) (.inr "due")=some (.ref p4):=by
 unfold dF eF;simp only [A1h,A2q];rw [bF,A0f 0x1A,bF,A0f 0x1A,bF,A0f 0x1A,bF,A0f 0x1A,bF,A0i rfl]
theorem El:bI (dF [] 0x1E) (.inr "known")=some (.ref p5):=by
 unfold dF eF;simp only [A1h,A2q];rw [bF,A0f 0x1A,bF,A0f 0x1A,bF,A0f 0x1A,bF,A0i rfl]
theorem Em:bI (dF [] 0x1E) (.inr "heirs")=some (.ref ph):=by
 unfold dF eF;simp only [A1h,A2q];rw [bF,A0f 0x1A,bF,A0f 0x1A,bF,A0i rfl]
theorem K4:bI (dF [] 0x1E) (.inr "dead")=some (.ref pd):=by
 unfold dF eF;simp only [A1h,A2q];rw [bF,A0f 0x1A,bF,A0i rfl]
theorem Bm:bI (dF [] 0x1E) (.inr "lieges")=some (.ref p8):=by
 unfold dF eF;simp only [A1h,A2q];rw [bF,A0i rfl]
theorem Ob:(dF [] 0x1E).length<=20:=A0M (jN 0x1E []) (show 0+8<=20 by decide)
end
structure fJ (H:Hp) (B l h o d kn dd:Addr) (kvs lo ho ow du:List 0x30) (ks:List Str):Prop where
 b:H B=some 0x13
 vl:bI kvs (.inr "lords")=some (.ref l)
 vh:bI kvs (.inr "holders")=some (.ref h)
 vo:bI kvs (.inr "own")=some (.ref o)
 vd:bI kvs (.inr "due")=some (.ref d)
 vk:bI kvs (.inr "known")=some (.ref kn)
 vx:bI kvs (.inr "dead")=some (.ref dd)
 l:H l=some (.dK lo)
 h:H h=some (.dK ho)
 o:H o=some (.dK ow)
 d:H d=some (.dK du)
 k:H kn=some (.lst (ks.map V.str))
 len:kvs.length<=20
theorem fJ.same {B l h o d kn dd:Addr} (k:fJ H B l h o d kn dd kvs lo ho ow du ks) (s:Same H H'):fJ H' B l h o d kn dd kvs lo ho ow du ks :=
 ⟨s _ _ k.b,k.vl,k.vh,k.vo,k.vd,k.vk,k.vx,s _ _ k.l,s _ _ k.h,s _ _ k.o,s _ _ k.d,s _ _ k.k,k.len⟩
structure BxL (H:Hp) (kvs:List 0x30) (he dd lg:Addr) (hs lv:List 0x30) (ds:List Str):Prop where
 vh:bI kvs (.inr "heirs")=some (.ref he)
 vg:bI kvs (.inr "lieges")=some (.ref lg)
 h:H he=some (.dK hs)
 g:H lg=some (.dK lv)
 x:H dd=some (.lst (ds.map V.str))
theorem BxL.same {lv:List 0x30}{he dd lg:Addr}{ds:List Str} (k:BxL H kvs he dd lg hs lv ds) (s:Same H H'):BxL H' kvs he dd lg hs lv ds:=⟨k.vh,k.vg,s _ _ k.h,s _ _ k.g,s _ _ k.x⟩
inductive yD (vs:List V) (H:Hp) (Q:VK) (cB:XK):Prop
 | mk (n:Int) (_:vs=[.int n]) (_:∀ B l h o d kn dd he lg t kvs H',Same H H'->(∀ a∈[B,l,h,o,d,kn,dd,he,lg,t],H a=none)->[B,l,h,o,d,kn,dd,he,lg].Nodup->fJ H' B l h o d kn dd kvs (lR .non) (lR (.str "")) (lR (.int n)) (lR (.ref t)) []->BxL H' kvs he dd lg [] [] []->jB H' t 0 1->Q (.ref B) H'):yD vs H Q cB
theorem Yj:aP ["_law_acres"] ["_law_acres"] (aH Bl):=0x0
theorem TX (F:fu K "_law_book" "_law_book" Bl f fd):aL P w K mg base bO 1 f fd ["_law_acres"] yD:=by
 refine F.ok Yj 0x1 0x2;obtain ⟨n,rfl,k⟩:=h;refine ⟨Sd (o8 _),@O7 _ ?hv,?y⟩
 case hv=>exact fun p=>pv 0
 refine tRD fun B hB=>?_;have sB:Same H (upd H B (.dK [])):=aO hB _;have kB:(upd H B (.dK [])) B=some (.dK []):=ao;generalize upd H B (.dK [])=H0 at sB kB ⊢;refine jf (pK (k:="") (tv:=tC .non) fun p1 e1 Q1 k1=>k1 _ _ ao ?_);generalize hH1:upd _ p1 (.dK [(.inr "",_)])=H1;have s1:Same H0 H1:=fun c u q=>by rw [<- hH1,aj (aq q e1),aj (aq q e1)];exact q
 have c1:H1 p1=some (.dK (lR .non)):=by rw [<- hH1,ao]
 clear hH1;refine jf (pK (k:="") (tv:=tC (.str "")) fun p2 e2 Q2 k2=>k2 _ _ ao ?_);generalize hH2:upd _ p2 (.dK [(.inr "",_)])=H2;have s2:Same H1 H2:=fun c u q=>by rw [<- hH2,aj (aq q e2),aj (aq q e2)];exact q
 have c2:H2 p2=some (.dK (lR (.str ""))):=by rw [<- hH2,ao]
 clear hH2;refine jf (pK (k:="") (tv:=zT 0) fun p3 e3 Q3 k3=>⟨_,rfl,k3 _ _ ao ?_⟩);generalize Le:upd _ p3 (.dK [(.inr "",_)])=H3;have s3:Same H2 H3:=fun c u q=>by rw [<- Le,aj (aq q e3),aj (aq q e3)];exact q
 have c3:H3 p3=some (.dK (lR (.int n))):=by rw [<- Le,ao]
 clear Le;refine jf (pK (k:="") (tv:=Sv (qU (tC (.int 0)) (qU (tC (.int 1)) nP))) fun p4 e4 Q4 k4=>⟨small 0xA,fun t ht=>k4 _ _ (by rw [aj (fun q=>by rw [<- q,ao] at ht;cases ht)];exact ao) ?_⟩);have t4:t≠p4:=fun q=>by rw [q,ao] at ht;cases ht
 have ht0:H3 t=none:=by rw [aj t4] at ht;exact ht
 generalize wC:upd _ p4 (.dK [(.inr "",_)])=H4;have s4:Same H3 H4:=fun c u q=>by rw [<- wC,aj (aq q e4),aj (aq q ht0),aj (aq q e4)];exact q
 have pt:H4 t=some (.tup [.int 0,.int 1]):=by rw [<- wC,aj t4,ao]
 have c4:H4 p4=some (.dK (lR (.ref t))):=by rw [<- wC,ao]
 clear wC;refine jf ⟨small 0xA,fun p5 e5=>?_⟩
 apply 0o1 H4 p5 e5 s5 c5 H5
 refine jf fun ph eh=>?_
 apply 0o1 H5 ph eh s6 c6 H6
 refine jf ⟨small 0xA,fun pd ed=>?_⟩
 apply 0o1 H6 pd ed s7 c7 H7
 refine jf fun p8 e8=>O8 ?_
 apply 0o1 H7 p8 e8 s8 c8 H8
 have w01:=sB.trans s1;have w02:=w01.trans s2;have w03:=w02.trans s3;have w04:=w03.trans s4;have w06:=(w04.trans s5).trans s6;have w78:=s7.trans s8;have w58:=(s5.trans s6).trans w78;have w48:=s4.trans w58;have w38:=s3.trans w48;have w28:=s2.trans w38;have w08:=sB.trans (s1.trans w28);have kB1:=s1 _ _ kB;have kB2:=s2 _ _ kB1;have kB3:=s3 _ _ kB2;have ZD:=w48 _ _ kB3;have n1:=aq kB e1;have n2:=aq kB1 e2;have n3:=aq kB2 e3;have n4:=aq kB3 e4;have out:∀ c u,c≠B->H8 c=some u->(upd H8 B (.dK (dF [] 0x1E))) c=some u:=fun c u hc q=>by rw [aj hc];exact q
 refine ⟨ZD,eF p1 p2 p3 p4 p5 ph pd p8,Ej,A1d rfl,?_⟩;have d5:=((s6.trans w78)) _ _ c5;have d7:=s8 _ _ c7;have d1:=w28 _ _ c1;have d2:=w38 _ _ c2;have d3:=w48 _ _ c3;have d4:=w58 _ _ c4;have dt:=w58 _ _ pt;have d6:=w78 _ _ c6;have f1:=sB.free e1;have f2:=w01.free e2;have f3:=w02.free e3;have f4:=w03.free e4;have f5:=w04.free e5;have f6:=(w04.trans s5).free eh;have f7:=w06.free ed;have f8:=(w06.trans s7).free e8;have f9:=w03.free ht0;have m1:∀ {a:Addr}{u:HO},H3 a=some u->H7 a=some u:=fun h=>(w58.trans (Same.refl _)) _ _ (s4 _ _ h) |> fun h8=>by
  have:=(s4.trans (s5.trans (s6.trans s7))) _ _ h;exact this
 have nB6:=aq ((s5 _ _ (s4 _ _ kB3))) eh;have nB8:=aq (m1 kB3) e8;refine k B p1 p2 p3 p4 p5 pd ph p8 t _ _ (bU w08 hB) (fun a ha=>?_) ?_
  ⟨ao,Ek,yC,O9,Oa,El,K4,out _ _ (A0k n1) d1,out _ _ (A0k n2) d2,out _ _ (A0k n3) d3,out _ _ (A0k n4) d4,out _ _ (aM d5 ZD 0x16) d5,Ob⟩
  ⟨Em,Bm,out _ _ (A0k nB6) d6,out _ _ (A0k nB8) c8,out _ _ (aM d7 ZD 0x16) d7⟩
  (out _ _ (aM dt ZD 0x16) dt)
 ·simp only [A0d,A0w,A1k] at ha;rcases ha with h | h | h | h | h | h | h | h | h | h <;> (rw [h];assumption)
 ·have x12:=aq c1 e2;have x13:=aq (s2 _ _ c1) e3;have x14:=aq (s3 _ _ (s2 _ _ c1)) e4;have x23:=aq c2 e3;have x24:=aq (s3 _ _ c2) e4;have x34:=aq c3 e4;have l5:=fun {a:Addr}{u:List (Key×V)} (h:H8 a=some (.dK u))=>aM h d5 0x16;have l7:=fun {a:Addr}{u:List (Key×V)} (h:H8 a=some (.dK u))=>aM h d7 0x16;have y57:=aq (s6 _ _ c5) ed;have z6:=fun {a:Addr}{u:HO} (h:H5 a=some u)=>aq h eh;have z8:=fun {a:Addr}{u:HO} (h:H7 a=some u)=>aq h e8;have g34:=s4.trans s5;have g1:=z6 (g34 _ _ (s3 _ _ (s2 _ _ c1)));have g2:=z6 (g34 _ _ (s3 _ _ c2));have g3:=z6 (g34 _ _ c3);have g4:=z6 (s5 _ _ c4);have g5:=z6 c5;have r1:=z8 (m1 (s3 _ _ (s2 _ _ c1)));have r2:=z8 (m1 (s3 _ _ c2));have r3:=z8 (m1 c3);have r4:=z8 ((s5.trans (s6.trans s7)) _ _ c4);have r5:=z8 ((s6.trans s7) _ _ c5);have r6:=z8 (s7 _ _ c6);have r7:=z8 c7;have a1:=l5 d1;have a2:=l5 d2;have a3:=l5 d3;have a4:=l5 d4;have a0:=l5 ZD;have b0:=l7 ZD;have b1:=l7 d1;have b2:=l7 d2;have b3:=l7 d3;have b4:=l7 d4;have b6:=l7 d6;simp only [A0T,A0d,A0w,A1k,A4v,A4b,and_true,A4h];refine ⟨⟨n1,n2,n3,n4,a0,b0,nB6,nB8⟩,⟨x12,x13,x14,a1,b1,g1,r1⟩,⟨x23,x24,a2,b2,g2,r2⟩,⟨x34,a3,b3,g3,r3⟩,⟨a4,b4,g4,r4⟩,⟨y57,g5,r5⟩,⟨A0k b6,r7⟩,r6⟩
end M
namespace L2
open PySem PySem.W PyProof.Rows
def pat (p:Array Nat) (k:Nat):Nat:=p.getD k 0
structure Ord (n:Nat) (lt:Nat->Nat->Bool):Prop where
 tr:∀ i j k,i<n->j<n->k<n->lt i j=true->lt j k=true->lt i k=true
 tot:∀ i j,i<n->j<n->i≠j->lt i j=false->lt j i=true
def ZF (n:Nat) (lt:Nat->Nat->Bool) (cmp:Nat->Nat->(Bool->Shared->Prop)->Shared->Prop) (J:Shared->Prop):Prop :=
 ∀ i j C s,i<n->j<n->i≠j->J s->(∀ s',J s'->C (lt i j) s')->cmp i j C s
def Pm (n:Nat) (p:Array Nat):Prop:=p.Perm (List.range n).toArray
theorem Pm.size {p:Array Nat} (h:Pm n p):p.size=n:=by
 have:=h.size_eq
 simpa using this
theorem Pm.lt {p:Array Nat} (h:Pm n p) {k:Nat} (hk:k<n):pat p k<n:=by
 have hs:=h.size;have hk':k<p.size:=by lia
 have hm:p[k]∈p.toList:=by simp
 have:=(A2T.mp h).mem_iff.mp hm;simp at this;unfold pat;rw [Array.getD,dif_pos hk'];exact this
theorem Pm.ne {p:Array Nat} (h:Pm n p)  (hi:i<n) (hj:j<n) (hij:i≠j):pat p i≠pat p j:=by
 have hs:=h.size;have hi':i<p.size:=by lia
 have hj':j<p.size:=by lia
 have nd:p.toList.Nodup:=(A2T.mp h).nodup_iff.mpr (by simpa using List.nodup_range);unfold pat;rw [Array.getD,dif_pos hi',Array.getD,dif_pos hj'];intro e;have pw:=A1q.mp nd;rcases Nat.lt_or_gt_of_ne hij with h1 | h1
 ·exact pw i j (by simpa using hi') (by simpa using hj') h1 (by simpa using e)
 ·exact pw j i (by simpa using hj') (by simpa using hi') h1 (by simpa using e.symm)
theorem uq {p q:Array Nat} (h:p[i]?=q[j]?):pat p i=pat q j:=by
 unfold pat;rw [A3S,A3S,h]
def Up (lt:Nat->Nat->Bool) (p:Array Nat) (m:Nat):Prop:=∀ i j,i<j->j<m->lt (pat p i) (pat p j)=true
def Down (lt:Nat->Nat->Bool) (p:Array Nat) (m:Nat):Prop:=∀ i j,i<j->j<m->lt (pat p j) (pat p i)=true
section
variable {lt:Nat->Nat->Bool}{cmp:Nat->Nat->(Bool->Shared->Prop)->Shared->Prop}{J:Shared->Prop}{p:Array Nat}
theorem Up.snoc (O:Ord n lt) (P:Pm n p) {m:Nat} (h1:1<=m) (hm:m<n) (h:Up lt p m) (hl:lt (pat p (m - 1)) (pat p m)=true):Up lt p (m+1):=by
 intro i j hij hj
 by_cases e:j=m
 ·subst e
  by_cases e2:i=j - 1
  ·subst e2;exact hl
  ·exact O.tr _ _ _ (P.lt 0x3) (P.lt 0x3) (P.lt 0x3) (h i (j - 1) 0x3 0x3) hl
 ·exact h i j hij 0x3
theorem Down.snoc (O:Ord n lt) (P:Pm n p) {m:Nat} (h1:1<=m) (hm:m<n) (h:Down lt p m) (hl:lt (pat p m) (pat p (m - 1))=true):Down lt p (m+1):=by
 intro i j hij hj
 by_cases e:j=m
 ·subst e
  by_cases e2:i=j - 1
  ·subst e2;exact hl
  ·exact O.tr _ _ _ (P.lt 0x3) (P.lt 0x3) (P.lt 0x3) hl (h i (j - 1) 0x3 0x3)
 ·exact h i j hij 0x3
theorem En (O:Ord n lt) (hc:ZF n lt cmp J) (P:Pm n p) {G:Nat->Shared->Prop}:∀ (f m:Nat) (s:Shared),1<=m->m+f<=n->Up lt p m->J s ->
  (∀ r s',m<=r->r<=m+f->Up lt p r->(r<m+f->lt (pat p r) (pat p (r - 1))=true)->J s'->G r s')->(kas_asc p f m).kasWp cmp G s
 | 0,m,s,h1,hf,hU,hJ,k=>k m s (A0h _) (A0h _) hU (fun h=>absurd h (A1U _)) hJ
 | f+1,m,s,h1,hf,hU,hJ,k=>by
  show cmp (p.getD m 0) (p.getD (m - 1) 0) _ s
  refine hc _ _ _ s (P.lt (k:=m) 0x3) (P.lt (k:=m - 1) 0x3) (P.ne 0x3 0x3 0x3) hJ fun s' hJ'=>?_
  show KasT.kasWp cmp (if lt (pat p m) (pat p (m - 1))=true then .ret m else kas_asc p f (m+1)) G s'
  cases e:lt (pat p m) (pat p (m - 1)) with
  | true =>
   rw [A0i rfl];exact k m s' (A0h _) 0x3 hU (fun _=>e) hJ'
  | false =>
   rw [A0f A0p];have hl:=O.tot _ _ (P.lt (k:=m) 0x3) (P.lt (k:=m - 1) 0x3) (P.ne 0x3 0x3 0x3) e;exact En O hc P f (m+1) s' 0x3 0x3 (hU.snoc O P h1 0x3 hl) hJ' fun r s'' a b c d e'=>k r s'' 0x3 0x3 c (fun h=>d 0x3) e'
theorem Ig (O:Ord n lt) (hc:ZF n lt cmp J) (P:Pm n p) {G:Array Nat×Nat×Nat->Shared->Prop}:∀ (f m:Nat) (s:Shared),1<=m->m+f<=n->Down lt p m->J s ->
  (∀ r s',m<=r->r<=m+f->Down lt p r->J s'->G (p,r,0) s')->(kas_desc f p m 0).kasWp cmp G s
 | 0,m,s,h1,hf,hU,hJ,k=>k m s (A0h _) (A0h _) hU hJ
 | f+1,m,s,h1,hf,hU,hJ,k=>by
  show cmp (p.getD m 0) (p.getD (m - 1) 0) _ s
  refine hc _ _ _ s (P.lt (k:=m) 0x3) (P.lt (k:=m - 1) 0x3) (P.ne 0x3 0x3 0x3) hJ fun s' hJ'=>?_;cases e:lt (pat p m) (pat p (m - 1)) with
  | true =>
   have e':lt (p.getD m 0) (p.getD (m - 1) 0)=true:=e;rw [e'];dsimp only;rw [A0i rfl,A0f (A1U 0)];exact Ig O hc P f (m+1) s' 0x3 0x3 (hU.snoc O P h1 0x3 e) hJ' fun r s'' a b c d=>k r s'' 0x3 0x3 c d
  | false =>
   have e':lt (p.getD m 0) (p.getD (m - 1) 0)=false:=e;rw [e'];dsimp only;rw [A0f A0p];have hl:=O.tot _ _ (P.lt (k:=m) 0x3) (P.lt (k:=m - 1) 0x3) (P.ne 0x3 0x3 0x3) e;refine hc _ _ _ s' (P.lt (k:=m - 1) 0x3) (P.lt (k:=m) 0x3) (P.ne 0x3 0x3 0x3) hJ' fun s'' Yk=>?_;have hl':lt (p.getD (m - 1) 0) (p.getD m 0)=true:=hl;rw [hl'];dsimp only;rw [A0i rfl];exact k m s'' (A0h _) 0x3 hU Yk
theorem Oc (P:Pm n p) (i j:Nat):Pm n (kas_rev p i j):=(mirror_perm p i j _).trans P
theorem Od (P:Pm n p) {r:Nat} (hr:r<=n) (k:Nat):pat (kas_rev p 0 r) k=if k<r then pat p (r - 1 - k) else pat p k:=by
 have h:=getElem?_mirror_all (xs:=p) (i:=0) (j:=r) (by rw [P.size];exact hr) k
 by_cases hk:k<r
 ·rw [A0i hk];rw [A0i ⟨A1f _,hk⟩,Nat.zero_add] at h;exact uq h
 ·rw [A0f hk];rw [A0f (fun z=>hk z.2)] at h;exact uq h
theorem Yl (P:Pm n p) {r:Nat} (hr:r<=n) (h:Down lt p r):Up lt (kas_rev p 0 r) r:=by
 intro i j hij hj;rw [Od P hr,Od P hr,A0i 0x3,A0i hj];exact h _ _ 0x3 0x3
def TY (n:Nat) (lt:Nat->Nat->Bool) (J:Shared->Prop) (G:Nat×Array Nat->Shared->Prop):Prop:=∀ q p' s',Pm n p'->1<=q->q<=n->Up lt p' q->J s'->G (q,p') s'
theorem Oe (O:Ord n lt) (hc:ZF n lt cmp J) (P:Pm n p) (h2:2<=n) {G:Nat×Array Nat->Shared->Prop} (hJ:J s) (k:TY n lt J G):(kas_count n p).kasWp cmp G s:=by
 unfold kas_count;rw [KasT.kasWp_bind];refine En O hc P (n - 1) 1 s (A0h _) 0x3 (fun i j hij hj=>by lia) hJ fun r s' h1 hr hU hstop hJ'=>?_
 by_cases e:r=n
 ·subst e;rw [A0i 0xA];exact k r p s' P h1 (A0h _) hU hJ'
 ·rw [A0f (by simpa using e)]
  by_cases e1:r > 1
  ·rw [A0i e1];refine hc _ _ _ s' (P.lt (k:=0) 0x3) (P.lt (k:=r - 1) 0x3) (P.ne 0x3 0x3 0x3) hJ' fun s'' Yk=>?_;have hl:lt (p.getD 0 0) (p.getD (r - 1) 0)=true:=hU 0 (r - 1) 0x3 0x3;rw [hl];dsimp only;rw [A0i rfl];exact k r p s'' P h1 0x3 hU Yk
  ·rw [A0f e1];have er:r=1:=by lia
   subst er;have h0:=hstop 0x3;unfold kas_descPart;rw [KasT.kasWp_bind];refine Ig O hc P (n - (1+1)) (1+1) s' 0x3 0x3 (fun i j hij hj=>?_) hJ' fun r s'' a b c d=>?_
   ·have ei:i=0:=by lia
    have ej:j=1:=by lia
    subst ei ej;exact h0
   ·rw [A0f (A1U 0)];unfold kas_tail3;rw [KasT.kasWp_bind];refine En O hc (Oc P 0 r) (n - r) r s'' 0x3 0x3 (Yl P 0x3 c) d fun q s3 h3 h4 h5 _ h6=>?_;exact k q _ s3 (Oc P 0 r) 0x3 0x3 h5 h6
theorem ur (O:Ord n lt) (hc:ZF n lt cmp J) (P:Pm n p) {k:Nat} (hk:k<n) (hU:Up lt p k) {G:Nat->Shared->Prop}:∀ (f l r:Nat) (s:Shared),r - l<=f->l<=r->r<=k->(∀ i,i<l->lt (pat p i) (pat p k)=true)->(∀ i,r<=i->i<k->lt (pat p k) (pat p i)=true)->J s ->
  (∀ l' s',l'<=k->(∀ i,i<l'->lt (pat p i) (pat p k)=true)->(∀ i,l'<=i->i<k->lt (pat p k) (pat p i)=true)->J s'->G l' s')->(kas_place p k f l r).kasWp cmp G s
 | 0,l,r,s,h0,h1,h2,hlo,hhi,hJ,w=>w l s 0x3 hlo (fun i hi=>hhi i 0x3) hJ
 | f+1,l,r,s,h0,h1,h2,hlo,hhi,hJ,w=>by
  unfold kas_place
  by_cases e:l>=r
  ·rw [A0i e];exact w l s 0x3 hlo (fun i hi=>hhi i 0x3) hJ
  ·rw [A0f e];have hm1:l<=(l+r) / 2:=by lia
   have hm2:(l+r) / 2<r:=by lia
   generalize hmd:(l+r) / 2=md at hm1 hm2;refine hc _ _ _ s (P.lt (k:=k) hk) (P.lt (k:=md) 0x3) (P.ne hk 0x3 0x3) hJ fun s' hJ'=>?_;cases c:lt (pat p k) (pat p md) with
   | true =>
    have c':lt (p.getD k 0) (p.getD md 0)=true:=c;rw [c'];dsimp only;rw [A0i rfl];refine ur O hc P hk hU f l md s' 0x3 hm1 0x3 hlo (fun i hi hik=>?_) hJ' w
    by_cases ei:i=md
    ·subst ei;exact c
    ·exact O.tr _ _ _ (P.lt hk) (P.lt 0x3) (P.lt 0x3) c (hU md i 0x3 hik)
   | false =>
    have c':lt (p.getD k 0) (p.getD md 0)=false:=c;rw [c'];dsimp only;rw [A0f A0p];have hl:=O.tot _ _ (P.lt hk) (P.lt (k:=md) 0x3) (P.ne hk 0x3 0x3) c;refine ur O hc P hk hU f (md+1) r s' 0x3 0x3 h2 (fun i hi=>?_) hhi hJ' w
    by_cases ei:i=md
    ·subst ei;exact hl
    ·exact O.tr _ _ _ (P.lt 0x3) (P.lt 0x3) (P.lt hk) (hU i md 0x3 0x3) hl
theorem Og (P:Pm n p) {k l:Nat} (hk:k<n) (hl:l<=k) (i:Nat):pat (bubble p k (k - l)) i=if i=l then pat p k else if l<i/\i<=k then pat p (i - 1) else pat p i:=by
 have h:=getElem?_bubble (xs:=p) (src:=k) (by rw [P.size];exact hk) (k - l) 0x3 i;rw [show k - (k - l)=l by lia] at h
 by_cases e:i=l
 ·rw [A0i e] at h ⊢;exact uq h
 ·rw [A0f e] at h ⊢
  by_cases e2:l<i/\i<=k
  ·rw [A0i e2] at h ⊢;exact uq h
  ·rw [A0f e2] at h ⊢;exact uq h
theorem Oh (O:Ord n lt) (hc:ZF n lt cmp J) {G:Array Nat->Shared->Prop}:∀ (f k:Nat) (p:Array Nat) (s:Shared),k+f=n->Pm n p->Up lt p k->J s->(∀ p' s',Pm n p'->Up lt p' n->J s'->G p' s')->(kas_bin f p k).kasWp cmp G s
 | 0,k,p,s,hk,P,hU,hJ,w=>by
  have:k=n:=by lia
  subst this;exact w p s P hU hJ
 | f+1,k,p,s,hk,P,hU,hJ,w=>by
  unfold kas_bin;rw [KasT.kasWp_bind];refine ur O hc P 0x3 hU k 0 k s 0x3 (A1f _) (A0h _) (fun i hi=>absurd hi (A4y _)) (fun i h1 h2=>by lia) hJ fun l s' hl hlo hhi hJ'=>?_;refine Oh O hc f (k+1) _ s' 0x3 ((bubble_perm p k _).trans P) (fun i j hij hj=>?_) hJ' w;rw [Og P 0x3 hl,Og P 0x3 hl]
  by_cases a1:i=l
  ·rw [A0i a1,A0f 0x3,A0i 0x3];exact hhi _ 0x3 0x3
  ·rw [A0f a1]
   by_cases a2:l<i
   ·rw [A0i 0x3,A0f 0x3,A0i 0x3];exact hU _ _ 0x3 0x3
   ·rw [A0f 0x3]
    by_cases a3:j=l
    ·rw [A0i a3];exact hlo i 0x3
    ·rw [A0f a3]
     by_cases a4:l<j
     ·rw [A0i 0x3]
      by_cases a5:i=j - 1
      ·lia
      ·exact hU _ _ 0x3 0x3
     ·rw [A0f 0x3];exact hU _ _ hij 0x3
theorem U0 (O:Ord n lt) (hc:ZF n lt cmp J) (h2:2<=n) {G:Array Nat->Shared->Prop} (hJ:J s) (w:∀ p' s',Pm n p'->Up lt p' n->J s'->G p' s'):(kas_sort n).kasWp cmp G s:=by
 unfold kas_sort;rw [KasT.kasWp_bind];refine Oe O hc (Array.Perm.refl _) h2 hJ fun q p' s' P h1 hq hU hJ'=>?_
 by_cases e:q<n
 ·rw [A0i e,show max q 1=q by lia]
  exact Oh O hc (n - q) q p' s' 0x3 P hU hJ' w
 ·rw [A0f e];have:q=n:=by lia
  subst this;exact w p' s' P hU hJ'
end
section
variable {lt:Nat->Nat->Bool}{κ:SortKind}
theorem K5 (vs:List Value):((List.range vs.length).toArray.toList.map fun i=>vs.getD i Value.none)=vs:=by
 apply List.ext_getElem
 ·simp
 ·intro i h1 h2;simp only [A4q,List.getElem_range];rw [qQ,jR h2];rfl
end
open PySem.Calls
section
variable {M:Model}
end
structure SetRaw (w:World) (h:Heap) (a:Addr) (es:Array (Int×Value)) (ep:Nat) (t:SetTable):Prop where
 o:∃ o,h.get? a=some o/\o.ExactSet/\o.data=.set es ep t
 fits:t.fits es.size=true
 small:es.size<scanBound
 led:w.params.followText "set-order"=false->t.led=true
 plain:1<es.size->t.plain=false
open PySem.Spec
theorem a0z (I:Inv X pins σ H s) (e:H a=some 0x13):kvs.length<=sizeLine/\(a==sysModules)=false/\∃ vs ep,KV kvs vs/\s.heap.DictAt (bY X.prog X.w) a vs ep:=by
 obtain ⟨z,hs,vs,rel,o,es,ep,r⟩:=nZ I.hok e;exact ⟨z,hs,vs,ep,rel,o,es,r⟩
inductive Oi (xs:List V) (H:Hp) (Q:VK):Prop
 | mk (a:Addr) (kvs:List 0x22) (_:xs=[.ref a]) (_:H a=some 0x13) (_:∀ p,H p=none->Q (.ref p) (upd H p 0x13)):Oi xs H Q
theorem jy:jj X (.type "dict") Oi:=by
 intro pins s σ H xs us Q I r h;obtain ⟨a,kvs,rfl,ha,q⟩:=h;obtain ⟨u,rfl,ru⟩:=vals1 r;cases ru;obtain ⟨z,hs,vs,rel,dd⟩:=nZ I.hok ha;have hlen:vs.length=kvs.length:=rel.length.symm;have low:(s.heap.objs.size==sysModules)=false:=by
  obtain ⟨m,F⟩:=I.fr;have h1:sysModules<X.base.objs.size:=modules_low I.mod.nolimit;have h2:X.base.objs.size<=X.env.locals:=F.above;have h3:X.env.locals<s.heap.objs.size:=F.ns.lt;exact A1v.mpr (A3P (Nat.lt_trans (A0x h1 h2) h3))
 refine kt_call_dict (knd:=bY X.prog X.w) hs dd 0x3 fun h' hd hb=>?_;exact ⟨.ref s.heap.objs.size,_,I.laid (o:=.dK kvs) (t':=s.toks) (fun b o e=>hb.extBut _ _ (A0S (A0I e)) (A0c _ e)) (A0h _) ⟨z,low,vs,rel,hd⟩,rfl,q _ (I.hok.fresh (A0h _))⟩
section
variable {R:Result->Shared->Prop}{I:Addr}{wr:List Addr}{G:Array GenState->Array GenState->Prop}{P:Nat->Value->Prop}{St:Nat->Shared->Prop}
end
end L2
namespace PySem
end PySem
namespace L2
open PySem PySem.Spec PyProof.Rows PySem.W
section
variable {o:Obj}
end
section
variable {elt:Expr}{ifs:List Expr}{ts fr:List Str}
end
end L2
namespace M
open PySem L2
structure aU where
 n:Str
 lord:Option Str
 man:Str
 own:Int
 br:Int
 due:Int×Int
 ta:Addr
 tb:Addr
def mY:Option Str->V
 | none=>.non
 | some p=>.str p
theorem wD {o:Option Str}:mY o=.str p↔o=some p:=by
 cases o with
 | none=>exact ⟨fun h=>(by cases h),fun h=>(by cases h)⟩
 | some q=>exact ⟨fun h=>(by injection h with e;rw [e]),fun h=>(by injection h with e;rw [e];rfl)⟩
abbrev kv (f:aU->V) (es:List aU):List 0x30:=es.map fun e=>(Sum.inr e.n,f e)
abbrev nms (es:List aU):List Str:=es.map (·.n)
abbrev lG (es:List aU):=kv (fun e=>mY e.lord) es
abbrev hoL (es:List aU):=kv (fun e=>V.str e.man) es
abbrev lX (es:List aU):=kv (fun e=>V.int e.own) es
abbrev RZ (es:List aU):=kv (fun e=>V.int e.br) es
abbrev U3 (es:List aU):=kv (fun e=>V.ref e.ta) es
abbrev yE (es:List aU):=kv (fun e=>V.ref e.tb) es
theorem key_eq {a b:Str}:(Sum.inr a:Key)=.inr b↔a=b:=⟨fun h=>by injection h,fun h=>by rw [h]⟩
theorem pL {f:aU->V}{n:Str}:∀ {es:List aU},n∉nms es->bI (kv f es) 0x2C=none
 | [],_=>rfl
 | x::r,h=>by
  have h1:x.n≠n:=fun q=>h (by rw [<- q];exact A0o)
  show bI ((Sum.inr x.n,f x)::kv f r) _=none
  rw [dR (fun q=>h1 (key_eq.mp q))];exact pL fun q=>h (jT _ q)
theorem eG {f:aU->V}{e:aU}:∀ {es:List aU},(nms es).Nodup->e∈es->bI (kv f es) (.inr e.n)=some (f e)
 | [],_,h=>by cases h
 | x::r,nd,h=>by
  show bI ((Sum.inr x.n,f x)::kv f r) _=_
  have nd':=A0T.mp nd;rcases A0d.mp h with q | q
  ·subst q;exact eY rfl
  ·have ne:x.n≠e.n:=fun z=>nd'.1 (by show x.n∈nms r;rw [z];exact A0e.mpr ⟨e,q,rfl⟩)
   rw [dR (fun z=>ne (key_eq.mp z))];exact eG nd'.2 q
theorem fP {es:List aU}{n:Str} (h:n∈nms es):∃ e∈es,e.n=n:=by
 obtain ⟨e,he,q⟩:=A0e.mp h;exact ⟨e,he,q⟩
theorem kJ {f:aU->V}{es:List aU} (n:Str):(bI (kv f es) 0x2C).isSome=decide (n∈nms es):=by
 by_cases h:n∈nms es
 ·rw [A0g h]
  induction es with
  | nil=>cases h
  | cons x r ih =>
   show (bI ((Sum.inr x.n,f x)::kv f r) _).isSome=true
   by_cases q:x.n=n
   ·rw [eY (key_eq.mpr q)];rfl
   ·rw [dR (fun z=>q (key_eq.mp z))];refine ih ?_;rcases A0d.mp h with z | z
    ·exact absurd z.symm q
    ·exact z
 ·rw [A0n h,pL h];rfl
theorem gw {f g:aU->V}{es:List aU} (h:∀ e∈es,f e=g e):kv f es=kv g es:=A1K fun e he=>by rw [h e he]
theorem Oj {f:aU->V}{n:Str} (es:List aU):((kv f es).any fun x=>decide (x.1=Sum.inr n))=decide (n∈nms es):=by rw [jY,kJ]
theorem uw {f:aU->V}{es:List aU}{n:Str} (h:n∈nms es):putK (kv f es) 0x2C v=kv (fun e=>if e.n=n then v else f e) es:=by
 unfold putK;rw [Oj,A0g h,A0i rfl]
 show (es.map _).map _=_
 rw [A0Z];refine A1K fun e _=>?_
 show (if (Sum.inr e.n:Key)=.inr n then (Sum.inr e.n,v) else (Sum.inr e.n,f e))=(Sum.inr e.n,if e.n=n then v else f e)
 by_cases q:e.n=n
 ·rw [A0i (key_eq.mpr q),A0i q]
 ·rw [A0f (fun z=>q (key_eq.mp z)),A0f q]
theorem yF {f:aU->V}{es:List aU}{n:Str} (h:n∉nms es):putK (kv f es) 0x2C v=kv f es++[(.inr n,v)]:=Nh v (pL h)
theorem lH {f:aU->V}{es:List aU}{n:Str}:jd (kv f es) 0x2C=kv f (es.filter fun e=>decide (e.n≠n)):=by
 unfold jd;rw [A3e]
 congr 1
 refine A2f fun e _=>?_
 show decide ((Sum.inr e.n:Key)≠.inr n)=decide (e.n≠n)
 exact A3t.mpr ⟨fun h q=>h (key_eq.mpr q),fun h q=>h (key_eq.mp q)⟩
theorem jh {f:aU->V}{g:aU->aU}{es:List aU} (hg:∀ e,(g e).n=e.n):kv f (es.map g)=kv (fun e=>f (g e)) es:=by
 show (es.map g).map _=_
 rw [A0Z];refine A1K fun e _=>?_
 show (Sum.inr (g e).n,f (g e))=_
 rw [hg]
theorem Ym {f:aU->V}{es:List aU}{x:aU}:kv f (es++[x])=kv f es++[(.inr x.n,f x)]:=iZ
theorem jz {f:aU->V}{es:List aU}:(kv f es).length=es.length:=cg _
theorem Bo {f:aU->V}{es:List aU}:∀ (ss:List Str) ,(∀ s∈ss,s∈nms es)->moved (kv f es) ss p=kv (fun e=>if e.n∈ss then V.str p else f e) es:=by
 intro ss;unfold moved
 induction ss generalizing f with
 | nil=>intro _;exact gw fun e _=>by rw [A0f 0xA]
 | cons s r ih =>
  intro h;rw [A1h,uw (h s A0o),ih fun x hx=>h x (jT _ hx)];refine gw fun e _=>?_
  by_cases q:e.n∈r
  ·rw [A0i q,A0i (jT _ q)]
  ·rw [A0f q]
   by_cases z:e.n=s
   ·rw [A0i z,A0i (by rw [z];exact A0o)]
   ·rw [A0f z,A0f];intro c;rcases A0d.mp c with y | y
    ·exact z y
    ·exact q y
theorem yG {f:aU->V} (p:Key×V->Bool) (es:List aU):((kv f es).filter p).map lF=(es.filter fun e=>p (.inr e.n,f e)).map (·.n):=by
 rw [A3e,A0Z];rfl
theorem Ol {f:aU->V}{es:List aU}:TK (kv f es):=fun x hx=>by
 obtain ⟨e,he,rfl⟩:=A0e.mp hx;rfl
theorem a0A {es:List aU}:TV (lG es):=fun x hx=>by
 obtain ⟨e,he,rfl⟩:=A0e.mp hx
 show mY e.lord=.non\/∃ s,mY e.lord=.str s
 cases e.lord with
 | none=>exact .inl rfl
 | some p=>exact .inr ⟨p,rfl⟩
theorem Wh {es:List aU}:TV (hoL es):=fun x hx=>by
 obtain ⟨e,he,rfl⟩:=A0e.mp hx;exact .inr ⟨_,rfl⟩
def Ord:List Str->List aU->Prop
 | _,[]=>True
 | seen,e::r=>(∃ p,e.lord=some p/\p∈seen)/\Ord (e.n::seen) r
theorem Ord.snoc:∀ {r:List aU}{s:List Str}{x:aU}{p:Str},Ord s r->x.lord=some p->(p∈s\/p∈nms r)->Ord s (r++[x])
 | [],s,x,p,_,hx,h=>⟨⟨p,hx,h.elim id fun q=>by cases q⟩,True.intro⟩
 | e::r,s,x,p,⟨h1,h2⟩,hx,h=>⟨h1,Ord.snoc (r:=r) h2 hx (by
   rcases h with q | q
   ·exact .inl (jT _ q)
   ·rcases A0d.mp q with z | z
    ·exact .inl (by rw [z];exact A0o)
    ·exact .inr z)⟩
theorem Ord.map {g:aU->aU} (h1:∀ e,(g e).n=e.n) (h2:∀ e,(g e).lord=e.lord):∀ {r:List aU}{s:List Str},Ord s r->Ord s (r.map g)
 | [],_,_=>True.intro
 | e::r,s,⟨⟨p,hp,hs⟩,ho⟩=>⟨⟨p,by rw [h2,hp],hs⟩,by rw [h1];exact Ord.map h1 h2 ho⟩
theorem Ord.lord:∀ {r:List aU}{s:List Str},Ord s r->∀ e∈r,∃ p,e.lord=some p/\(p∈s\/p∈nms r)
 | e::r,s,⟨⟨p,hp,hs⟩,ho⟩,x,hx=>by
  rcases A0d.mp hx with q | q
  ·subst q;exact ⟨p,hp,.inl hs⟩
  ·obtain ⟨p',h1,h2⟩:=Ord.lord ho x q;refine ⟨p',h1,?_⟩;rcases h2 with z | z
   ·rcases A0d.mp z with y | y
    ·exact .inr (by rw [y];exact A0o)
    ·exact .inl y
   ·exact .inr (jT _ z)
def Bp (e p:Str) (a:Int) (y:aU):aU:={ y with lord:=if y.lord=some e then some p else y.lord,own:=if y.n=p then y.own+a else y.own }
theorem Ord.fall {e:Str}{a:Int}:∀ {r:List aU}{s t:List Str},Ord s r->(∀ x∈r,x.n=e->x.lord=some p)->(∀ x∈s,x≠e->x∈t)->(e∈s->p∈t)->p≠e->Ord t ((r.filter fun y=>decide (y.n≠e)).map (Bp e p a))
 | [],_,_,_,_,_,_,_=>True.intro
 | y::r,s,t,⟨⟨q,hq,hs⟩,ho⟩,hl,h1,h2,hp=>by
  have tl:∀ x∈r,x.n=e->x.lord=some p:=fun x hx=>hl x (jT _ hx)
  by_cases c:y.n=e
  ·rw [A1j 0x2B];have hy:=hl y A0o c;refine Ord.fall (s:=y.n::s) (t:=t) ho tl (fun x hx hne=>?_) (fun _=>?_) hp
   ·rcases A0d.mp hx with z | z
    ·exact absurd (z.trans c) hne
    ·exact h1 x z hne
   ·rw [hq] at hy;injection hy with hy;exact h1 p (hy ▸ hs) hp
  ·rw [A0Y 0x2B,A0m];refine ⟨?_,Ord.fall (s:=y.n::s) (t:=y.n::t) ho tl (fun x hx hne=>?_) (fun hx=>?_) hp⟩
   ·show ∃ p',(if y.lord=some e then some p else y.lord)=some p'/\p'∈t
    by_cases z:y.lord=some e
    ·rw [hq] at z;injection z with z;exact ⟨p,by rw [A0i (by rw [hq,z])],h2 (z ▸ hs)⟩
    ·have:q≠e:=fun w=>z (by rw [hq,w]);exact ⟨q,by rw [A0f z,hq],h1 q hs this⟩
   ·rcases A0d.mp hx with z | z
    ·rw [z];exact A0o
    ·exact jT _ (h1 x z hne)
   ·rcases A0d.mp hx with z | z
    ·exact absurd z.symm c
    ·exact jT _ (h2 z)
theorem pN {F G:aU->Int}{es:List aU} (h:∀ y∈es,G y=F y):(es.map G).sum=(es.map F).sum:=by rw [A1K h]
theorem rT {F G:aU->Int}{e0:aU}:∀ {es:List aU},(nms es).Nodup->e0∈es->(∀ y∈es,y.n≠e0.n->G y=F y)->(es.map G).sum=(es.map F).sum - F e0+G e0
 | [],_,h,_=>by cases h
 | x::r,nd,h,hg=>by
  have nd':=A0T.mp nd;simp only [A0m,A2y];rcases A0d.mp h with q | q
  ·subst q;rw [pN (F:=F) (G:=G) (es:=r) fun y hy=>hg y (jT _ hy) fun z=>nd'.1 (show e0.n∈nms r by rw [<- z];exact A0e.mpr ⟨y,hy,rfl⟩)]
   lia
  ·have ne:x.n≠e0.n:=fun z=>nd'.1 (show x.n∈nms r by rw [z];exact A0e.mpr ⟨e0,q,rfl⟩)
   rw [hg x A0o ne,rT nd'.2 q fun y hy=>hg y (jT _ hy)];lia
theorem ux {F:aU->Int}{e0:aU}:∀ {es:List aU},(nms es).Nodup->e0∈es->((0xD).map F).sum=(es.map F).sum - F e0
 | [],_,h=>by cases h
 | x::r,nd,h=>by
  have nd':=A0T.mp nd;rcases A0d.mp h with q | q
  ·subst q;have:(r.filter fun y=>decide (y.n≠e0.n))=r:=A3O.mpr fun y hy=>by
    refine A0g fun z=>nd'.1 (show e0.n∈nms r by rw [<- z];exact A0e.mpr ⟨y,hy,rfl⟩)
   rw [A1j 0xA,this,A0m,A2y];lia
  ·have ne:x.n≠e0.n:=fun z=>nd'.1 (show x.n∈nms r by rw [z];exact A0e.mpr ⟨e0,q,rfl⟩)
   rw [A0Y (by simpa using ne),A0m,A0m,A2y,A2y,ux nd'.2 q];lia
theorem sum_add {F G:aU->Int}:∀ (es:List aU),(es.map fun y=>F y+G y).sum=(es.map F).sum+(es.map G).sum
 | []=>rfl
 | x::r=>by simp only [A0m,A2y,sum_add r];lia
theorem uy {F:aU->Int}:∀ {es:List aU},(∀ y∈es,F y=0)->(es.map F).sum=0
 | [],_=>rfl
 | x::r,h=>by rw [A0m,A2y,h x A0o,uy fun y hy=>h y (jT _ hy)];rfl
theorem Om {F:aU->Int}:∀ {es:List aU},(∀ y∈es,0<=F y)->0<=(es.map F).sum
 | [],_=>Int.le_refl _
 | x::r,h=>by
  rw [A0m,A2y];have h1:=h x A0o;have h2:=Om (F:=F) (es:=r) fun y hy=>h y (jT _ hy);lia
def Sb (es:List aU) (q:Str):Int:=(es.map fun y=>if y.lord=some q then y.br else 0).sum
structure WF (es:List aU):Prop where
 nd:(nms es).Nodup
 hd:∃ c r,es=c::r/\c.n=""/\c.lord=none/\Ord [""] r
 bnd:∀ e∈es,0<=e.own/\0<=e.br/\e.br<=9999
 br:∀ e∈es,e.br=e.own+Sb es e.n
 ok:∀ e∈es,PyData.strOk e.n=true
theorem WF.lord {es:List aU} (W:WF es):∀ e∈es,e.n≠""->∃ p,e.lord=some p/\p∈nms es/\p≠e.n:=by
 obtain ⟨c,r,rfl,hc,hl,ho⟩:=W.hd;intro e he hne;rcases A0d.mp he with q | q
 ·rw [q] at hne;exact absurd hc hne
 ·obtain ⟨p,hp,hm⟩:=ho.lord e q;refine ⟨p,hp,?_,?_⟩
  ·rcases hm with z | z
   ·rw [A0b.mp z,<- hc];exact A0o
   ·exact jT _ z
  ·-- not its own lord
   have key:∀ {r:List aU}{s:List Str},Ord s r->(nms r).Nodup->(∀ x∈s,x∉nms r)->∀ e∈r,e.lord≠some e.n:=by
    intro r
    induction r with
    | nil=>intro s _ _ _ e he;cases he
    | cons y r ih =>
     rintro s ⟨⟨p,hp,hs⟩,ho⟩ nd hx e he;have nd':=A0T.mp nd;rcases A0d.mp he with q | q
     ·rw [q,hp];intro z;injection z with z;exact hx p hs (by rw [z];exact A0o)
     ·refine ih ho nd'.2 (fun x hxs=>?_) e q;rcases A0d.mp hxs with z | z
      ·rw [z];exact nd'.1
      ·exact fun w=>hx x z (jT _ w)
   have nd':=A0T.mp W.nd;have:=key ho nd'.2 (fun x hx=>by rw [A0b.mp hx,<- hc];exact nd'.1) e q;intro z;exact this (by rw [hp,z])
theorem WF.crown {es:List aU} (W:WF es):∀ e∈es,e.n=""->e.lord=none:=by
 obtain ⟨c,r,rfl,hc,hl,ho⟩:=W.hd;intro e he h;have nd':=A0T.mp W.nd;rcases A0d.mp he with q | q
 ·rw [q];exact hl
 ·exact absurd (show c.n∈nms r by rw [hc,<- h];exact A0e.mpr ⟨e,q,rfl⟩) nd'.1
theorem WF.Yn {es:List aU} (W:WF es) {n:Str} (h:n∉nms es):∀ y∈es,y.lord≠some n:=fun y hy q=>by
 by_cases c:y.n=""
 ·rw [W.crown y hy c] at q;cases q
 ·obtain ⟨p,hp,hm,_⟩:=W.lord y hy c;rw [hp] at q;injection q with q;exact h (q ▸ hm)
theorem WF.sb0 {es:List aU} (W:WF es) {n:Str} (h:n∉nms es):Sb es n=0:=uy fun y hy=>A0f (W.Yn h y hy)
theorem WF.sbn {es:List aU} (W:WF es) (q:Str):0<=Sb es q:=Om fun y hy=>by
 split
 ·exact (W.bnd y hy).2.1
 ·exact Int.le_refl _
theorem WF.Oo {es:List aU} (W:WF es):∀ e∈es,e.own<=e.br:=fun e he=>by
 have h1:=W.br e he;have h2:=W.sbn e.n;lia
def mod (n:Str) (g:aU->aU) (es:List aU):List aU:=es.map fun y=>if y.n=n then g y else y
theorem pO {n:Str}{g:aU->aU} (hg:∀ e,(g e).n=e.n) (es:List aU):nms (mod n g es)=nms es:=by
 unfold mod
 show (es.map _).map _=_
 rw [A0Z];refine A1K fun e _=>?_
 show (if e.n=n then g e else e).n=e.n
 split
 ·exact hg e
 ·rfl
theorem dI {n:Str}{g:aU->aU}{es:List aU}{y:aU} (h:y∈mod n g es):∃ y0∈es,y=if y0.n=n then g y0 else y0:=by
 obtain ⟨y0,h0,q⟩:=A0e.mp h;exact ⟨y0,h0,q.symm⟩
theorem Oq {f:aU->V}{n:Str}{g:aU->aU} (hg:∀ e,(g e).n=e.n) (es:List aU):kv f (mod n g es)=kv (fun e=>if e.n=n then f (g e) else f e) es:=by
 unfold mod;rw [jh (g:=fun y=>if y.n=n then g y else y) (fun e=>by split;exact hg e;rfl)]
 exact gw fun e _=>by split <;> rfl
theorem fY {f:aU->V}{n:Str}{g:aU->aU} (hg:∀ e,(g e).n=e.n) (hf:∀ e,f (g e)=f e) (es:List aU):kv f (mod n g es)=kv f es:=by
 rw [Oq hg];exact gw fun e _=>by split;exact hf e;rfl
theorem Ot {n:Str}{g:aU->aU} (hg:∀ e,(g e).n=e.n) (hl:∀ e,(g e).lord=e.lord) {es:List aU} (h:∃ c r,es=c::r/\c.n=""/\c.lord=none/\Ord [""] r):∃ c r,mod n g es=c::r/\c.n=""/\c.lord=none/\Ord [""] r:=by
 obtain ⟨c,r,rfl,hc,hcl,ho⟩:=h;refine ⟨_,_,rfl,?_,?_,Ord.map (fun e=>?_) (fun e=>?_) ho⟩
 ·show (if c.n=n then g c else c).n=""
  split
  ·rw [hg,hc]
  ·exact hc
 ·show (if c.n=n then g c else c).lord=none
  split
  ·rw [hl,hcl]
  ·exact hcl
 ·show (if e.n=n then g e else e).n=e.n
  split
  ·exact hg e
  ·rfl
 ·show (if e.n=n then g e else e).lord=e.lord
  split
  ·exact hl e
  ·rfl
theorem Yo {n:Str}{g:aU->aU} (hl:∀ e,(g e).lord=e.lord) {es:List aU}{e0:aU} (nd:(nms es).Nodup) (h0:e0∈es) (hn:e0.n=n) (q:Str):Sb (mod n g es) q=Sb es q+(if e0.lord=some q then (g e0).br - e0.br else 0):=by
 unfold Sb mod;rw [A0Z];rw [rT (F:=fun y=>if y.lord=some q then y.br else 0) (e0:=e0) nd h0 (fun y hy ne=>?_)]
 ·show _ - (if e0.lord=some q then e0.br else 0)+(if (if e0.n=n then g e0 else e0).lord=some q then (if e0.n=n then g e0 else e0).br else 0)=_
  rw [A0i hn,hl]
  by_cases c:e0.lord=some q
  ·rw [A0i c,A0i c,A0i c];lia
  ·rw [A0f c,A0f c,A0f c];lia
 ·show (if (if y.n=n then g y else y).lord=some q then (if y.n=n then g y else y).br else 0)=_
  have c:¬ y.n=n:=by rw [<- hn];exact ne
  rw [A0f c]
theorem Yp (es:List aU) (x:aU) (q:Str):Sb (es++[x]) q=Sb es q+(if x.lord=some q then x.br else 0):=by
 unfold Sb;rw [iZ,List.sum_append];simp
theorem gM {es:List aU} (nd:(nms es).Nodup) {a b:aU} (ha:a∈es) (hb:b∈es) (h:a.n=b.n):a=b:=by
 induction es with
 | nil=>cases ha
 | cons x r ih =>
  have nd':=A0T.mp nd;rcases A0d.mp ha with p | p <;> rcases A0d.mp hb with q | q
  ·rw [p,q]
  ·exact absurd (show x.n∈nms r by rw [<- p,h];exact A0e.mpr ⟨b,q,rfl⟩) nd'.1
  ·exact absurd (show x.n∈nms r by rw [<- q,<- h];exact A0e.mpr ⟨a,p,rfl⟩) nd'.1
  ·exact ih nd'.2 p q
theorem WF.new {es:List aU} (W:WF es) {e0 x:aU}{g:aU->aU}{a:Int} (h0:e0∈es) (hg:∀ e,(g e).n=e.n) (hl:∀ e,(g e).lord=e.lord) (ho:(g e0).own=e0.own - a) (ha:0<=a) (hb:a<=e0.own) (hx:x.n∉nms es) (hok:PyData.strOk x.n=true) (ho2:x.own=a) (hb2:x.br=a)
  (way:(x.lord=some e0.n/\(g e0).br=e0.br)\/(x.lord=e0.lord/\e0.n≠""/\(g e0).br=e0.br - a)):WF (mod e0.n g es++[x]):=by
 have onm:nms (mod e0.n g es++[x])=nms es++[x.n]:=by
  show (mod e0.n g es++[x]).map _=_
  rw [iZ];have:=pO (n:=e0.n) hg es
  show nms (mod e0.n g es)++_=_
  rw [this];rfl
 have b0:=W.bnd e0 h0;have ow:=W.Oo e0 h0;have Yq:∀ q,Sb (mod e0.n g es++[x]) q=Sb es q+(if q=e0.n then e0.own - (g e0).own+((g e0).br - e0.br) else 0):=by
  intro q;rw [Yp,Yo hl W.nd h0 rfl];rcases way with ⟨w1,w2⟩ | ⟨w1,w0,w2⟩
  ·have z0:(if e0.lord=some q then (g e0).br - e0.br else 0)=(0:Int):=by rw [w2];split <;> lia
   rw [z0,w1,w2,hb2,ho]
   by_cases c:q=e0.n
   ·subst c;rw [A0i rfl,A0i rfl];lia
   ·rw [A0f c,A0f (fun z=>c (by injection z with z;exact z.symm))];lia
  ·rw [w1,w2,hb2,ho]
   split
   ·split <;> lia
   ·split <;> lia
 refine ⟨?_,?_,?_,?_,fun e he=>?_⟩
 rotate_right
 ·rcases A0l.mp he with q | q
  ·obtain ⟨y,hy,rfl⟩:=dI q
   split
   ·rw [hg];exact W.ok y hy
   ·exact W.ok y hy
  ·rw [A0b.mp q];exact hok
 ·rw [onm,A2v];refine ⟨W.nd,by simp,fun u hu v hv=>?_⟩;rw [A0b.mp hv];exact fun z=>hx (z ▸ hu)
 ·obtain ⟨c,r,e1,e2,e3,e4⟩:=Ot (n:=e0.n) hg hl W.hd;rw [e1];have hp:∃ p,x.lord=some p/\p∈nms es:=by
   rcases way with ⟨w1,_⟩ | ⟨w1,w0,_⟩
   ·exact ⟨_,w1,A0e.mpr ⟨e0,h0,rfl⟩⟩
   ·obtain ⟨p,hp,hm,_⟩:=W.lord e0 h0 w0;exact ⟨p,w1.trans hp,hm⟩
  obtain ⟨p,hp,hm⟩:=hp;refine ⟨c,r++[x],rfl,e2,e3,Ord.snoc e4 hp ?_⟩;have hm':p∈nms (mod e0.n g es):=by rw [pO hg];exact hm
  rw [e1] at hm';rcases A0d.mp hm' with z | z
  ·exact .inl (by rw [z];show c.n∈([""]:List Str);rw [e2];exact A0b.mpr rfl)
  ·exact .inr z
 ·intro e he;rcases A0l.mp he with q | q
  ·obtain ⟨y,hy,rfl⟩:=dI q;have by_:=W.bnd y hy
   split
   ·rename_i c
    obtain rfl:=gM W.nd hy h0 c;rw [ho];rcases way with ⟨_,w2⟩ | ⟨_,_,w2⟩ <;> rw [w2] <;> lia
   ·exact by_
  ·rw [A0b.mp q,ho2,hb2];lia
 ·intro e he;rcases A0l.mp he with q | q
  ·obtain ⟨y,hy,rfl⟩:=dI q;have hbr:=W.br y hy
   split
   ·rename_i c
    obtain rfl:=gM W.nd hy h0 c;rw [hg,Yq,A0i rfl];lia
   ·rename_i c
    rw [Yq,A0f c];lia
  ·rw [A0b.mp q,ho2,hb2,Yq,W.sb0 hx,A0f (fun z=>hx (by rw [z];exact A0e.mpr ⟨e0,h0,rfl⟩))];lia
theorem WF.mod {es:List aU} (W:WF es) {n:Str}{g:aU->aU} (hg:∀ e,(g e).n=e.n) (hl:∀ e,(g e).lord=e.lord) (ho:∀ e,(g e).own=e.own) (hb:∀ e,(g e).br=e.br):WF (mod n g es):=by
 have Yq:∀ q,Sb (M.mod n g es) q=Sb es q:=by
  intro q;unfold Sb M.mod;rw [A0Z];refine pN fun y _=>?_
  show (if (if y.n=n then g y else y).lord=some q then (if y.n=n then g y else y).br else 0)=_
  by_cases c:y.n=n
  ·rw [A0i c,hl,hb]
  ·rw [A0f c]
 refine ⟨by rw [pO hg];exact W.nd,Ot hg hl W.hd,fun e he=>?_,fun e he=>?_,fun e he=>?_⟩
 rotate_right
 ·obtain ⟨y,hy,rfl⟩:=dI he
  split
  ·rw [hg];exact W.ok y hy
  ·exact W.ok y hy
 ·obtain ⟨y,hy,rfl⟩:=dI he
  split
  ·rw [ho,hb];exact W.bnd y hy
  ·exact W.bnd y hy
 ·obtain ⟨y,hy,rfl⟩:=dI he;rw [Yq]
  split
  ·rw [hg,ho,hb];exact W.br y hy
  ·exact W.br y hy
def cF (e p:Str) (a:Int) (es:List aU):List aU:=(es.filter fun y=>decide (y.n≠e)).map (Bp e p a)
theorem WF.fall {es:List aU} (W:WF es) {e0:aU} (h0:e0∈es) (hne:e0.n≠"") (hp:e0.lord=some p):WF 0x1D:=by
 obtain ⟨p',hp',hpm,hpn⟩:=W.lord e0 h0 hne;obtain rfl:p=p':=by rw [hp] at hp';injection hp'
 have mem:∀ y,y∈cF e0.n p e0.own es->∃ y0∈es,y0.n≠e0.n/\y=Bp e0.n p e0.own y0:=fun y hy=>by
  obtain ⟨y0,h1,h2⟩:=A0e.mp hy;obtain ⟨h3,h4⟩:=A0q.mp h1;exact ⟨y0,h3,nU h4,h2.symm⟩
 have eo:=W.br e0 h0;have Yq:∀ q,q≠e0.n->Sb 0x1D q=Sb es q - (if q=p then e0.own else 0):=by
  intro q hq;unfold Sb cF;rw [A0Z];rw [ux (F:=(fun y=>if y.lord=some q then y.br else 0)∘Bp e0.n p e0.own) W.nd h0]
  have val:∀ y,((fun y=>if y.lord=some q then y.br else 0)∘Bp e0.n p e0.own) y=(if y.lord=some q then y.br else 0)+(if q=p then (if y.lord=some e0.n then y.br else 0) else 0):=by
   intro y
   show (if (if y.lord=some e0.n then some p else y.lord)=some q then y.br else 0)=_
   by_cases c:y.lord=some e0.n
   ·rw [A0i c,c,A0f (fun z:some e0.n=some q=>hq (by injection z with z;exact z.symm)),A0i rfl]
    by_cases d:q=p
    ·rw [A0i d,d,A0i rfl];lia
    ·rw [A0f d,A0f (fun z=>d (by injection z with z;exact z.symm))];rfl
   ·rw [A0f c,A0f c]
    split <;> split <;> lia
  rw [pN (fun y _=>val y),sum_add,val e0,hp,A0f (fun z:some p=some e0.n=>hpn (by injection z))]
  by_cases d:q=p
  ·subst d;rw [A0i rfl,A0i rfl,A0i rfl];have e1:(es.map fun y=>if q=q then (if y.lord=some e0.n then y.br else 0) else 0).sum=Sb es e0.n:=by
    unfold Sb;exact pN fun y _=>A0i rfl
   rw [e1];lia
  ·rw [A0f d,A0f d,A0f (fun z=>d (by injection z with z;exact z.symm))];have e1:(es.map fun y=>if q=p then (if y.lord=some e0.n then y.br else 0) else 0).sum=0:=uy fun y _=>A0f d
   rw [e1];lia
 refine ⟨?_,?_,?_,?_,fun y hy=>?_⟩
 rotate_right
 ·obtain ⟨y0,h1,h2,rfl⟩:=mem y hy;exact W.ok y0 h1
 ·have:nms 0x1D=(nms es).filter fun n=>decide (n≠e0.n):=by
   unfold cF
   show ((es.filter _).map _).map _=_
   rw [A0Z,A3e];rfl
  rw [this];exact W.nd.filter _
 ·obtain ⟨c,r,rfl,hc,hcl,ho⟩:=W.hd;unfold cF;rw [A0Y (by simpa [hc] using fun z=>hne z.symm),A0m];refine ⟨_,_,rfl,hc,?_,Ord.fall ho (fun x hx hxn=>?_) (fun x hx _=>hx) (fun hx=>absurd (A0b.mp hx) hne) hpn⟩
  ·show (if c.lord=some e0.n then some p else c.lord)=none
   rw [hcl,A0f (fun z=>by cases z)]
  ·rw [gM W.nd (jT _ hx) h0 hxn];exact hp
 ·intro y hy;obtain ⟨y0,h1,h2,rfl⟩:=mem y hy;have b:=W.bnd y0 h1;have be:=W.bnd e0 h0;refine ⟨?_,b.2⟩
  show 0<=(if y0.n=p then y0.own+e0.own else y0.own)
  split <;> lia
 ·intro y hy;obtain ⟨y0,h1,h2,rfl⟩:=mem y hy;have b:=W.br y0 h1
  show y0.br=(if y0.n=p then y0.own+e0.own else y0.own)+Sb _ y0.n
  rw [Yq _ h2]
  split <;> lia
theorem yH {es:List aU} (nd:(nms es).Nodup) {e:aU} (he:e∈es):es.find? (fun x=>decide (x.n=e.n))=some e:=by
 induction es with
 | nil=>cases he
 | cons x r ih =>
  have nd':=A0T.mp nd;rcases A0d.mp he with q | q
  ·rw [q,A1n 0xA]
  ·rw [A1e (by
    have:x.n≠e.n:=fun z=>nd'.1 (show x.n∈nms r by rw [z];exact A0e.mpr ⟨e,q,rfl⟩)
    simpa using this)]
   exact ih nd'.2 q
theorem sub_len {α:Type} [DecidableEq α]:∀ {l m:List α},l.Nodup->(∀ x∈l,x∈m)->l.length<=m.length
 | [],_,_,_=>A1f _
 | x::l,m,nd,h=>by
  have nd':=A0T.mp nd;have hx:=h x A0o;have ih:=sub_len (l:=l) (m:=m.erase x) nd'.2 fun y hy=>by
   have ne:y≠x:=fun z=>nd'.1 (z ▸ hy);exact (List.mem_erase_of_ne ne).mpr (h y (jT _ hy))
  rw [List.length_erase_of_mem hx] at ih;have:=A3q hx;rw [vI];lia
theorem wF {es:List aU} (nd:(nms es).Nodup)  (h:ss.Perm ((es.filter fun y=>decide (y.lord=some q)).map (·.n))):(∀ s∈ss,s∈nms es)/\∀ y∈es,(y.n∈ss↔y.lord=some q):=by
 refine ⟨fun s hs=>?_,fun y hy=>⟨fun hs=>?_,fun hl=>?_⟩⟩
 ·obtain ⟨y,hy,rfl⟩:=A0e.mp (h.mem_iff.mp hs);exact A0e.mpr ⟨y,(A0q.mp hy).1,rfl⟩
 ·obtain ⟨z,hz,e⟩:=A0e.mp (h.mem_iff.mp hs);obtain ⟨z1,z2⟩:=A0q.mp hz;obtain rfl:=gM nd z1 hy e;exact nU z2
 ·exact h.mem_iff.mpr (A0e.mpr ⟨y,A0q.mpr ⟨hy,A0g hl⟩,rfl⟩)
theorem U4 {es:List aU} (h:ss.Perm (((lG es).filter fun x=>decide (x.2=.str q)).map lF)):ss.Perm ((es.filter fun y=>decide (y.lord=some q)).map (·.n)):=by
 rw [yG] at h;have:(es.filter fun e=>decide (mY e.lord=V.str q))=es.filter fun y=>decide (y.lord=some q):=A2f fun y _=>A3t.mpr wD;rw [<- this];exact h
theorem Ou {e:Str}{a:Int}{es:List aU}:lG (cF e p a es)=kv (fun y=>if y.lord=some e then V.str p else mY y.lord) (es.filter fun y=>decide (y.n≠e)):=by
 unfold cF lG;rw [jh (g:=Bp e p a) 0xF];refine gw fun y _=>?_
 show mY (if y.lord=some e then some p else y.lord)=_
 split <;> rfl
theorem K6 {es:List aU} (nd:(nms es).Nodup) {e:Str}{a:Int} (h:ss.Perm (((lG es).filter fun x=>decide (x.2=.str e)).map lF)):jd (moved (lG es) ss p) (.inr e)=lG (cF e p a es):=by
 obtain ⟨h1,h2⟩:=wF nd (U4 h);rw [Bo ss h1,lH,Ou];refine gw fun y hy=>?_;have:=h2 y (A0q.mp hy).1
 by_cases c:y.lord=some e
 ·rw [A0i c,A0i (this.mpr c)]
 ·rw [A0f c,A0f fun z=>c (this.mp z)]
theorem K7 {es:List aU} (nd:(nms es).Nodup) {e:Str}{a:Int} (h:ss.Perm ((((es.filter fun y=>decide (y.n≠e))).filter fun y=>decide (y.lord=some e)).map (·.n))):moved (lG (es.filter fun y=>decide (y.n≠e))) ss p=lG (cF e p a es):=by
 have nd2:(nms (es.filter fun y=>decide (y.n≠e))).Nodup:=(A2X.map _).nodup nd;obtain ⟨h1,h2⟩:=wF nd2 h;rw [Bo ss h1,Ou];refine gw fun y hy=>?_;have:=h2 y hy
 by_cases c:y.lord=some e
 ·rw [A0i c,A0i (this.mpr c)]
 ·rw [A0f c,A0f fun z=>c (this.mp z)]
theorem oJ {f:aU->V}{es:List aU}{e:Str}{a:Int} (hf:∀ y,f (Bp e p a y)=f y):jd (kv f es) (.inr e)=kv f (cF e p a es):=by
 rw [lH];unfold cF;rw [jh (g:=Bp e p a) 0xF];exact gw fun y _=>(hf y).symm
theorem Ov {es:List aU} (nd:(nms es).Nodup) {e0 y0:aU} (hp:y0∈es) (hn:y0.n=p):jd (putK (lX es) (.inr p) (.int (y0.own+e0.own))) (.inr e0.n)=lX 0x1D:=by
 rw [uw (by rw [<- hn];exact A0e.mpr ⟨y0,hp,rfl⟩),lH];unfold cF lX;rw [jh (g:=Bp e0.n p e0.own) 0xF];refine gw fun y hy=>?_
 show (if y.n=p then V.int (y0.own+e0.own) else V.int y.own)=V.int (if y.n=p then y.own+e0.own else y.own)
 split
 ·rename_i c
  rw [gM nd (A0q.mp hy).1 hp (c.trans hn.symm)]
 ·rfl
theorem K8 {es:List aU} (nd:(nms es).Nodup) {e0 y0:aU} (hp:y0∈es) (hn:y0.n=p) (hne:p≠e0.n):putK (lX 0xD) (.inr p) (.int (y0.own+e0.own))=lX 0x1D:=by
 rw [uw (by rw [<- hn] at hne ⊢;exact A0e.mpr ⟨y0,A0q.mpr ⟨hp,A0g hne⟩,rfl⟩)];unfold cF lX;rw [jh (g:=Bp e0.n p e0.own) 0xF];refine gw fun y hy=>?_
 show (if y.n=p then V.int (y0.own+e0.own) else V.int y.own)=V.int (if y.n=p then y.own+e0.own else y.own)
 split
 ·rename_i c
  rw [gM nd (A0q.mp hy).1 hp (c.trans hn.symm)]
 ·rfl
end M
namespace L2
open PySem PySem.Spec PyProof.Rows PySem.W
theorem Ih:∀ (a b:List Nat),ltCps a b=true↔a<b
 | [],[]=>by simp [ltCps]
 | [],_::_=>by simp [ltCps]
 | _::_,[]=>by simp [ltCps]
 | x::xs,y::ys=>by
  have ih:=Ih xs ys;unfold ltCps;rw [List.cons_lt_cons_iff]
  by_cases h:x<y
  ·simp [h]
  ·by_cases h2:x=y
   ·subst h2;simp [ih]
   ·simp [h,h2]
theorem wG:∀ (l:List Str),sortedS l=true->l.Pairwise fun a b=>a.cps.toList<=b.cps.toList
 | [],_=>.nil
 | x::r,h=>by
  have key:∀ (r:List Str) (p:Str),risingS p r=true->(∀ y∈r,p.cps.toList<=y.cps.toList)/\r.Pairwise fun a b=>a.cps.toList<=b.cps.toList:=by
   intro r
   induction r with
   | nil=>intro p _;exact ⟨fun y hy=>(by cases hy),.nil⟩
   | cons x r ih =>
    intro p hp;simp only [risingS,A1b,Bool.not_eq_true'] at hp;obtain ⟨h1,h2⟩:=ih x hp.2;have h0:p.cps.toList<=x.cps.toList:=by
     refine List.not_lt.mp fun c=>?_;rw [(Ih _ _).mpr c] at hp;exact absurd hp.1 0x6
    refine ⟨fun y hy=>?_,.cons (fun y hy=>h1 y hy) h2⟩;rcases A0d.mp hy with q | q
    ·rw [q];exact h0
    ·exact List.le_trans h0 (h1 y q)
  obtain ⟨h1,h2⟩:=key r x h;exact .cons (fun y hy=>h1 y hy) h2
theorem Ep {l m:List Str} (p:l.Perm m) (h1:sortedS l=true) (h2:sortedS m=true):l=m :=
 List.Perm.eq_of_pairwise (fun a b _ _ x y=>xT (List.le_antisymm x y)) (wG l h1) (wG m h2) p
theorem Ii:∀ {xs:List V}{us:List Value},xs.length=us.length->(∀ (i:Nat) (x:V) (u:Value),xs[i]?=some x->us[i]?=some u->RelV x u)->Vals xs us
 | [],[],_,_=>.nil
 | [],_::_,h,_=>by simp at h
 | _::_,[],h,_=>by simp at h
 | x::xs,u::us,h,hr=>.cons (hr 0 x u rfl rfl) (Ii (by simpa using h) fun i a b h1 h2=>hr (i+1) a b (by simpa using h1) (by simpa using h2))
inductive Ow (xs:List V) (H:Hp) (Q:VK):Prop
 | mk (a:Addr) (kvs:List (Prod L2.Key V)) (_:xs=[.ref a]) (_:H a=some 0x13) (_:∀ p,H p=none->Q (.ref p) (upd H p (.lst (kvs.map fun kv=>kV kv.1)))):Ow xs H Q
theorem Er (hin:X.A.handled=none):jj X (.type "list") Ow:=by
 intro pins s σ H xs us Q I r h;obtain ⟨a,kvs,rfl,ha,q⟩:=h;obtain ⟨u,rfl,ru⟩:=vals1 r;cases ru;obtain ⟨z,hs,vs,ep,rel,dat⟩:=a0z I ha;have hlen:vs.length=kvs.length:=rel.length.symm;refine kdl_call (kdl_dict (knd:=bY X.prog X.w) (kvs:=vs) (ep:=ep) hs) hin dat 0x3 fun h' tk acc c hk hS hI=>?_;have hv:Vals (kvs.map fun kv=>kV kv.1) acc.toList:=by
  refine Ii (by have h1:=hI.1;have h2:acc.toList.length=acc.size:=A1w;rw [cg];lia) fun i x u h1 h2=>?_;rw [jQ] at h1;obtain ⟨kv,hkv,rfl⟩:=A0t.mp h1;obtain ⟨u',hu',_⟩:=rel.at hkv;obtain ⟨k,y,e1,e2⟩:=hI.2 i u (by rw [<- Array.getElem?_toList];exact h2);rw [hu'] at e1;cases e1;exact Nr e2
 exact ⟨.ref s.heap.objs.size,_,I.laid (o:=.lst (kvs.map fun kv=>kV kv.1)) (t':=tk) hk (A0h _) ⟨by rw [cg];exact z,acc.toList,c,hv,hS⟩,rfl,q _ (I.hok.fresh (A0h _))⟩
theorem Wi {o:Obj}{e:Str} (h:H a=some (.iQ o 0x13)) (hv:bI kvs (.inr e)=some v):dj H a (V.str e) (some v):=.inl ⟨kvs,.inr e,.inr ⟨_,h⟩,rfl,hv.symm⟩
end L2
namespace M
open PySem L2 PyProof.Rows
theorem wH {f:aU->V}{es:List aU}{k:Nat}{Q:VK} (p:aU->Bool) (ha:H a=some (.dK (kv f es))) (hl:es.length<=1000)
  (hd:∀ (o:Obj) (R:VK),R (.ref a) (upd H a (.iQ o (.dK (kv f es))))->td σ (upd H a (.iQ o (.dK (kv f es)))) R)
  (turn:∀ (o:Obj) (y:aU) (Hz:Hp) (A:V->Hp->Prop) (B:Hp->Prop),y∈es->Same (upd H a (.iQ o (.dK (kv f es)))) Hz->(if p y=true then A (V.str y.n) Hz else B Hz)->g (V.str y.n) (nQ σ k ix) Hz fun σ2 H4=>Kp (nQ σ k ix) σ2/\tt σ2 H4 fun b H5=>if b=true then te σ2 H5 A else B H5)
  (done:∀ D Hz,Same H Hz->H D=none->Hz D=some (.lst (((es.filter p).map (·.n)).map V.str))->Q (.ref D) Hz):Y4 (GQ k ix (W7 td) g tt te) σ H Q:=by
 refine ⟨a,_,ha,fun o=>hd o _ ⟨a,o,kv f es,rfl,ao,fun D hD=>?_⟩⟩;have nD:a≠D:=aq (show (upd H a (.iQ o (.dK (kv f es)))) a=some (.iQ o (.dK (kv f es))) from ao) hD
 have pP:H D=none:=by rw [aj (A0k nD)] at hD;exact hD
 refine JM (o:=o) (fun i ys Hz=>ys=(((es.take i).filter p).map (·.n)).map V.str/\Same (upd H a (.iQ o (.dK (kv f es)))) Hz/\Hz D=some (.lst ys)) (fun i ys Hz h=>h.2.1 _ _ ao) ⟨rfl,aO hD _,ao⟩ (fun i ys Hz h=>h.2.2) ?_ ?_
 ·rintro i ys Hz kx hkv ⟨rfl,sz,jA⟩;rw [jQ] at hkv;obtain ⟨y,hy,rfl⟩:=A0t.mp hkv;refine turn o y Hz _ _ (vm hy) sz ?_;have step:(((es.take (i+1)).filter p).map (·.n)).map V.str=(((es.take i).filter p).map (·.n)).map V.str++(if p y=true then [V.str y.n] else []):=by
   rw [A1a,hy,A1i,iZ,iZ]
   congr 1
   cases e:p y <;> simp [e]
  by_cases c:p y=true
  ·rw [A0i c] at step ⊢;refine ⟨jA,?_,step.symm,bU sz hD,ao⟩;rw [cg,cg];have:=A0J p (es.take i);rw [A0G] at this;exact bQ 0x3
  ·rw [A0f c] at step ⊢;refine ⟨by rw [step,A0K],sz,jA⟩
 ·rintro ys Hz ⟨rfl,sz,jA⟩;rw [jz,A1c] at jA;refine ⟨sz _ _ ao,?_⟩;exact done D _ (qD ha sz) pP (by rw [aj (A0k nD)];exact jA)
theorem qH {xs:List Str}{k:Nat}{Q:VK} (p:Str->Bool) (e:Str->V) (hs:bR K H1 a (xs.map V.str)) (hD:H1 D=none) (hl:xs.length<=1000)
  (turn:∀ (x:Str) (Hz:Hp) (A:V->Hp->Prop) (B:Hp->Prop),x∈xs->Same H1 Hz->(∀ H',Same Hz H'->if p x=true then A (e x) H' else B H')->g (V.str x) (nQ σ k ix) Hz fun σ2 H4=>Kp (nQ σ k ix) σ2/\tt σ2 H4 fun b H5=>if b=true then te σ2 H5 A else B H5)
  (done:∀ Hz,Same H1 Hz->Hz D=some (.lst ((xs.filter p).map e))->Q (.ref D) Hz):oE (X8 K a) D σ k ix g tt te Q H1:=by
 refine qz (xs:=xs.map V.str) (fun i ys Hz=>ys=((xs.take i).filter p).map e/\Same H1 Hz/\Hz D=some (.lst ys)) (fun i ys Hz h=>h.2.1.seq hs) ⟨rfl,aO hD _,ao⟩ (fun i ys Hz h=>h.2.2) ?_ ?_
 ·rintro i ys Hz v hv ⟨rfl,sz,jA⟩;rw [jQ] at hv;obtain ⟨x,hx,rfl⟩:=A0t.mp hv;refine turn x Hz _ _ (vm hx) sz fun H' s'=>?_;have step:((xs.take (i+1)).filter p).map e=((xs.take i).filter p).map e++(if p x=true then [e x] else []):=by
   rw [A1a,hx,A1i,iZ]
   congr 1
   cases c:p x <;> simp [c]
  by_cases c:p x=true
  ·rw [A0i c] at step ⊢;refine ⟨s' _ _ jA,?_,step.symm,bU (sz.trans s') hD,ao⟩;rw [cg];have:=A0J p (xs.take i);rw [A0G] at this;exact bQ 0x3
  ·rw [A0f c] at step ⊢;exact ⟨by rw [step,A0K],sz.trans s',s' _ _ jA⟩
 ·rintro ys Hz ⟨rfl,sz,jA⟩;rw [cg,A1c] at jA;exact done Hz sz jA
structure Ad where
 x:Addr
 dx:Addr
 a1:Addr
 a2:Addr
 a3:Addr
 a4:Addr
 a5:Addr
 B:Addr
 l:Addr
 h:Addr
 o:Addr
 d:Addr
 kn:Addr
 dd:Addr
 he:Addr
 lg:Addr
 kvs:List 0x30
 wd:Int
abbrev Bk (q:Ad) (H:Hp) (es:List aU) (ks:List Str):Prop:=fJ H q.B q.l q.h q.o q.d q.kn q.dd q.kvs (lG es) (hoL es) (lX es) (yE es) ks
abbrev Ln (C:Addr) (q:Ad) (H:Hp) (es:List aU):Prop:=cP C H q.x q.dx q.a1 q.a2 q.a3 q.a4 q.a5 (lG es) (hoL es) (lX es) (U3 es) (RZ es)
abbrev U5:Stmt:=top 53
abbrev U6:Stmt:=top 55
abbrev U7:Stmt:=top 56
def Ap (q:Ad):Prop:=[q.a1,q.a2,q.a3,q.a4,q.a5,q.B,q.l,q.h,q.o,q.d,q.kn,q.dd,q.he,q.lg].Nodup
theorem bN {l:List Addr} (h:l.Nodup) (i j:Nat)  (ha:l[i]?=some a) (hb:l[j]?=some b) (hij:i≠j):a≠b:=by
 obtain ⟨h1,e1⟩:=A0j.mp ha;obtain ⟨h2,e2⟩:=A0j.mp hb;intro q;exact hij ((List.getElem_inj h).mp (by rw [e1,e2,q]))
inductive Ox (vs:List V) (H:Hp) (Q:VK) (cB:XK):Prop
 | mk (q:Ad) (es:List aU) (ks:List Str) (e:Str) (_:vs=[.ref q.B,.str e]) (_:Ap q) (_:Bk q H es ks) (_:(nms es).Nodup) (_:es.length<64) (_:∀ (r:Addr) (ss:List Str) (H':Hp),Same H H'->H r=none->H' r=some (.lst (ss.map V.str))->ss.Perm ((es.filter fun y=>decide (y.lord=some e)).map (·.n))->sortedS ss=true->Q (.ref r) H'):Ox vs H Q cB
inductive Ij (vs:List V) (H:Hp) (Q:VK) (cB:XK):Prop
 | mk (q:Ad) (es:List aU) (ks:List Str) (m:Str) (_:vs=[.ref q.B,.str m]) (_:Ap q) (_:Bk q H es ks) (_:(nms es).Nodup) (_:es.length<64) (_:∀ (r:Addr) (ss:List Str) (H':Hp),Same H H'->H r=none->H' r=some (.lst (ss.map V.str))->ss.Perm ((es.filter fun y=>decide (y.man=m)).map (·.n))->sortedS ss=true->Q (.ref r) H'):Ij vs H Q cB
inductive Ik (vs:List V) (H:Hp) (Q:VK) (cB:XK):Prop
 | mk (q:Ad) (es:List aU) (ks:List Str) (m:Str) (_:vs=[.ref q.B,.str m]) (_:Ap q) (_:Bk q H es ks) (_:WF es) (_:es.length<64) (_:∀ (r:Addr) (ss:List Str) (H':Hp),Same H H'->H r=none->H' r=some (.lst (ss.map V.str))->ss.length<64->(∀ l,l∈ss↔∃ y∈es,y.man=m/\y.n≠""/\∃ z∈es,y.lord=some z.n/\z.man=l)->Q (.ref r) H'):Ik vs H Q cB
theorem K9 (o:Option Str) (e:Str):Lw (mY o) (V.str e)=true:=by cases o <;> rfl
theorem Oz {o:Option Str}{e:Str}:decide (mY o=V.str e)=decide (o=some e):=A3t.mpr wD
theorem fJ.gl {q:Ad}{es:List aU} (b:Bk q H es ks):dj H q.B (V.str "lords") (some (.ref q.l)):=iM b.b b.vl
theorem fJ.gh {q:Ad}{es:List aU} (b:Bk q H es ks):dj H q.B (V.str "holders") (some (.ref q.h)):=iM b.b b.vh
theorem fJ.go {q:Ad}{es:List aU} (b:Bk q H es ks):dj H q.B (V.str "own") (some (.ref q.o)):=iM b.b b.vo
theorem fJ.gk {q:Ad}{es:List aU} (b:Bk q H es ks):dj H q.B (V.str "known") (some (.ref q.kn)):=iM b.b b.vk
theorem fJ.gx {q:Ad}{es:List aU} (b:Bk q H es ks):dj H q.B (V.str "dead") (some (.ref q.dd)):=iM b.b b.vx
theorem gkv {f:aU->V}{es:List aU}{e:aU} (h:H a=some (.dK (kv f es))) (nd:(nms es).Nodup) (he:e∈es):dj H a (V.str e.n) (some (f e)):=iM h (eG nd he)
theorem a0B:aP A4R A4R (aH U5):=0x0
def a0C:Scope:={ kind:=.function,names:=[(".0",.local),("_law_one",.local),("_law_book_here",.free),("_law_estate",.free)],isGenerator:=false,isCoroutine:=false }
theorem a0D:gO A4R (aH U5) a0C ["_law_one"] A4R [0,1]:=0xB
theorem a0E:((["_law_one"]:List Str)++(A4R:List Str)).Nodup:=by decide +kernel
theorem Yr (ms:mg "sorted"=none) (F:fu K "_law_under" "_law_under" U5 f fd):aL P w K mg base bO 1 f fd A4R Ox:=by
 refine F.ok a0B 0x1 0x2;obtain ⟨q,es,ks,e,rfl,ap,bk,nd,hl,k⟩:=h;refine ⟨_,aG (aV (bG iB rfl ms jx (ak (xY (j9 rfl a0D (HX 0x1B) (fun s H fp C'=>⟨bf (i:=0) a0E rfl 0x8,jG (aQ cV (bH (u1 hr) (bH (u1 hr) 0x10 aK 0x4) (pv 0) 0x4) (pv 2) (bB _)),pv 0⟩))) aC))),?_⟩;have nB:q.B≠q.l:=bN ap 5 6 rfl rfl 0x6;have gB:∀ {o:Obj}{Hz:Hp},Same (upd H q.l (.iQ o (.dK (lG es)))) Hz->dj Hz q.B (V.str "lords") (some (.ref q.l)):=fun sz=>iM (sz _ _ (by rw [aj nB];exact bk.b)) bk.vl;refine wH (fun y=>decide (y.lord=some e)) bk.l 0x3 (fun o R hR=>⟨_,rfl,q.B,_,rfl,gB (Same.refl _),hR⟩) (fun o y Hz A B hy sz hAB=>?_) (fun D Hz sz pP jA=>?_)
 ·refine ⟨Kp.set rfl (Kp.refl _),_,rfl,q.B,_,rfl,gB sz,_,rfl,q.l,_,rfl,Wi (sz _ _ ao) (eG nd hy),_,rfl,K9 _ _,_,rfl,?_⟩;rw [Oz];refine iy 0x35 0x35
  ·rw [A0i c] at hAB;exact ⟨_,rfl,hAB⟩
  ·rw [A0f c] at hAB;exact hAB
 ·refine ⟨D,_,rfl,bR.of jA,?_,fun l ss hl0 hp hs=>?_⟩
  ·rw [cg];exact A1s (A0J _ _) hl
  ·exact k l ss _ (bU sz (sz.free hl0)) (sz.free hl0) ao hp hs
theorem a0F:aP A4N A4N (aH U6):=0x0
def a0G:Scope:={ kind:=.function,names:=[(".0",.local),("_law_one",.local),("_law_book_here",.free),("_law_man",.free)],isGenerator:=false,isCoroutine:=false }
theorem a0H:gO A4N (aH U6) a0G ["_law_one"] A4N [0,1]:=0xB
theorem a0I:((["_law_one"]:List Str)++(A4N:List Str)).Nodup:=by decide +kernel
theorem Ys (ms:mg "sorted"=none) (F:fu K "_law_held" "_law_held" U6 f fd):aL P w K mg base bO 1 f fd A4N Ij:=by
 refine F.ok a0F 0x1 0x2;obtain ⟨q,es,ks,m,rfl,ap,bk,nd,hl,k⟩:=h;refine ⟨_,aG (aV (bG iB rfl ms jx (ak (xY (j9 rfl a0H (HX 0x1B) (fun s H fp C'=>⟨bf (i:=0) a0I rfl 0x8,jG (aQ cV (bH (u1 hr) (bH (u1 hr) 0x10 aK 0x4) (pv 0) 0x4) (pv 2) (bB _)),pv 0⟩))) aC))),?_⟩;have nB:q.B≠q.h:=bN ap 5 7 rfl rfl 0x6;have gB:∀ {o:Obj}{Hz:Hp},Same (upd H q.h (.iQ o (.dK (hoL es)))) Hz->dj Hz q.B (V.str "holders") (some (.ref q.h)):=fun sz=>iM (sz _ _ (by rw [aj nB];exact bk.b)) bk.vh;refine wH (fun y=>decide (y.man=m)) bk.h 0x3 (fun o R hR=>⟨_,rfl,q.B,_,rfl,gB (Same.refl _),hR⟩) (fun o y Hz A B hy sz hAB=>?_) (fun D Hz sz pP jA=>?_)
 ·refine ⟨Kp.set rfl (Kp.refl _),_,rfl,q.B,_,rfl,gB sz,_,rfl,q.h,_,rfl,Wi (sz _ _ ao) (eG nd hy),_,rfl,rfl,_,rfl,?_⟩;rw [iu];refine iy 0x35 0x35
  ·rw [A0i c] at hAB;exact ⟨_,rfl,hAB⟩
  ·rw [A0f c] at hAB;exact hAB
 ·refine ⟨D,_,rfl,bR.of jA,?_,fun l ss hl0 hp hs=>?_⟩
  ·rw [cg];exact A1s (A0J _ _) hl
  ·exact k l ss _ (bU sz (sz.free hl0)) (sz.free hl0) ao hp hs
theorem a0J:aP A4N A4N (aH U7):=0x0
def a0K:Scope:={ kind:=.function,names:=[(".0",.local),("_law_one",.local),("_law_book_here",.free)],isGenerator:=false,isCoroutine:=false }
theorem a0L:gO A4N (aH U7) a0K ["_law_one"] ["_law_book_here"] [0]:=0xB
theorem a0M:((["_law_one"]:List Str)++(["_law_book_here"]:List Str)).Nodup:=by decide +kernel
def wI (es:List aU) (n:Str):Str:=match es.find? fun e=>decide (e.n=n) with
 | some e=>match e.lord with
  | some p=>match es.find? fun e=>decide (e.n=p) with
   | some y=>y.man
   | none=>""
  | none=>""
 | none=>""
theorem Yt (F:fu K "_law_bound_to" "_law_bound_to" U7 f fd)  (G1:aL P w K mg base bO 1 g1 d1 A4N Ij) (M1:Ms K mg "_law_held" g1 d1 A4N):aL P w K mg base bO 2 f fd A4N Ik:=by
 refine F.ok a0J 0x1 0x2;obtain ⟨q,es,ks,m,rfl,ap,bk,W,hl,k⟩:=h;refine ⟨_,aG (aV (j9 rfl a0L (cX (bJ G1 hr rfl M1.m M1.k M1.b .nil bC (ak (pv 0) 0x26))) (fun s H fp C'=>⟨bf (i:=0) a0M rfl 0x8,jG (aQ oU (pv 0) aK (bB _)),bH (u1 hr) (bH (u1 hr) 0x10 aK 0x4) (bH (u1 hr) (bH (u1 hr) 0x10 aK 0x4) (pv 0) 0x4) 0x4⟩))),?_⟩;refine ⟨_,rfl,_,rfl,q,es,ks,m,rfl,ap,bk,W.nd,hl,fun r ss H' s' hr0 hr1 hp hs=>?_⟩;have hsl:ss.length<64:=by
  rw [hp.length_eq,cg];exact A1s (A0J _ _) hl
 refine ⟨r,rfl,⟨_,bR.of hr1⟩,fun D hD=>qH (xs:=ss) (fun x=>!decide (x="")) (fun x=>V.str (wI es x)) (bR.of hr1) hD 0x3 (fun x Hz A B hx sz hAB=>?_) (fun Hz sz jA=>?_)⟩
 ·obtain ⟨y,hy,rfl⟩:=A0e.mp (hp.mem_iff.mp hx);have hye:=(A0q.mp hy).1;have hAB:=hAB _ (Same.refl _);refine ⟨Kp.set rfl (Kp.refl _),_,rfl,rfl,_,rfl,?_⟩;rw [iu];refine iy 0x35 0x35
  ·rw [A0i c] at hAB;have bz:=(bk.same s').same sz;have hne:y.n≠"":=by
    intro z;rw [z] at c;exact absurd c 0x6
   obtain ⟨p,hp1,hp2,_⟩:=W.lord y hye hne;obtain ⟨z,hz,Es⟩:=fP hp2;have eu:wI es y.n=z.man:=by
    unfold wI;rw [yH W.nd hye];dsimp only;rw [hp1];dsimp only;rw [<- Es,yH W.nd hz]
   rw [eu] at hAB;have g1:=gkv bz.l W.nd hye;rw [hp1] at g1;have g2:=gkv bz.h W.nd hz;rw [Es] at g2;exact ⟨_,rfl,q.B,_,rfl,bz.gh,_,rfl,q.B,_,rfl,bz.gl,_,rfl,q.l,_,rfl,g1,q.h,_,rfl,g2,hAB⟩
  ·rw [A0f c] at hAB;exact hAB
 ·have hDz':Hz D=some (.lst ((((ss.filter fun x:Str=>!decide (x="")).map (wI es))).map V.str)):=by rw [jA,A0Z];rfl
  have eu:∀ {y z:aU},y∈es->z∈es->y.lord=some z.n->wI es y.n=z.man:=fun {y z} hy hz hl=>by
   unfold wI;rw [yH W.nd hy];dsimp only;rw [hl];dsimp only;rw [yH W.nd hz]
  refine k D _ Hz (s'.trans sz) (s'.free hD) hDz' (by rw [cg];exact A1s (A0J _ _) hsl) fun l=>⟨fun h=>?_,fun ⟨y,hy,h1,h2,z,hz,h3,h4⟩=>?_⟩
  ·obtain ⟨x,hx,rfl⟩:=A0e.mp h;have hx:=A0q.mp hx;obtain ⟨y,hy,rfl⟩:=A0e.mp (hp.mem_iff.mp hx.1);have hy:=A0q.mp hy;have hne:y.n≠"":=fun z=>by
    have h2:=hx.2;rw [z] at h2;exact absurd h2 0x6
   obtain ⟨p,hp1,hp2,_⟩:=W.lord y hy.1 hne;obtain ⟨z,hz,Es⟩:=fP hp2;exact ⟨y,hy.1,nU hy.2,hne,z,hz,by rw [hp1,Es],(eu hy.1 hz (by rw [hp1,Es])).symm⟩
  ·refine A0e.mpr ⟨y.n,A0q.mpr ⟨hp.mem_iff.mpr (A0e.mpr ⟨y,A0q.mpr ⟨hy,A0g h1⟩,rfl⟩),?_⟩,(eu hy hz h3).trans h4⟩;rw [Bool.not_eq_true',decide_eq_false_iff_not];exact h2
theorem Il (l0:List Str) (y:Str):vq ((l0++[y]).map V.str) (-1)=some (V.str y):=by
 rw [iZ];exact Ae _ _
abbrev Yu:Stmt:=top 58
abbrev sNew:Stmt:=top 60
abbrev BQ (q:Ad) (H:Hp) (lo ho ow du:List 0x30) (ks:List Str):Prop:=fJ H q.B q.l q.h q.o q.d q.kn q.dd q.kvs lo ho ow du ks
section
variable {q:Ad}{l':List 0x30}
theorem fJ.ul (ap:Ap q) (b:BQ q H lo ho ow du ks):BQ q (upd H q.l (.dK l')) l' ho ow du ks :=
 ⟨by rw [aj (bN ap 5 6 rfl rfl 0x6)];exact b.b,b.vl,b.vh,b.vo,b.vd,b.vk,b.vx,ao,by rw [aj (bN ap 7 6 rfl rfl 0x6)];exact b.h,by rw [aj (bN ap 8 6 rfl rfl 0x6)];exact b.o,by rw [aj (bN ap 9 6 rfl rfl 0x6)];exact b.d,by rw [aj (bN ap 10 6 rfl rfl 0x6)];exact b.k,b.len⟩
theorem fJ.uh (ap:Ap q) (b:BQ q H lo ho ow du ks):BQ q (upd H q.h (.dK l')) lo l' ow du ks :=
 ⟨by rw [aj (bN ap 5 7 rfl rfl 0x6)];exact b.b,b.vl,b.vh,b.vo,b.vd,b.vk,b.vx,by rw [aj (bN ap 6 7 rfl rfl 0x6)];exact b.l,ao,by rw [aj (bN ap 8 7 rfl rfl 0x6)];exact b.o,by rw [aj (bN ap 9 7 rfl rfl 0x6)];exact b.d,by rw [aj (bN ap 10 7 rfl rfl 0x6)];exact b.k,b.len⟩
theorem fJ.uo (ap:Ap q) (b:BQ q H lo ho ow du ks):BQ q (upd H q.o (.dK l')) lo ho l' du ks :=
 ⟨by rw [aj (bN ap 5 8 rfl rfl 0x6)];exact b.b,b.vl,b.vh,b.vo,b.vd,b.vk,b.vx,by rw [aj (bN ap 6 8 rfl rfl 0x6)];exact b.l,by rw [aj (bN ap 7 8 rfl rfl 0x6)];exact b.h,ao,by rw [aj (bN ap 9 8 rfl rfl 0x6)];exact b.d,by rw [aj (bN ap 10 8 rfl rfl 0x6)];exact b.k,b.len⟩
theorem fJ.ud (ap:Ap q) (b:BQ q H lo ho ow du ks):BQ q (upd H q.d (.dK l')) lo ho ow l' ks :=
 ⟨by rw [aj (bN ap 5 9 rfl rfl 0x6)];exact b.b,b.vl,b.vh,b.vo,b.vd,b.vk,b.vx,by rw [aj (bN ap 6 9 rfl rfl 0x6)];exact b.l,by rw [aj (bN ap 7 9 rfl rfl 0x6)];exact b.h,by rw [aj (bN ap 8 9 rfl rfl 0x6)];exact b.o,ao,by rw [aj (bN ap 10 9 rfl rfl 0x6)];exact b.k,b.len⟩
theorem fJ.uk (ap:Ap q) (b:BQ q H lo ho ow du ks):BQ q (upd H q.kn (.lst (ks'.map V.str))) lo ho ow du ks' :=
 ⟨by rw [aj (bN ap 5 10 rfl rfl 0x6)];exact b.b,b.vl,b.vh,b.vo,b.vd,b.vk,b.vx,by rw [aj (bN ap 6 10 rfl rfl 0x6)];exact b.l,by rw [aj (bN ap 7 10 rfl rfl 0x6)];exact b.h,by rw [aj (bN ap 8 10 rfl rfl 0x6)];exact b.o,by rw [aj (bN ap 9 10 rfl rfl 0x6)];exact b.d,ao,b.len⟩
theorem fJ.kl (b:BQ q H lo ho ow du ks):dj H q.B (V.str "lords") (some (.ref q.l)):=iM b.b b.vl
theorem fJ.kh (b:BQ q H lo ho ow du ks):dj H q.B (V.str "holders") (some (.ref q.h)):=iM b.b b.vh
theorem fJ.ko (b:BQ q H lo ho ow du ks):dj H q.B (V.str "own") (some (.ref q.o)):=iM b.b b.vo
theorem fJ.kd (b:BQ q H lo ho ow du ks):dj H q.B (V.str "due") (some (.ref q.d)):=iM b.b b.vd
theorem fJ.kk (b:BQ q H lo ho ow du ks):dj H q.B (V.str "known") (some (.ref q.kn)):=iM b.b b.vk
end
def fj (q:Ad) (H H':Hp):Prop:=∀ c u,c≠q.l->c≠q.h->c≠q.o->c≠q.d->c≠q.kn->H c=some u->H' c=some u
theorem fj.trans {q:Ad} (a:fj q H H1) (b:fj q H1 H2):fj q H H2:=fun c u h1 h2 h3 h4 h5 e=>b c u h1 h2 h3 h4 h5 (a c u h1 h2 h3 h4 h5 e)
theorem fj.ul {q:Ad}:fj q H (upd H q.l o):=fun c u h1 h2 h3 h4 h5 e=>by rw [aj h1];exact e
theorem fj.uh {q:Ad}:fj q H (upd H q.h o):=fun c u h1 h2 h3 h4 h5 e=>by rw [aj h2];exact e
theorem fj.uo {q:Ad}:fj q H (upd H q.o o):=fun c u h1 h2 h3 h4 h5 e=>by rw [aj h3];exact e
theorem fj.ud {q:Ad}:fj q H (upd H q.d o):=fun c u h1 h2 h3 h4 h5 e=>by rw [aj h4];exact e
theorem fj.uk {q:Ad}:fj q H (upd H q.kn o):=fun c u h1 h2 h3 h4 h5 e=>by rw [aj h5];exact e
theorem fj.same {q:Ad} (s:Same H H'):fj q H H':=fun c u _ _ _ _ _ e=>s c u e
theorem lJ {q:Ad}{r:Addr} (b:BQ q H lo ho ow du ks) (o:fj q H H') (h:H r=some 0x2E):H' r=some 0x2E :=
 o r _ (aM h b.l 0x5) (aM h b.h 0x5) (aM h b.o 0x5) (aM h b.d 0x5) (aM h b.k 0x5) h
inductive OD (vs:List V) (H:Hp) (Q:VK) (cB:XK):Prop
 | mk (q:Ad) (lo ho ow du:List 0x22) (ks:List Str) (r:Addr) (xs:List V) (e n man lord:Str) (due:Addr) (a own:Int) (_:vs=[.ref q.B,.ref r,.str lord,.ref due]) (_:Ap q) (_:BQ q H lo ho ow du ks) (_:H r=some 0x2E) (_:xs[2]?=some (.str e)) (_:xs[3]?=some (.str n)) (_:xs[4]?=some (.str man)) (_:xs[5]?=some (.int a)) (_:bI (putK ow 0x2C (.int a)) (.inr e)=some (.int own)) (_:lo.length<=800) (_:ho.length<=800) (_:ow.length<=800) (_:du.length<=800) (_:ks.length<=800) (_:∀ H':Hp,BQ q H' (putK lo 0x2C (.str lord)) (putK ho 0x2C (.str man)) (putK (putK ow 0x2C (.int a)) (.inr e) (.int (own - a))) (putK du 0x2C (.ref due)) (ks++[n])->fj q H H'->Q .non H'):OD vs H Q cB
inductive Yv (vs:List V) (H:Hp) (Q:VK) (cB:XK):Prop
 | mk (q:Ad) (es:List aU) (ks:List Str) (e0:aU) (p:Str) (_:vs=[.ref q.B,.str e0.n]) (_:Ap q) (_:Bk q H es ks) (_:WF es) (_:e0∈es) (_:e0.n≠"") (_:e0.lord=some p) (_:es.length<64) (_:∀ H':Hp,Bk q H' 0x1D ks->fj q H H'->Q .non H'):Yv vs H Q cB
theorem a0N:aP A4U A4U (aH sNew):=0x0
theorem Yw (F:fu K "_law_new" "_law_new" sNew f fd):aL P w K mg base bO 1 f fd A4U OD:=by
 refine F.ok a0N 0x1 0x2;obtain ⟨q,lo,ho,ow,du,ks,r,xs,e,n,man,lord,due,a,own,rfl,ap,bk,hx,x2,x3,x4,x5,hown,l1,l2,l3,l4,l5,k⟩:=h;refine ⟨_,au (dw (u1 hr) 0x1B 0x19 (pv 2) rfl)
  (au (dw (u1 hr) 0x1B 0x19 0x19 rfl)
  (au (dw (u1 hr) 0x1B 0x19 0x19 rfl)
  (au (dw (u1 hr) 0x1B 0x19 (pv 3) rfl)
  (au (rO (u1 hr) 0x1B 0x19 0x19 Mg (fun _ _ _=>rfl))
  (aG (bV (iR A0H A0O A0P cT 0x1B (ak 0x19 aC)))))))),?_⟩
 refine ⟨_,rfl,_,rfl,q.B,_,rfl,bk.kl,_,rfl,r,_,_,_,rfl,rfl,bZ.of hx,aJ (j:=3) x3,q.l,_,rfl,iK.k (k:=.inr n) bk.l (bQ 0x3),?_⟩;have b1:=bk.ul (l':=putK lo 0x2C (.str lord)) ap;have o1:fj q H (upd H q.l (.dK (putK lo 0x2C (.str lord)))):=fj.ul;have hx1:=lJ bk o1 hx;generalize upd H q.l (.dK (putK lo 0x2C (.str lord)))=H1 at b1 o1 hx1 ⊢;refine ⟨_,rfl,r,_,_,_,rfl,rfl,bZ.of hx1,aJ (j:=4) x4,_,rfl,q.B,_,rfl,b1.kh,_,rfl,r,_,_,_,rfl,rfl,bZ.of hx1,aJ (j:=3) x3,q.h,_,rfl,iK.k (k:=.inr n) b1.h (bQ 0x3),?_⟩;have b2:=b1.uh (l':=putK ho 0x2C (.str man)) ap;have o2:=o1.trans (fj.uh (H:=H1) (o:=.dK (putK ho 0x2C (.str man))));have hx2:=lJ bk o2 hx;generalize upd H1 q.h (.dK (putK ho 0x2C (.str man)))=H2 at b2 o2 hx2 ⊢;refine ⟨_,rfl,r,_,_,_,rfl,rfl,bZ.of hx2,aJ (j:=5) x5,_,rfl,q.B,_,rfl,b2.ko,_,rfl,r,_,_,_,rfl,rfl,bZ.of hx2,aJ (j:=3) x3,q.o,_,rfl,iK.k (k:=.inr n) b2.o (bQ 0x3),?_⟩;have b3:=b2.uo (l':=putK ow 0x2C (.int a)) ap;have o3:=o2.trans (fj.uo (H:=H2) (o:=.dK (putK ow 0x2C (.int a))));have hx3:=lJ bk o3 hx;generalize upd H2 q.o (.dK (putK ow 0x2C (.int a)))=H3 at b3 o3 hx3 ⊢;refine ⟨_,rfl,_,rfl,q.B,_,rfl,b3.kd,_,rfl,r,_,_,_,rfl,rfl,bZ.of hx3,aJ (j:=3) x3,q.d,_,rfl,iK.k (k:=.inr n) b3.d (bQ 0x3),?_⟩;have b4:=b3.ud (l':=putK du 0x2C (.ref due)) ap;have o4:=o3.trans (fj.ud (H:=H3) (o:=.dK (putK du 0x2C (.ref due))));have hx4:=lJ bk o4 hx;generalize upd H3 q.d (.dK (putK du 0x2C (.ref due)))=H4 at b4 o4 hx4 ⊢;have hl3:=dY ow 0x2C (.int a);refine ⟨_,rfl,q.B,_,rfl,b4.ko,_,rfl,r,_,_,_,rfl,rfl,bZ.of hx4,aJ (j:=2) x2,q.o,_,rfl,iM b4.o hown,_,rfl,r,_,_,_,rfl,rfl,bZ.of hx4,aJ (j:=5) x5,_,_,rfl,rfl,_,iK.k (k:=.inr e) b4.o (bQ 0x3),?_⟩;have b5:=b4.uo (l':=putK (putK ow 0x2C (.int a)) (.inr e) (.int (own - a))) ap;have o5:=o4.trans (fj.uo (H:=H4) (o:=.dK (putK (putK ow 0x2C (.int a)) (.inr e) (.int (own - a)))));have hx5:=lJ bk o5 hx;generalize upd H4 q.o (.dK (putK (putK ow 0x2C (.int a)) (.inr e) (.int (own - a))))=H5 at b5 o5 hx5 ⊢;refine ⟨_,rfl,q.B,_,rfl,b5.kk,.inl ⟨rfl,_,bR.of b5.k⟩,_,rfl,r,_,_,_,rfl,rfl,bZ.of hx5,aJ (j:=3) x3,q.kn,_,_,rfl,rfl,b5.k,(by rw [cg];exact bQ 0x3),?_⟩;have e1:ks.map V.str++[V.str n]=(ks++[n]).map V.str:=by rw [iZ];rfl
 rw [e1];exact k _ (b5.uk ap) (o5.trans fj.uk)
theorem OJ:aP ["_law_book_here", "_law_estate", "_law_lord", "_law_one"] A4R (aH Yu):=0x0
theorem Bq (h:H a=none) (h2:H b=some o):a≠b:=fun q=>by rw [q,h2] at h;cases h
theorem isD (h:H a=some 0x13):ZC H a:=.inl ⟨kvs,.inl h⟩
theorem a0O (F:fu K "_law_fall" "_law_fall" Yu f fd)  (G1:aL P w K mg base bO 1 g1 d1 A4R Ox) (M1:Ms K mg "_law_under" g1 d1 A4R):aL P w K mg base bO 2 f fd A4R Yv:=by
 refine F.ok OJ 0x1 0x2;obtain ⟨q,es,ks,e0,p,rfl,ap,bk,W,he,hne,hp,hl,k⟩:=h;refine ⟨_,au (aY (i:=2) OJ.nd rfl 0x8 (pG 0x1B 0x10 ⟨rfl,rfl,rfl,rfl⟩))
  (au (rO (u1 hr) 0x1B (pv 2) (pG 0x1B 0x10 ⟨rfl,rfl,rfl,rfl⟩) Ma (fun _ _ _=>rfl))
  (au (bV (pG 0x1B 0x10 ⟨rfl,rfl,rfl,rfl⟩))
  (au (bV (pG 0x1B 0x10 ⟨rfl,rfl,rfl,rfl⟩))
  (aG (fM A0N rfl (cX (bJ G1 hr rfl M1.m M1.k M1.b .nil bC (ak (pv 0) 0x26))) (bf (i:=3) OJ.nd rfl 0x8) (aG (dw (u1 hr) 0x1B (pv 3) (pv 2) rfl))))))),?_⟩
 obtain ⟨p',hp',hpm,hpn⟩:=W.lord e0 he hne;obtain rfl:p=p':=by rw [hp] at hp';injection hp'
 obtain ⟨y0,hy0,Wj⟩:=fP hpm;have v1:=eG (f:=fun e=>mY e.lord) W.nd he;rw [hp] at v1;refine ⟨_,rfl,q.B,_,rfl,bk.kl,q.l,rfl,isD bk.l,_,rfl,_,.inr e0.n,_,bk.l,rfl,v1,?_⟩;rw [lH];have b1:=fJ.ul (l':=lG 0xD) ap bk;have o1:fj q H (upd H q.l (.dK (lG 0xD))):=fj.ul;generalize upd H q.l (.dK (lG 0xD))=H1 at b1 o1 ⊢;have gp:=gkv b1.o W.nd hy0;rw [Wj] at gp;refine ⟨_,rfl,q.B,_,rfl,b1.ko,_,rfl,q.o,_,rfl,gp,_,rfl,q.B,_,rfl,b1.ko,q.o,rfl,isD b1.o,_,rfl,_,.inr e0.n,_,b1.o,rfl,eG W.nd he,?_⟩;rw [lH];have b2:=b1.uo (l':=lX 0xD) ap;have o2:=o1.trans (fj.uo (H:=H1) (o:=.dK (lX 0xD)));generalize upd H1 q.o (.dK (lX 0xD))=H2 at b2 o2 ⊢;have fl:(0xD).length<=es.length:=A0J _ _;refine ⟨_,_,rfl,rfl,_,iK.k (k:=.inr p) b2.o (by rw [jz];exact bQ 0x3),?_⟩;rw [K8 W.nd hy0 Wj hpn];have b3:=b2.uo (l':=lX 0x1D) ap;have o3:=o2.trans (fj.uo (H:=H2) (o:=.dK (lX 0x1D)));generalize upd H2 q.o (.dK (lX 0x1D))=H3 at b3 o3 ⊢;refine ⟨_,rfl,q.B,_,rfl,b3.kh,q.h,rfl,isD b3.h,_,rfl,_,.inr e0.n,_,b3.h,rfl,eG W.nd he,?_⟩;rw [lH];have b4:=b3.uh (l':=hoL 0xD) ap;have o4:=o3.trans (fj.uh (H:=H3) (o:=.dK (hoL 0xD)));generalize upd H3 q.h (.dK (hoL 0xD))=H4 at b4 o4 ⊢;refine ⟨_,rfl,q.B,_,rfl,b4.kd,q.d,rfl,isD b4.d,_,rfl,_,.inr e0.n,_,b4.d,rfl,eG W.nd he,?_⟩;rw [lH];have b5:=b4.ud (l':=yE 0xD) ap;have o5:=o4.trans (fj.ud (H:=H4) (o:=.dK (yE 0xD)));generalize upd H4 q.d (.dK (yE 0xD))=H5 at b5 o5 ⊢;have nd1:(nms 0xD).Nodup:=(A2X.map _).nodup W.nd;generalize hes1:0xD=es1 at b5 nd1 fl
 let g2:aU->aU:=fun y=>{ y with own:=if y.n=p then y.own+e0.own else y.own }
 have m1:lG (es1.map g2)=lG es1:=jh (g:=g2) fun _=>rfl;have m2:hoL (es1.map g2)=hoL es1:=jh (g:=g2) fun _=>rfl;have m3:lX (es1.map g2)=lX 0x1D:=by
  unfold cF;rw [hes1]
  show kv _ (es1.map g2)=kv _ (es1.map _)
  rw [jh (g:=g2) 0xF,jh (g:=Bp e0.n p e0.own) 0xF];rfl
 have m4:yE (es1.map g2)=yE es1:=jh (g:=g2) fun _=>rfl;have b6:Bk q H5 (es1.map g2) ks:=by
  show BQ q H5 (lG (es1.map g2)) (hoL (es1.map g2)) (lX (es1.map g2)) (yE (es1.map g2)) ks
  rw [m1,m2,m3,m4];exact b5
 have nd2:(nms (es1.map g2)).Nodup:=by
  have:nms (es1.map g2)=nms es1:=by
   show (es1.map g2).map _=_
   rw [A0Z];rfl
  rw [this];exact nd1
 refine ⟨_,rfl,_,rfl,q,es1.map g2,ks,e0.n,rfl,ap,b6,nd2,by rw [cg];lia,fun r ss H6 s6 hr0 hr1 hpp hs=>?_⟩;have hpp1:ss.Perm ((es1.filter fun y=>decide (y.lord=some e0.n)).map (·.n)):=by
  rw [A3e,A0Z] at hpp;exact hpp
 have hsl:ss.length<=es1.length:=by
  rw [hpp1.length_eq,cg];exact A0J _ _
 have b7:=b5.same s6;have o6:=o5.trans (fj.same (q:=q) s6);refine ⟨r,rfl,⟨_,bR.of hr1⟩,dX (K:=K) (a:=r) (xs:=ss.map V.str) (fun i σ Hx=>(∃ u3,σ=[some (.ref q.B),some (.str e0.n),some (.str p),u3])/\Hx r=some (.lst (ss.map V.str))/\BQ q Hx (moved (lG es1) (ss.take i) p) (hoL es1) (lX 0x1D) (yE es1) ks/\fj q H Hx/\r≠q.l)
  ⟨⟨none,rfl⟩,hr1,b7,o6,Bq hr0 b5.l⟩ (fun i σ Hx _ h=>bR.of h.2.1) ?_ ?_⟩
 ·rintro i v σ Hx hv ⟨⟨u3,rfl⟩,rx,bx,ox,nr⟩;rw [jQ] at hv;obtain ⟨n,hn,rfl⟩:=A0t.mp hv;have hml:=wA (lG es1) p (ss.take i);rw [A0G,jz] at hml;refine ⟨_,rfl,_,rfl,q.B,_,rfl,bx.kl,_,rfl,q.l,_,rfl,iK.k (k:=.inr n) bx.l (bQ 0x3),?_⟩;have em:moved (lG es1) (ss.take (i+1)) p=putK (moved (lG es1) (ss.take i) p) 0x2C (.str p):=by rw [A1a,hn];exact um _ _ _ _
  refine ⟨⟨_,rfl⟩,by rw [aj nr];exact rx,?_,ox.trans fj.ul,nr⟩;rw [em];exact bx.ul ap
 ·rintro σ Hx ⟨⟨u3,rfl⟩,rx,bx,ox,nr⟩;rw [cg,A1c] at bx;subst hes1;rw [K7 (a:=e0.own) W.nd hpp1] at bx;refine k Hx ?_ ox;have f1:hoL 0x1D=hoL 0xD:=jh (g:=Bp e0.n p e0.own) fun _=>rfl;have f2:yE 0x1D=yE 0xD:=jh (g:=Bp e0.n p e0.own) fun _=>rfl
  show BQ q Hx (lG 0x1D) (hoL 0x1D) (lX 0x1D) (yE 0x1D) ks
  rw [f1,f2];exact bx
inductive Rw
 | grant (e n m:Str) (a s:Int)
 | convey (e m:Str)
 | kO (e:Str)
def Rw.Tx:Rw->Prop
 | .grant e n m _ _=>PyData.strOk e=true/\PyData.strOk n=true/\PyData.strOk m=true
 | .convey e m=>PyData.strOk e=true/\PyData.strOk m=true
 | .kO e=>PyData.strOk e=true
def Rw.Ok (ls:List Str):Rw->Prop
 | .grant _ n _ a s=>n∈ls/\1<=a/\a<=9999/\0<=s/\s<=9999
 | .convey e _=>e≠""
 | .kO e=>e≠""
def gP (es:List aU) (ks:List Str) (y:aU):Rw->Prop
 | .grant e n _ a _=>y∈es/\y.n=e/\n∉ks/\a<=y.own
 | .convey e _=>y∈es/\y.n=e
 | .kO e=>y∈es/\y.n=e
def nR (a:Int) (y:aU):aU:={ y with own:=y.own - a }
def lY (m:Str) (y:aU):aU:={ y with man:=m }
def rG (e n m:Str) (a s:Int) (t b:Addr):aU:=⟨n,some e,m,a,a,(s,1),t,b⟩
def stp (y:aU) (es:List aU) (t1 t2 b1 b2:Addr):Rw->List aU
 | .grant _ n m a s=>mod y.n (nR a) es++[rG y.n n m a s t1 b1]
 | .convey _ m=>mod y.n (lY m) es
 | .kO _=>cF y.n (y.lord.getD "") y.own es
def stK (ks:List Str):Rw->List Str
 | .grant _ n _ _ _=>ks++[n]
 | _=>ks
theorem rW {f:aU->V}{es:List aU}{y:aU}{g:aU->aU} (hg:∀ e,(g e).n=e.n) (nd:(nms es).Nodup) (hy:y∈es):kv f (mod y.n g es)=putK (kv f es) (.inr y.n) (f (g y)):=by
 rw [Oq hg,uw (A0e.mpr ⟨y,hy,rfl⟩)];refine gw fun e he=>?_
 split
 ·rename_i c
  rw [gM nd he hy c]
 ·rfl
theorem iD {f:aU->V}{es:List aU}{n:Str}{g:aU->aU}{x:aU} (hg:∀ e,(g e).n=e.n) (h:x.n∉nms es):kv f (mod n g es++[x])=putK (kv f (mod n g es)) (.inr x.n) (f x):=by
 rw [Ym,yF (by rw [pO hg];exact h)]
theorem P0 {f:aU->V}{es:List aU}{e n:Str}{u:V} (he:e∈nms es) (hn:n∉nms es):putK (putK (kv f es) 0x2C v) (.inr e) u=putK (putK (kv f es) (.inr e) u) 0x2C v:=by
 have ne:n≠e:=fun z=>hn (z ▸ he);rw [yF hn,uw he,yF hn];unfold putK;have ha:((kv f es++[(Sum.inr n,v)]).any fun x=>decide (x.1=Sum.inr e))=true:=by
  rw [List.any_append,Oj,A0g he];rfl
 rw [A0i ha,iZ,A0Z]
 congr 1
 ·refine A1K fun y _=>?_
  show (if (Sum.inr y.n:Key)=.inr e then (Sum.inr y.n,u) else (Sum.inr y.n,f y))=(Sum.inr y.n,if y.n=e then u else f y)
  by_cases q:y.n=e
  ·rw [A0i (key_eq.mpr q),A0i q]
  ·rw [A0f (fun z=>q (key_eq.mp z)),A0f q]
 ·show [if (Sum.inr n:Key)=.inr e then (Sum.inr n,u) else (Sum.inr n,v)]=_
  rw [A0f fun z=>ne (key_eq.mp z)]
structure Pu (es:List aU) (ks ls:List Str) (j:Nat) (wd:Int):Prop where
 W:WF es
 bd:∀ e∈es,Bd (10+5 * j) e.due
 kn:∀ e∈es,e.n≠""->e.n∈ks
 ln:es.length<=1+j
 lk:ks.length<=j
 nl:∀ e∈es,e.n=""\/e.n∈ls
 tot:(es.map (·.own)).sum=wd
structure Rel (C:Addr) (q:Ad) (H:Hp) (es:List aU) (ks:List Str) (ls:List Str) (j:Nat):Prop where
 ap:Ap q
 L:Ln C q H es
 B:Bk q H es ks
 W:WF es
 fr:∀ e∈es,jB H e.ta e.due.1 e.due.2/\jB H e.tb e.due.1 e.due.2/\Bd (10+5 * j) e.due
 kn:∀ e∈es,e.n≠""->e.n∈ks
 ln:es.length<=1+j
 lk:ks.length<=j
 nl:∀ e∈es,e.n=""\/e.n∈ls
 tot:(es.map (·.own)).sum=q.wd
theorem Pu.new {es:List aU} (r:Pu es ks ls j wd) {n:Str} (h:n∉ks) (h0:n≠""):n∉nms es:=fun c=>by
 obtain ⟨y,hy,rfl⟩:=fP c;exact h (r.kn y hy h0)
theorem Yx {es:List aU}{cO:Rw}{y:aU} (r:Pu es ks ls j wd) (hok:cO.Ok ls):∀ e∈stp y es t1 t2 b1 b2 cO,e.n=""\/e.n∈ls:=by
 intro z hz;cases cO with
 | grant e n m a s =>
  rcases A0l.mp hz with c | c
  ·obtain ⟨z0,h0,rfl⟩:=dI c;have e1:(if z0.n=y.n then nR a z0 else z0).n=z0.n:=by split <;> rfl
   rw [e1];exact r.nl z0 h0
  ·rw [A0b.mp c];exact .inr hok.1
 | convey e m =>
  obtain ⟨z0,h0,rfl⟩:=dI hz;have e1:(if z0.n=y.n then lY m z0 else z0).n=z0.n:=by split <;> rfl
  rw [e1];exact r.nl z0 h0
 | kO e =>
  obtain ⟨z0,h0,rfl⟩:=A0e.mp hz;exact r.nl z0 (A0q.mp h0).1
theorem Im {es:List aU}{y:aU}{g:aU->aU} (nd:(nms es).Nodup) (hy:y∈es):((mod y.n g es).map (·.own)).sum=(es.map (·.own)).sum - y.own+(g y).own:=by
 unfold mod;rw [A0Z,rT (F:=(·.own)) (e0:=y) nd hy fun z _ ne=>?_]
 ·show _ - y.own+(if y.n=y.n then g y else y).own=_
  rw [A0i rfl]
 ·show (if z.n=y.n then g z else z).own=z.own
  rw [A0f ne]
theorem U8 {es:List aU}{cO:Rw}{y:aU} (W:WF es) (hst:gP es ks y cO) (hok:cO.Ok ls):((0x38).map (·.own)).sum=(es.map (·.own)).sum:=by
 cases cO with
 | grant e n m a s =>
  obtain ⟨hy,rfl,_⟩:=hst
  show ((mod y.n (nR a) es++[rG y.n n m a s t1 b1]).map (·.own)).sum=_
  rw [iZ,List.sum_append,Im W.nd hy]
  show _ - y.own+(y.own - a)+(a+0)=_
  lia
 | convey e m =>
  obtain ⟨hy,rfl⟩:=hst
  show ((0x18).map (·.own)).sum=_
  rw [Im W.nd hy]
  show _ - y.own+y.own=_
  lia
 | kO e =>
  obtain ⟨hy,rfl⟩:=hst;obtain ⟨p,hp,hpm,hpn⟩:=W.lord y hy hok;obtain ⟨z,hz,Es⟩:=fP hpm;have ep:y.lord.getD ""=p:=by rw [hp];rfl
  show ((cF y.n (y.lord.getD "") y.own es).map (·.own)).sum=_
  rw [ep];unfold cF;rw [A0Z,ux (F:=(·.own)∘Bp y.n p y.own) W.nd hy];have e1:(es.map ((·.own)∘Bp y.n p y.own)).sum=(es.map (·.own)).sum - z.own+(z.own+y.own):=by
   rw [rT (F:=(·.own)) (e0:=z) W.nd hz fun u _ ne=>?_]
   ·show _ - z.own+(if z.n=p then z.own+y.own else z.own)=_
    rw [A0i Es]
   ·show (if u.n=p then u.own+y.own else u.own)=u.own
    rw [A0f (by rw [<- Es];exact ne)]
  rw [e1]
  show _ - (if y.n=p then y.own+y.own else y.own)=_
  rw [A0f (A0k hpn)];lia
theorem Yy {es:List aU}{cO:Rw}{y:aU} (r:Pu es ks ls j wd) (hst:gP es ks y cO) (hok:cO.Ok ls) (hls:∀ n∈ls,n≠""/\PyData.strOk n=true) :
  WF 0x38/\(∀ e∈stp y es t1 t2 b1 b2 cO,e.n≠""->e.n∈stK ks cO)/\(0x38).length<=1+(j+1)/\(stK ks cO).length<=j+1:=by
 have lk:=r.lk;have ln:=r.ln;have ml:∀ (n:Str) (g:aU->aU),(mod n g es).length=es.length:=fun n g=>cg _;cases cO with
 | grant e n m a s =>
  obtain ⟨hy,rfl,hn,ha⟩:=hst;obtain ⟨h1,h2,h3,h4,h5⟩:=hok;have hx:=r.new hn (hls n h1).1;refine ⟨WF.new r.W hy (x:=rG y.n n m a s t1 b1) 0xF 0xF rfl 0x3 ha hx (hls n h1).2 rfl rfl (.inl ⟨rfl,rfl⟩),fun z hz hne=>?_,?_,?_⟩
  ·rcases A0l.mp hz with c | c
   ·obtain ⟨z0,h0,rfl⟩:=dI c;refine A0U _ ?_;have e1:(if z0.n=y.n then nR a z0 else z0).n=z0.n:=by split <;> rfl
    rw [e1] at hne ⊢;exact r.kn z0 h0 hne
   ·rw [A0b.mp c];exact A0z _ (A0b.mpr rfl)
  ·show (mod y.n (nR a) es++[rG y.n n m a s t1 b1]).length<=_
   rw [gZ,ml,A0r];lia
  ·show (ks++[n]).length<=_
   rw [gZ,A0r];lia
 | convey e m =>
  refine ⟨WF.mod r.W 0xF 0xF 0xF fun _=>rfl,fun z hz hne=>?_,?_,?_⟩
  ·obtain ⟨z0,h0,rfl⟩:=dI hz;have e1:(if z0.n=y.n then lY m z0 else z0).n=z0.n:=by split <;> rfl
   rw [e1] at hne ⊢;exact r.kn z0 h0 hne
  ·show (0x18).length<=_
   rw [ml];lia
  ·show ks.length<=_
   lia
 | kO e =>
  obtain ⟨hy,rfl⟩:=hst;obtain ⟨p,hp,_,_⟩:=r.W.lord y hy hok;have ep:y.lord.getD ""=p:=by rw [hp];rfl
  refine ⟨?_,fun z hz hne=>?_,?_,?_⟩
  ·show WF (cF y.n (y.lord.getD "") y.own es)
   rw [ep];exact WF.fall r.W hy hok hp
  ·obtain ⟨z0,h0,rfl⟩:=A0e.mp hz;exact r.kn z0 (A0q.mp h0).1 hne
  ·show (cF y.n (y.lord.getD "") y.own es).length<=_
   unfold cF;rw [cg];have:=A0J (fun x=>decide (x.n≠y.n)) es;lia
  ·show ks.length<=_
   lia
def Ka (q:Ad) (H H':Hp):Prop:=∀ c u,c≠q.a1->c≠q.a2->c≠q.a3->c≠q.a4->c≠q.a5->H c=some u->H' c=some u
def ZG (y:aU) (t1 t2:Addr) (H:Hp):Rw->Prop
 | .grant _ _ _ _ s=>jB H t1 s 1
 | .convey _ _=>True
 | .kO _=>True
section
variable {es:List aU}{cO:Rw}{y:aU}
theorem Pu.up {k:Nat} (r:Pu es ks ls j wd) (h:j<=k):Pu es ks ls k wd :=
 ⟨r.W,fun e he=>(r.bd e he).mono 0x3,r.kn,by have:=r.ln;lia,by have:=r.lk;lia,r.nl,r.tot⟩
theorem Pu.step (R:Pu es ks ls j wd) (hst:gP es ks y cO) (hok:cO.Ok ls) (hls:∀ n∈ls,n≠""/\PyData.strOk n=true):Pu 0x38 (stK ks cO) ls (j+1) wd:=by
 obtain ⟨w1,w2,w3,w4⟩:=Yy (t1:=t1) (t2:=t2) (b1:=b1) (b2:=b2) R hst hok hls;refine ⟨w1,?_,w2,w3,w4,Yx R hok,(U8 R.W hst hok).trans R.tot⟩;have old:∀ y0∈es,Bd (10+5 * (j+1)) y0.due:=fun y0 h0=>(R.bd y0 h0).mono 0x3;cases cO with
 | grant e n m a s =>
  obtain ⟨hy,rfl,hn,ha⟩:=hst;obtain ⟨h1,h2,h3,h4,h5⟩:=hok;intro z hz;rcases A0l.mp hz with c | c
  ·obtain ⟨y0,h0,rfl⟩:=dI c;have:=old y0 h0
   split
   ·exact this
   ·exact this
  ·rw [A0b.mp c]
   show Bd _ (s,1)
   have hp:10 ^ 5<=10 ^ (10+5 * (j+1)):=A3y 0x6 0x3;refine ⟨A0x ?_ hp,by show (0:Int)<1;decide,A0x ?_ hp⟩
   ·show s.natAbs<10 ^ 5
    lia
   ·show (1:Int).natAbs<10 ^ 5
    decide
 | convey e m =>
  intro z hz;obtain ⟨y0,h0,rfl⟩:=dI hz;have:=old y0 h0
  split
  ·exact this
  ·exact this
 | kO e =>
  intro z hz;obtain ⟨y0,h0,rfl⟩:=A0e.mp hz;exact old y0 (A0q.mp h0).1
theorem pQ (sel:aU->Addr) {u1 u2:Addr} (nd:(nms es).Nodup) (hst:gP es ks y cO) (old:∀ e∈es,jB H (sel e) e.due.1 e.due.2) (f:ZG y u1 u2 H cO)
  (g1:∀ a (z:aU),sel (nR a z)=sel z) (g3:∀ m z,sel (lY m z)=sel z) (g4:∀ e p a z,sel (Bp e p a z)=sel z) (x1:∀ e n m a s,sel (rG e n m a s t1 b1)=u1) :
  ∀ e∈stp y es t1 t2 b1 b2 cO,jB H (sel e) e.due.1 e.due.2:=by
 cases cO with
 | grant e n m a s =>
  obtain ⟨hy,rfl,hn,ha⟩:=hst;intro z hz;rcases A0l.mp hz with c | c
  ·obtain ⟨y0,h0,rfl⟩:=dI c;have:=old y0 h0
   split
   ·rw [g1];exact this
   ·exact this
  ·rw [A0b.mp c,x1];exact f
 | convey e m =>
  intro z hz;obtain ⟨y0,h0,rfl⟩:=dI hz;have:=old y0 h0
  split
  ·rw [g3];exact this
  ·exact this
 | kO e =>
  intro z hz;obtain ⟨y0,h0,rfl⟩:=A0e.mp hz;rw [g4];exact old y0 (A0q.mp h0).1
end
section
variable {q:Ad}{es:List aU}{y:aU}{Q:VK}{E:XK}
def Pa (C:Addr) (q:Ad) (H:Hp) (es:List aU) (y:aU) (cO:Rw) (Q:VK):Prop:=∀ t1 t2 H',(∀ b1 b2,Ln C q H' 0x38)->ZG y t1 t2 H' cO->Ka q H H'->Q .non H'
theorem Pb {e n m:Str}{a s:Int} (R:Pu es ks ls j wd) (L:Ln C q H es) (a5:Ti q.a1 q.a2 q.a3 q.a4 q.a5) (fr:∀ e∈es,jB H e.ta e.due.1 e.due.2) (hst:gP es ks y (.grant e n m a s)) (hok:Rw.Ok ls (.grant e n m a s)) (hls:∀ n∈ls,n≠""/\PyData.strOk n=true) (hj:j<=60) (k:Pa C q H es y (.grant e n m a s) Q):rQ C [.ref q.x,.str e,.str n,.str m,.int a,.int s] H Q E:=by
 have W:=R.W;have ln:=R.ln;have kl:∀ {f:aU->V},(kv f es).length<=800:=by intro f;rw [jz];lia
 obtain ⟨hy,rfl,hn,ha⟩:=hst;obtain ⟨h1,h2,h3,h4,h5⟩:=hok;have hnn:=R.new hn (hls n h1).1;refine ⟨q.x,q.dx,q.a1,q.a2,q.a3,q.a4,q.a5,_,_,_,_,_,y.n,n,m,a,s,y.own,rfl,L,a5,eG W.nd hy,A0M kl 0x6,A0M kl 0x6,kl,A0M kl 0x6,A0M kl 0x6,fun t ht=>?_⟩;have nt:∀ {b:Addr}{u:HO},H b=some u->t≠b:=fun hb z=>by rw [z,hb] at ht;cases ht
 refine k t 0 _ (fun c1 c2=>?_) ?_ ?_
 ·have e1:lG (stp y es t 0 c1 c2 (.grant y.n n m a s))=putK (lG es) 0x2C (.str y.n):=by
   show kv _ (mod y.n (nR a) es++[rG y.n n m a s t c1])=_
   rw [iD (g:=nR a) (x:=rG y.n n m a s t c1) 0xF hnn,fY (g:=nR a) 0xF 0xF];rfl
  have e2:hoL (stp y es t 0 c1 c2 (.grant y.n n m a s))=putK (hoL es) 0x2C (.str m):=by
   show kv _ (mod y.n (nR a) es++[rG y.n n m a s t c1])=_
   rw [iD (g:=nR a) (x:=rG y.n n m a s t c1) 0xF hnn,fY (g:=nR a) 0xF 0xF];rfl
  have e3:lX (stp y es t 0 c1 c2 (.grant y.n n m a s))=putK (putK (lX es) (.inr y.n) (.int (y.own - a))) 0x2C (.int a):=by
   show kv _ (mod y.n (nR a) es++[rG y.n n m a s t c1])=_
   rw [iD (g:=nR a) (x:=rG y.n n m a s t c1) 0xF hnn,rW (g:=nR a) 0xF W.nd hy];rfl
  have e4:U3 (stp y es t 0 c1 c2 (.grant y.n n m a s))=putK (U3 es) 0x2C (.ref t):=by
   show kv _ (mod y.n (nR a) es++[rG y.n n m a s t c1])=_
   rw [iD (g:=nR a) (x:=rG y.n n m a s t c1) 0xF hnn,fY (g:=nR a) 0xF 0xF];rfl
  have e5:RZ (stp y es t 0 c1 c2 (.grant y.n n m a s))=putK (RZ es) 0x2C (.int a):=by
   show kv _ (mod y.n (nR a) es++[rG y.n n m a s t c1])=_
   rw [iD (g:=nR a) (x:=rG y.n n m a s t c1) 0xF hnn,fY (g:=nR a) 0xF 0xF];rfl
  show cP C _ q.x q.dx q.a1 q.a2 q.a3 q.a4 q.a5 _ _ _ _ _
  rw [e1,e2,e3,e4,e5];have x1:=aM L.o L.l1 0x5;have x2:=aM L.o L.l2 0x5;have x3:=aM L.o L.l3 0x5;have x4:=aM L.o L.l4 0x5;have x5:=aM L.o L.l5 0x5;unfold JN;refine ⟨?_,?_,?_,?_,?_,ao⟩
  ·rw [aj x5,aj x4,aj x3,aj x2,aj x1,aj (A0k (nt L.o)),aj x3];exact L.o
  ·rw [aj a5.n15,aj a5.n14,aj a5.n13,aj a5.n12,ao]
  ·rw [aj a5.n25,aj a5.n24,aj a5.n23,ao]
  ·rw [aj a5.n35,aj a5.n34,ao]
  ·rw [aj a5.n45,ao]
 ·show JN _ _ _ _ _ _ _ _ _ _ _ _ _ _ _ _ t=some (.tup [.int s,.int 1])
  unfold JN;rw [aj (nt L.l5),aj (nt L.l4),aj (nt L.l3),aj (nt L.l2),aj (nt L.l1),ao]
 ·intro c u c1 c2 c3 c4 c5 hc;unfold JN;rw [aj c5,aj c4,aj c3,aj c2,aj c1,aj (A0k (nt hc)),aj c3];exact hc
theorem Kc {e m:Str} (R:Pu es ks ls j wd) (L:Ln C q H es) (a5:Ti q.a1 q.a2 q.a3 q.a4 q.a5) (fr:∀ e∈es,jB H e.ta e.due.1 e.due.2) (hst:gP es ks y (.convey e m)) (hok:Rw.Ok ls (.convey e m)) (hls:∀ n∈ls,n≠""/\PyData.strOk n=true) (hj:j<=60) (k:Pa C q H es y (.convey e m) Q):pJ C [.ref q.x,.str e,.str m] H Q E:=by
 have W:=R.W;have ln:=R.ln;have kl:∀ {f:aU->V},(kv f es).length<=800:=by intro f;rw [jz];lia
 obtain ⟨hy,rfl⟩:=hst;refine ⟨q.x,q.dx,q.a1,q.a2,q.a3,q.a4,q.a5,_,_,_,_,_,y.n,m,rfl,L,A0M kl 0x6,?_⟩;refine k 0 0 _ (fun c1 c2=>?_) True.intro fun c u _ c2 _ _ _ hc=>by rw [aj c2];exact hc
 have e2:hoL 0x18=putK (hoL es) (.inr y.n) (.str m):=rW (g:=lY m) 0xF W.nd hy
 show cP C _ q.x q.dx q.a1 q.a2 q.a3 q.a4 q.a5 (lG 0x18) (hoL 0x18) (lX 0x18) (U3 0x18) (RZ 0x18)
 rw [e2];have e1:lG 0x18=lG es:=fY (g:=lY m) 0xF 0xF es;have e3:lX 0x18=lX es:=fY (g:=lY m) 0xF 0xF es;have e4:U3 0x18=U3 es:=fY (g:=lY m) 0xF 0xF es;have e5:RZ 0x18=RZ es:=fY (g:=lY m) 0xF 0xF es;rw [e1,e3,e4,e5];exact ⟨by rw [aj (aM L.o L.l2 0x5)];exact L.o,by rw [aj a5.n12];exact L.l1,ao,by rw [aj (A0k a5.n23)];exact L.l3,by rw [aj (A0k a5.n24)];exact L.l4,by rw [aj (A0k a5.n25)];exact L.l5⟩
theorem U9 {e:Str} (R:Pu es ks ls j wd) (L:Ln C q H es) (a5:Ti q.a1 q.a2 q.a3 q.a4 q.a5) (fr:∀ e∈es,jB H e.ta e.due.1 e.due.2) (hst:gP es ks y (.kO e)) (hok:Rw.Ok ls (.kO e)) (hls:∀ n∈ls,n≠""/\PyData.strOk n=true) (hj:j<=60) (k:Pa C q H es y (.kO e) Q):yq C [.ref q.x,.str e] H Q E:=by
 have W:=R.W;have ln:=R.ln;have kl:∀ {f:aU->V},(kv f es).length<=800:=by intro f;rw [jz];lia
 obtain ⟨hy,rfl⟩:=hst;obtain ⟨p,hp,hpm,hpn⟩:=W.lord y hy hok;obtain ⟨z,hz,Es⟩:=fP hpm;have ep:y.lord.getD ""=p:=by rw [hp];rfl
 have vp:=eG (f:=fun e=>V.int e.own) W.nd hz;rw [Es] at vp;refine ⟨q.x,q.dx,q.a1,q.a2,q.a3,q.a4,q.a5,_,_,_,_,_,y.n,p,y.own,z.own,rfl,L,a5,(by rw [eG W.nd hy,hp];rfl),eG W.nd hy,vp,(by rw [eG W.nd hy];rfl),(by rw [eG W.nd hy];rfl),(by rw [eG W.nd hy];rfl),Ol,a0A,(by rw [jz];lia),kl,fun ss H' hss _ L' out=>?_⟩;rw [K6 (a:=y.own) W.nd hss,Ov W.nd hz Es,oJ (p:=p) (a:=y.own) (f:=fun e=>V.str e.man) 0xF,oJ (p:=p) (a:=y.own) (f:=fun e=>V.ref e.ta) 0xF,oJ (p:=p) (a:=y.own) (f:=fun e=>V.int e.br) 0xF] at L';refine k 0 0 H' (fun c1 c2=>?_) True.intro out
 show Ln C q H' (cF y.n (y.lord.getD "") y.own es)
 rw [ep];exact L'
end
end M
namespace L2
open PySem PySem.Spec PyProof.Rows PySem.W
def vD (H:Hp):List 0x30->List (Key×PyData)->Prop:=Paired fun (p:Key×V) (q:Key×PyData)=>p.1=q.1/\cM H p.2 q.2/\q.2.canLay0=true/\q.2.depth<=8
def Kd (ds:List (Key×PyData)) (k:Key):Option PyData:=(ds.find? fun q=>decide (q.1=k)).map (·.2)
def uz (bs:List (Key×PyData)) (q:Key×PyData):Bool:=match Kd bs q.1 with
 | none=>false
 | some d=>PyData.eqv q.2 d
def gQ (as bs:List (Key×PyData)):Bool:=(as.length==bs.length)&&as.all (uz bs)
theorem vD.at {k:Key}:∀ {kb:List 0x30}{db:List (Key×PyData)},vD H kb db->(bI kb k=none/\Kd db k=none)\/∃ v d,bI kb k=some v/\Kd db k=some d/\cM H v d/\d.canLay0=true/\d.depth<=8
 | _,_,.nil=>.inl ⟨rfl,rfl⟩
 | p::l1,q::l2,.cons h r=>by
  obtain ⟨e,h1,h2,h3⟩:=h
  by_cases hk:p.1=k
  ·refine .inr ⟨p.2,q.2,?_,?_,h1,h2,h3⟩
   ·unfold bI;rw [A1n (by simpa using hk)];rfl
   ·unfold Kd;rw [A1n (by rw [<- e];simpa using hk)];rfl
  ·have e1:bI (p::l1) k=bI l1 k:=by unfold bI;rw [A1e (by simpa using hk)]
   have e2:Kd (q::l2) k=Kd l2 k:=by unfold Kd;rw [A1e (by rw [<- e];simpa using hk)]
   rw [e1,e2];exact vD.at r
theorem Io (I:Inv X pins σ H s) (hu:X.A.units+64<cLine) {kb:List 0x30}{vb:List (Key×Value)}{db:List (Key×PyData)} (rb:KV kb vb) (hb:vD H kb db) :
  ∀ {ka:List 0x30}{va:List (Key×Value)}{da:List (Key×PyData)},KV ka va->vD H ka da->KeqHits X.A.in1 s vb va (da.all (uz db))
 | _,_,_,.nil,h=>by cases h;exact .nil
 | _,_,_,.cons (a:=p) (b:=u) h r,h'=>by
  cases h' with
  | cons g g' =>
   rename_i q qs
   obtain ⟨e,rv⟩:=h;obtain ⟨e',h1,h2,h3⟩:=g;have rest:=Io I hu rb hb r g';obtain ⟨uk,uv⟩:=u;obtain ⟨pk,pv⟩:=p;obtain ⟨qk,qv⟩:=q;have e1:pk=uk:=e;have e2:pk=qk:=e';subst e1;subst e2;have rel:=KV.val rb pk;rw [A2k];rcases vD.at (k:=pk) hb with ⟨n1,n2⟩ | ⟨v,d,n1,n2,m1,m2,m3⟩
   ·have:uz db (pk,qv)=false:=by unfold uz;rw [n2]
    rw [this,Bool.false_and];refine .miss ?_;rw [n1] at rel;exact jk.none_of rel
   ·have:uz db (pk,qv)=PyData.eqv qv d:=by unfold uz;rw [n2]
    rw [this];rw [n1] at rel;obtain ⟨y,hy,ry⟩:=jk.some_of rel;obtain ⟨as,ra⟩:=cM.reads I h1 rv;obtain ⟨bs,rb'⟩:=cM.reads I m1 ry;refine .hit hy (A4r _ _ _ _ _ _ _ _ ra rb' h2 m2 ?_) rest;have:X.A.in1.units=X.A.units+1:=rfl;lia
inductive rEqK (x y:V) (H:Hp) (Q:VK):Prop
 | mk (a b:Addr) (ka kb:List 0x22) (da db:List (Prod L2.Key PySem.PyData)) (_:x=.ref a) (_:y=.ref b) (_:H a=some (.dK ka)) (_:H b=some (.dK kb)) (_:vD H ka da) (_:vD H kb db) (_:Q (.bl (gQ da db)) H):rEqK x y H Q
theorem yI (hu:X.A.units+64<cLine):mq X (compareOp .Eq) rEqK:=by
 intro pins s σ H x y v u Q I rx ry h;obtain ⟨a,b,ka,kb,da,db,rfl,rfl,ha,hb,ga,gb,q⟩:=h;cases rx;cases ry;obtain ⟨_,n1,va,r1,d1⟩:=nZ I.hok ha;obtain ⟨_,n2,vb,r2,d2⟩:=nZ I.hok hb;refine keq_eq n1 n2 d1 d2 0x3 (fun _=>Io I hu r2 gb r1 ga) ⟨.bl _,H,I,?_,q⟩;have l1:va.length=da.length:=by rw [<- KV.length r1];exact A2P ga
 have l2:vb.length=db.length:=by rw [<- KV.length r2];exact A2P gb
 show Value.bool _=Value.bool _
 unfold gQ;rw [l1,l2]
end L2
namespace M
open PySem L2 PyProof.Rows
def core (e:aU):Str×Option Str×Str×Int×(Int×Int):=(e.n,e.lord,e.man,e.own,e.due)
def Pg:Option Str->PyData
 | none=>.none
 | some s=>.str s
abbrev kd (f:aU->PyData) (es:List aU):List (Key×PyData):=es.map fun e=>(Sum.inr e.n,f e)
abbrev loD (es:List aU):=kd (fun e=>Pg e.lord) es
abbrev hoD (es:List aU):=kd (fun e=>.str e.man) es
abbrev owD (es:List aU):=kd (fun e=>.int e.own) es
abbrev seD (es:List aU):=kd (fun e=>.tuple [.int e.due.1,.int e.due.2]) es
def Ip (es es':List aU):Bool:=gQ (loD es) (loD es')&&(gQ (hoD es) (hoD es')&&(gQ (owD es) (owD es')&&gQ (seD es) (seD es')))
def rH (es:List aU) (ks:List Str):Prop:=nms es=("" : Str)::ks.filter fun (n:Str)=>decide (n∈nms es)
theorem Ph {f:aU->PyData}{e:aU}:∀ {es:List aU},(nms es).Nodup->e∈es->Kd (kd f es) (.inr e.n)=some (f e)
 | [],_,h=>nomatch h
 | y::es,nd,h=>by
  have nd':=A0T.mp nd
  by_cases q:y.n=e.n
  ·have:y=e:=by
    rcases A0d.mp h with h | h
    ·exact h.symm
    ·exact absurd (A0e.mpr ⟨e,h,q.symm⟩) nd'.1
   subst this;unfold Kd kd;rw [A0m,A1n 0xA];rfl
  ·have he:e∈es:=by
    rcases A0d.mp h with h | h
    ·exact absurd (by rw [h]) q
    ·exact h
   have:=Ph (f:=f) (e:=e) nd'.2 he;unfold Kd kd at this ⊢;rw [A0m,A1e (by simp;exact q)];exact this
theorem Pj {f:aU->PyData}{n:Str}:∀ {es:List aU}{d:PyData},Kd (kd f es) 0x2C=some d->n∈nms es
 | [],_,h=>by cases h
 | y::es,d,h=>by
  by_cases q:y.n=n
  ·rw [<- q];exact A0o
  ·refine jT _ (Pj (f:=f) (es:=es) (d:=d) ?_);unfold Kd kd at h ⊢;rw [A0m,A1e (by simp;exact q)] at h;exact h
theorem yJ {f:aU->PyData}{es es':List aU} (h:gQ (kd f es) (kd f es')=true):es.length=es'.length/\∀ e∈es,uz (kd f es') (.inr e.n,f e)=true:=by
 unfold gQ at h;rw [A1b] at h;refine ⟨by have:=h.1;simpa using this,fun e he=>?_⟩;exact A1u.mp h.2 _ (A0e.mpr ⟨e,he,rfl⟩)
theorem rY {f:aU->PyData}{es':List aU}{e e':aU} (nd:(nms es').Nodup) (h:uz (kd f es') (.inr e.n,f e)=true) (he:e'∈es') (hn:e'.n=e.n):PyData.eqv (f e) (f e')=true:=by
 have a:=Ph (f:=f) nd he;rw [hn] at a;unfold uz at h;rw [a] at h;exact h
theorem Yz {f:aU->PyData}{es':List aU}{e:aU} (h:uz (kd f es') (.inr e.n,f e)=true):e.n∈nms es':=by
 unfold uz at h;cases a:Kd (kd f es') (.inr e.n) with
 | none=>rw [a] at h;cases h
 | some d=>exact Pj a
theorem Pk {a b:Option Str} (h:PyData.eqv (Pg a) (Pg b)=true):a=b:=by
 cases a with
 | none=>cases b with
  | none=>rfl
  | some y=>cases h
 | some x=>cases b with
  | none=>cases h
  | some y =>
   have:(x==y)=true:=h;rw [A3T this]
theorem Pn {l m:List Str} (hl:l.Nodup) (hm:m.Nodup) (sub:∀ x∈l,x∈m) (len:l.length=m.length):∀ x∈m,x∈l:=fun x hx=>by
 by_cases c:x∈l
 ·exact c
 ·have:=sub_len (l:=x::l) (m:=m) (A0T.mpr ⟨c,hl⟩) fun y hy=>by
   rcases A0d.mp hy with rfl | h
   ·exact hx
   ·exact sub y h
  rw [vI] at this;lia
theorem Ke {es es':List aU} (o:rH es ks) (o':rH es' ks') (pre:ks' <+: ks) (nd:(nms es).Nodup) (nd':(nms es').Nodup) (h:Ip es es'=true):es.map core=es'.map core:=by
 unfold Ip at h;simp only [A1b] at h;obtain ⟨h1,h2,h3,h4⟩:=h;obtain ⟨len,g1⟩:=yJ h1;obtain ⟨_,g2⟩:=yJ h2;obtain ⟨_,g3⟩:=yJ h3;obtain ⟨_,g4⟩:=yJ h4;have sub:∀ x∈nms es,x∈nms es':=fun x hx=>by
  obtain ⟨e,he,rfl⟩:=fP hx;exact Yz (g1 e he)
 have ln:(nms es).length=(nms es').length:=by rw [cg,cg];exact len
 have sup:=Pn nd nd' sub ln;have en:nms es=nms es':=by
  obtain ⟨more,rfl⟩:=pre;have ef:∀ l:List Str,(l.filter fun n=>decide (n∈nms es))=l.filter fun n=>decide (n∈nms es'):=fun l =>
   A2f fun x _=>by
    by_cases c:x∈nms es
    ·rw [A0g c,A0g (sub x c)]
    ·rw [A0n c,A0n fun z=>c (sup x z)]
  unfold rH at o o';rw [ef,A1i] at o;have l1:=A1R List.length o;have l2:=A1R List.length o';rw [vI,gZ] at l1;rw [vI] at l2;have l3:(more.filter fun n=>decide (n∈nms es')).length=0:=by lia
  rw [List.length_eq_zero_iff.mp l3,A0K] at o;exact o.trans o'.symm
 refine List.ext_getElem? fun i=>?_;rw [jQ,jQ];have ei:(nms es)[i]?=(nms es')[i]?:=by rw [en]
 rw [jQ,jQ] at ei;cases a:es[i]? with
 | none =>
  rw [a] at ei;cases b:es'[i]? with
  | none=>rfl
  | some e'=>rw [b] at ei;cases ei
 | some e =>
  rw [a] at ei;cases b:es'[i]? with
  | none=>rw [b] at ei;cases ei
  | some e' =>
   rw [b] at ei;have hn:e'.n=e.n:=by injection ei with ei;exact ei.symm
   have he:=vm a;have he':=vm b;have q1:=Pk (rY nd' (g1 e he) he' hn);have q2:(e.man==e'.man)=true:=rY nd' (g2 e he) he' hn;have q3:(e.own==e'.own)=true:=rY nd' (g3 e he) he' hn;have q4:((e.due.1==e'.due.1)&&((e.due.2==e'.due.2)&&true))=true:=rY nd' (g4 e he) he' hn;simp only [A1b,and_true] at q4;have r1:=A3T q4.1;have r2:=A3T q4.2
   show some (core e)=some (core e')
   unfold core;rw [hn,q1,A3T q2,A3T q3,show e.due=e'.due from Prod.ext r1 r2]
theorem Kf {es:List aU}{cO:Rw}{y:aU} (o:rH es ks) (R:Pu es ks ls j wd) (hst:gP es ks y cO) (hok:cO.Ok ls) (hls:∀ n∈ls,n≠""/\PyData.strOk n=true):rH 0x38 (stK ks cO):=by
 have new:∀ (n:Str) (es2:List aU) (x:aU),nms es2=nms es->x.n=n->n∉ks->n≠""->rH (es2++[x]) (ks++[n]):=fun n es2 x h2 hx hn h0=>by
  have hnn:n∉nms es:=R.new hn h0;unfold rH at o ⊢;have e1:nms (es2++[x])=nms es++[n]:=by show List.map _ _=_;rw [iZ];show nms es2++[x.n]=_;rw [h2,hx]
  rw [e1,A1i];have f1:(ks.filter fun m=>decide (m∈nms es++[n]))=ks.filter fun m=>decide (m∈nms es):=A2f fun m hm=>by
   have:m≠n:=fun z=>hn (z ▸ hm);simp [this]
  have f2:([n].filter fun m=>decide (m∈nms es++[n]))=[n]:=by simp
  rw [f1,f2]
  conv=>lhs;rw [o]
  rfl
 have nmod:∀ (g:aU->aU) (m:Str),(∀ z,(g z).n=z.n)->nms (mod m g es)=nms es:=fun g m hg=>by
  show List.map _ (List.map _ es)=_
  rw [A0Z];refine A1K fun z _=>?_
  show (if z.n=m then g z else z).n=z.n
  split
  ·exact hg z
  ·rfl
 cases cO with
 | grant e n m a s=>exact new n _ _ (nmod _ _ fun _=>rfl) rfl hst.2.2.1 (hls n hok.1).1
 | convey e m =>
  have:nms (stp y es t1 t2 b1 b2 (.convey e m))=nms es:=nmod _ _ fun _=>rfl;unfold rH at o ⊢;rw [this];exact o
 | kO e =>
  have e1:nms (stp y es t1 t2 b1 b2 (.kO e))=(nms es).filter fun n=>decide (n≠y.n):=by
   show List.map _ (List.map _ (List.filter _ es))=_
   rw [A0Z]
   show List.map (fun z=>(Bp y.n (y.lord.getD "") y.own z).n) _=_
   show List.map (fun z:aU=>z.n) _=_
   rw [A3e];rfl
  have hy:y.n≠"":=by have h2:=hst.2;rw [h2];exact hok
  unfold rH at o ⊢;rw [e1]
  conv=>lhs;rw [o]
  rw [A0Y (by simpa using A0k hy),List.filter_filter]
  congr 1
  refine A2f fun m _=>?_;rw [A1g,A1b,A1H,A1H,A1H,A0q,A1H];exact And.comm
abbrev Pq:Stmt:=inClass (top 16) 0
abbrev Et:Stmt:=inClass (top 16) 1
abbrev YB:Stmt:=inClass (top 16) 2
abbrev yK:Stmt:=inClass (top 16) 3
abbrev Eu:Stmt:=inClass (top 16) 4
inductive Tk (hv:Str->Option Str) (gv:Str->Bool):List Str->Option Str->Option Str->Prop
 | none {m:List Str}:Tk hv gv m none none
 | met {m:List Str}{h:Str}:h∈m->Tk hv gv m (some h) none
 | alive {m:List Str}{h:Str}:¬ h∈m->gv h=false->Tk hv gv m (some h) (some h)
 | step {m:List Str}{h:Str}{r:Option Str}:¬ h∈m->gv h=true->Tk hv gv (m++[h]) (hv h) r->Tk hv gv m (some h) r
theorem Tk.det {gv:Str->Bool}:∀ {m:List Str}{c r r':Option Str},Tk hv gv m c r->Tk hv gv m c r'->r=r':=by
 intro m c r r' h
 induction h with
 | none=>intro q;cases q;rfl
 | met h=>intro q;cases q with
  | met _=>rfl
  | alive n _=>exact absurd h n
  | step n _ _=>exact absurd h n
 | alive n g=>intro q;cases q with
  | met h=>exact absurd h n
  | alive _ _=>rfl
  | step _ g' _=>rw [g] at g';cases g'
 | step n g t ih=>intro q;cases q with
  | met h=>exact absurd h n
  | alive _ g'=>rw [g] at g';cases g'
  | step _ _ t'=>exact ih t'
def mZ:Option Str->V
 | none=>.non
 | some z=>.str z
def HV (hs:List 0x30) (hv:Str->Option Str):Prop:=∀ m,bI hs (.inr m)=(hv m).map V.str
def GV (gs:List 0x30) (gv:Str->Bool):Prop:=∀ m,(bI gs (.inr m)).isSome=gv m
theorem Ir (h:HV hs hv) (m:Str):(bI hs (.inr m)).getD .non=mZ (hv m):=by
 rw [h m];cases hv m <;> rfl
theorem wJ {α:Type} [DecidableEq α]:∀ (l k:List α),l.Nodup->(∀ x∈l,x∈k)->l.length<=k.length
 | [],_,_,_=>A1f _
 | x::l,k,hn,hs=>by
  have h1:=A0T.mp hn;have hx:=hs x A0o;have ih:=wJ l (k.erase x) h1.2 fun y hy=>by
   have hne:y≠x:=fun e=>h1.1 (e ▸ hy);exact (List.mem_erase_of_ne hne).mpr (hs y (jT _ hy))
  have hl:=List.length_erase_of_mem hx;have hp:0<k.length:=A3q hx;rw [vI];lia
theorem Ua {k:Key} (h:(bI kvs k).isSome=true):k∈kvs.map (·.1):=by
 induction kvs with
 | nil=>cases h
 | cons p r ih =>
  by_cases e:p.1=k
  ·rw [<- e];exact A0o
  ·rw [dR e] at h;exact jT _ (ih h)
theorem few (h:HV hs hv) {l:List Str} (hn:l.Nodup) (ha:∀ x∈l,(hv x).isSome=true):l.length<=hs.length:=by
 have h1:=wJ (l.map (Sum.inr:Str->Key)) (hs.map (·.1)) (by
  unfold List.Nodup;rw [List.pairwise_map];exact List.Pairwise.imp (fun hab e=>hab (by injection e)) hn) fun k hk=>by
  obtain ⟨x,hx,rfl⟩:=A0e.mp hk;refine Ua ?_;rw [h x];have:=ha x hx;cases e:hv x with
  | none=>rw [e] at this;cases this
  | some z=>rfl
 rw [cg,cg] at h1;exact h1
theorem uD {l:List Str}{h:Str} (hn:l.Nodup) (hh:¬ h∈l):(l++[h]).Nodup:=by
 unfold List.Nodup at hn ⊢;rw [A2w];refine ⟨hn,A3k _ _,fun a ha b hb e=>?_⟩;rw [A0b.mp hb] at e;exact hh (e ▸ ha)
structure uE (K:PySem.W.Frag) (C:Addr):Prop where
 cl:Cls K C
 n1:dN K C "heir_of"
 n2:dN K C "gone"
abbrev F2 (a b:Addr):List (Str×V):=[("heir_of",.ref a),("gone",.ref b)]
structure o9 (C:Addr) (H:Hp) (x dx a b:Addr) (hs gs:List 0x30):Prop where
 o:H x=some (.ins C dx (F2 a b))
 h:H a=some (.dK hs)
 g:H b=some (.dK gs)
theorem o9.same {x:Addr}{gs:List 0x30} (k:o9 C H x dx a b hs gs) (s:Same H H'):o9 C H' x dx a b hs gs:=⟨s _ _ k.o,s _ _ k.h,s _ _ k.g⟩
inductive Ew (C:Addr) (vs:List V) (H:Hp) (Q:VK) (cB:XK):Prop
 | mk (x dx a b:Addr) (hs gs:List 0x22) (man heir:Str) (_:vs=[.ref x,.str man,.str heir]) (_:o9 C H x dx a b hs gs) (_:man≠"") (_:hs.length<=900) (_:Q .non (upd H a (.dK (putK hs (.inr man) (.str heir))))):Ew C vs H Q cB
inductive Px (C:Addr) (vs:List V) (H:Hp) (Q:VK) (cB:XK):Prop
 | mk (x dx a b:Addr) (hs gs:List 0x22) (man:Str) (_:vs=[.ref x,.str man]) (_:o9 C H x dx a b hs gs) (_:man≠"") (_:gs.length<=900) (_:Q .non (upd H b (.dK (putK gs (.inr man) (.bl true))))):Px C vs H Q cB
inductive qI (C:Addr) (vs:List V) (H:Hp) (Q:VK) (cB:XK):Prop
 | mk (x dx a b:Addr) (hs gs:List 0x22) (man:Str) (_:vs=[.ref x,.str man]) (_:o9 C H x dx a b hs gs) (_:Q (.bl (bI gs (.inr man)).isSome) H):qI C vs H Q cB
inductive yL (C:Addr) (vs:List V) (H:Hp) (Q:VK) (cB:XK):Prop
 | mk (x dx a b:Addr) (hs gs:List 0x22) (hv:Str->Option Str) (gv:Str->Bool) (man:Str) (_:vs=[.ref x,.str man]) (_:o9 C H x dx a b hs gs) (_:HV hs hv) (_:GV gs gv) (_:hs.length<=900) (_:∀ r H',Same H H'->Tk hv gv [man] (hv man) r->Q (mZ r) H'):yL C vs H Q cB
theorem YC:aP ["self", "man", "heir"] ["self", "man", "heir"] (aH Et):=0x0
theorem Ub (T:uE K C) {tc:Tok} (mC:mg "CROWN"=some (.str "" tc)) (F:fu K "name_heir" "Kin.name_heir" Et f fd):aL P w K mg base bO 1 f fd ["self", "man", "heir"] (Ew C):=by
 refine F.ok YC 0x1 0x2;obtain ⟨x,dx,a,b,hs,gs,man,heir,rfl,kn,hm,hl,k⟩:=h;refine ⟨_,aG (bK (aQ oU 0x10 0x20 (bB _)) (aG (dw (u1 hr) 0xC 0x10 (pv 2) rfl)) aR),?_⟩;refine ⟨_,rfl,rfl,_,rfl,?_⟩;have hd:(!decide (V.str man=V.str ""))=true:=by
  rw [A0n fun e=>hm (by injection e)];rfl
 rw [hd];refine dU ⟨_,rfl,_,rfl,x,C,dx,_,_,rfl,kn.o,T.cl,T.n1,rfl,_,rfl,a,_,rfl,iK.k (k:=.inr man) kn.h (bQ 0x3),k⟩
theorem a0P:aP A4Q A4Q (aH YB):=0x0
theorem YD (T:uE K C) {tc:Tok} (mC:mg "CROWN"=some (.str "" tc)) (F:fu K "die" "Kin.die" YB f fd):aL P w K mg base bO 1 f fd A4Q (Px C):=by
 refine F.ok a0P 0x1 0x2;obtain ⟨x,dx,a,b,hs,gs,man,rfl,kn,hm,hl,k⟩:=h;refine ⟨_,aG (bK (aQ oU 0x10 0x20 (bB _)) (aG (dw (u1 hr) 0xC 0x10 nW rfl)) aR),?_⟩;refine ⟨_,rfl,rfl,_,rfl,?_⟩;have hd:(!decide (V.str man=V.str ""))=true:=by
  rw [A0n fun e=>hm (by injection e)];rfl
 rw [hd];refine dU ⟨_,rfl,x,C,dx,_,_,rfl,kn.o,T.cl,T.n2,rfl,_,rfl,b,_,rfl,iK.k (k:=.inr man) kn.g (bQ 0x3),k⟩
theorem YF:aP A4Q A4Q (aH yK):=0x0
theorem Uc (T:uE K C) (F:fu K "is_dead" "Kin.is_dead" yK f fd):aL P w K mg base bO 1 f fd A4Q (qI C):=by
 refine F.ok YF 0x1 0x2;obtain ⟨x,dx,a,b,hs,gs,man,rfl,kn,k⟩:=h;refine ⟨_,aG (aV (xr (tZ (u1 hr) 0x10 0xC) 0xE)),?_⟩;exact ⟨_,rfl,_,rfl,x,C,dx,_,_,rfl,kn.o,T.cl,T.n2,rfl,b,_,rfl,dj.k (k:=.inr man) kn.g,k⟩
theorem rZ:aP ["self", "man", "met", "heir"] A4Q (aH Eu):=0x0
theorem Pz (T:uE K C) (F:fu K "taker" "Kin.taker" Eu f fd)  (G1:aL P w K mg base bO 1 g1 d1 A4Q (qI C)) (m1:Meth K C "is_dead" g1) (b1:Binds K d1 A4Q []):aL P w K mg base bO 2 f fd A4Q (yL C):=by
 refine fu.okC F rZ 0x1 (fun cdv A outer s H vs Q E hcd hr h=>?_);obtain ⟨x,dx,a,b,hs,gs,hv,gv,man,rfl,kn,hH,hG,hl,k⟩:=h;refine ⟨_,au (aY (i:=2) rZ.nd rfl 0x8 (Tg (Np hcd) 0x10))
  (au (aY (i:=3) rZ.nd rfl 0x8 (uc (u1 hr) 0xC 0x10 ⟨rfl,rfl,rfl,rfl⟩))
  (au (tD A0N (PW.pt (lZ (aQ Sh (pv 3) lB (bB _)) (jC (aQ JH (pv 3) (pv 2) 0xE))))
   (au (bK (iT (dZ (cj (pv 0) T.cl m1 G1 hr b1 .nil bC (ak (pv 3) aC)))) (aG (aV (pv 3))) aR)
   (au (bV (Tf (pv 2) (pv 3) ⟨rfl,rfl,rfl,rfl⟩))
   (aG (aY (i:=3) rZ.nd rfl 0x8 (uc (u1 hr) 0xC (pv 3) ⟨rfl,rfl,rfl,rfl⟩))))))
  (aG (aV lB)))),?_⟩
 intro t ht;refine ⟨_,rfl,man,rfl,ao,?_⟩;rw [S8];have s1:Same H (upd H t (SetT P w t (fun k=>decide (k=man)) 1)):=aO ht _;have t1:(upd H t (SetT P w t (fun k=>decide (k=man)) 1)) t=some (SetT P w t (fun k=>decide (k∈[man])) 1):=by
  rw [ao];have:(fun k=>decide (k=man))=fun k:Str=>decide (k∈[man]):=by funext k;simp
  rw [this]
 refine ⟨_,rfl,x,C,dx,_,_,rfl,s1 _ _ kn.o,T.cl,T.n1,rfl,a,rfl,.inl ⟨_,.inl (s1 _ _ kn.h)⟩,_,rfl,_,dj.k (k:=.inr man) (s1 _ _ kn.h),?_⟩;rw [Ir hH];refine ⟨fun m σ Hx=>∃ (l0:List Str) (y:Str),m=hs.length+1 - l0.length/\σ=[some (.ref x),some (.str man),some (.ref t),some (mZ (hv y))]/\Same H Hx/\Hx t=some (SetT P w t (fun k=>decide (k∈l0++[y])) (l0.length+1))/\(l0++[y]).Nodup/\(∀ z∈l0,(hv z).isSome=true) /\
   ∀ r,Tk hv gv (l0++[y]) (hv y) r->Tk hv gv [man] (hv man) r,⟨_,[],man,rfl,rfl,s1,t1,by simp,(fun z hz=>nomatch hz),fun r h=>h⟩,?_⟩
 rintro m σ Hx ⟨l0,y,rfl,rfl,sx,tx,nd,ha,hk⟩;have knx:=kn.same sx;cases hy:hv y with
 | none =>
  refine ⟨_,rfl,rfl,_,rfl,cA (cA ?_)⟩;exact k none Hx sx (hk none (by rw [hy];exact .none))
 | some h =>
  refine ⟨_,rfl,rfl,_,rfl,dU ?_⟩;refine ⟨_,rfl,_,rfl,h,t,_,_,rfl,rfl,tx,_,rfl,?_⟩
  by_cases hm:h∈l0++[y]
  ·rw [A0g hm];refine cA ?_;exact k none Hx sx (hk none (by rw [hy];exact .met hm))
  ·rw [A0n hm];refine dU ⟨fun σ' H'=>∃ (CZ:List Str) (y':Str),hs.length+1 - CZ.length<hs.length+1 - l0.length/\σ'=[some (.ref x),some (.str man),some (.ref t),some (mZ (hv y'))]/\Same H H'/\H' t=some (SetT P w t (fun k=>decide (k∈CZ++[y'])) (CZ.length+1))/\(CZ++[y']).Nodup/\(∀ z∈CZ,(hv z).isSome=true) /\
     ∀ r,Tk hv gv (CZ++[y']) (hv y') r->Tk hv gv [man] (hv man) r,fun σ' H' ⟨CZ,y',q1,q⟩=>⟨_,q1,CZ,y',rfl,q⟩,?_⟩
   refine ⟨_,rfl,x,dx,_,rfl,knx.o,rfl,_,rfl,x,dx,a,b,hs,gs,h,rfl,knx,_,rfl,?_⟩;rw [hG h];have all1:∀ z∈l0++[y],(hv z).isSome=true:=fun z hz=>by
    rcases A0l.mp hz with q | q
    ·exact ha z q
    ·rw [A0b.mp q,hy];rfl
   have hfew:=few hH nd all1;rw [gZ,A0r] at hfew;cases hg:gv h with
   | false =>
    refine dU ⟨_,rfl,?_⟩;exact k (some h) Hx sx (hk (some h) (by rw [hy];exact .alive hm hg))
   | true =>
    refine cA ?_;refine ⟨_,rfl,t,_,_,rfl,tx,_,rfl,h,rfl,tx,by lia,?_⟩;have nt:H t=none:=ht;have e1:(fun k=>(fun k=>decide (k∈l0++[y])) k||decide (k=h))=fun k:Str=>decide (k∈l0++[y]++[h]):=by
     funext k
     simp only [A0l,A0b]
     by_cases q1:k∈l0 <;> by_cases q2:k=y <;> by_cases q3:k=h <;> simp [q1,q2,q3]
    rw [e1,A0f (by simpa using hm)];have s2:Same H (upd Hx t (SetT P w t (fun k=>decide (k∈l0++[y]++[h])) (l0.length+1+1))):=bU sx nt;have t2:(upd Hx t (SetT P w t (fun k=>decide (k∈l0++[y]++[h])) (l0.length+1+1))) t=some (SetT P w t (fun k=>decide (k∈l0++[y]++[h])) (l0.length+1+1)):=ao;refine ⟨_,rfl,x,C,dx,_,_,rfl,s2 _ _ kn.o,T.cl,T.n1,rfl,a,rfl,.inl ⟨_,.inl (s2 _ _ kn.h)⟩,_,rfl,_,dj.k (k:=.inr h) (s2 _ _ kn.h),?_⟩;rw [Ir hH];refine ⟨l0++[y],h,by rw [gZ,A0r];lia,rfl,s2,by rw [gZ,A0r];exact t2,uD nd hm,all1,fun r q=>hk r (by rw [hy];exact .step hm hg q)⟩
def Mn (es:List aU):Prop:=∀ e∈es,PyData.strOk e.man=true
theorem Mn.step {es:List aU}{cO:Rw}{y:aU} (h:Mn es) (hx:cO.Tx):Mn 0x38:=by
 cases cO with
 | grant e n m a s =>
  intro z hz;rcases A0l.mp hz with c | c
  ·obtain ⟨y0,h0,rfl⟩:=dI c;have:=h y0 h0
   split <;> exact this
  ·rw [A0b.mp c];exact hx.2.2
 | convey e m =>
  intro z hz;obtain ⟨y0,h0,rfl⟩:=dI hz;have:=h y0 h0
  split
  ·exact hx.2
  ·exact this
 | kO e =>
  intro z hz;obtain ⟨y0,h0,rfl⟩:=A0e.mp hz;exact h y0 (A0q.mp h0).1
def YG (es:List aU) (n:Int):Prop:=∃ c∈es,c.n=""/\c.br=n
theorem YG.val {es:List aU}{n:Int} (h:YG es n) (nd:(nms es).Nodup):bI (RZ es) (.inr "")=some (.int n):=by
 obtain ⟨c,hc,h1,h2⟩:=h;have:=eG (f:=fun e=>V.int e.br) nd hc;rw [h1,h2] at this;exact this
theorem YG.step {es:List aU}{n:Int}{cO:Rw}{y:aU} (h:YG es n) (hst:gP es ks y cO) (hok:cO.Ok ls):YG 0x38 n:=by
 obtain ⟨c,hc,h1,h2⟩:=h;have md:∀ (g:aU->aU) (m:Str),(∀ z,(g z).n=z.n)->(m=""->∀ z,(g z).br=z.br)->∃ c'∈mod m g es,c'.n=""/\c'.br=n:=fun g m g1 g2=>by
  refine ⟨if c.n=m then g c else c,A0e.mpr ⟨c,hc,rfl⟩,?_⟩
  by_cases e:c.n=m
  ·rw [A0i e];exact ⟨(g1 c).trans h1,(g2 (e ▸ h1) c).trans h2⟩
  ·rw [A0f e];exact ⟨h1,h2⟩
 have app:∀ {l:List aU}{x:aU},(∃ c'∈l,c'.n=""/\c'.br=n)->YG (l++[x]) n:=fun ⟨c',hm,q⟩=>⟨c',A0U _ hm,q⟩;cases cO with
 | grant e k m a s=>exact app (md _ _ 0xF fun _ _=>rfl)
 | convey e m=>exact md _ _ 0xF fun _ _=>rfl
 | kO e=>exact ⟨_,A0e.mpr ⟨c,A0q.mpr ⟨hc,A0g fun z=>hok (hst.2.symm.trans (z.symm.trans h1))⟩,rfl⟩,h1,h2⟩
inductive Ro
 | grant (e n m:Str) (a s:Int)
 | heir (m h:Str)
 | liege (m l:Str)
 | death (m:Str)
def Ro.vs (dy:Int):Ro->List V
 | .grant e n m a s=>[.str "grant",.int dy,.str e,.str n,.str m,.int a,.int s]
 | .heir m h=>[.str "heir",.int dy,.str m,.str h]
 | .liege m l=>[.str "liege",.int dy,.str m,.str l]
 | .death m=>[.str "death",.int dy,.str m]
def Ro.Tx:Ro->Prop
 | .grant e n m _ _=>PyData.strOk e=true/\PyData.strOk n=true/\PyData.strOk m=true
 | .heir m h=>PyData.strOk m=true/\PyData.strOk h=true
 | .liege m l=>PyData.strOk m=true/\PyData.strOk l=true
 | .death m=>PyData.strOk m=true
def Ro.Ok (ls:List Str):Ro->Prop
 | .grant _ n _ a s=>n∈ls/\1<=a/\a<=9999/\0<=s/\s<=9999
 | .heir m _=>m≠""
 | .liege m _=>m≠""
 | .death m=>m≠""
structure Wo where
 es:List aU
 ks:List Str
 hs:List 0x30
 dd:List (Str×Int)
 lg:List (Str×Int×Str)
def Wo.gone (W:Wo):List Str:=W.dd.map (·.1)
def Wk (hs:List 0x30) (m:Str):Option Str:=match bI hs (.inr m) with
 | some (.str z)=>some z
 | _=>none
def uF:Option Str->Str->Rw
 | none,n=>.kO n
 | some h,n=>.convey n h
inductive Fo (r:Option Str) (es:List aU):List Str->List aU->Prop
 | nil:Fo r es [] es
 | snoc {ss:List Str}{e1:List aU}{y:aU}:Fo r es ss e1->y∈e1->y.n≠""->Fo r es (ss++[y.n]) (stp y e1 0 0 0 0 (uF r y.n))
def uG (es:List aU) (m:Str) (ss:List Str):Prop:=ss.Perm ((es.filter fun y=>decide (y.man=m)).map (·.n))/\sortedS ss=true
def Bound (es:List aU) (m l:Str):Prop:=∃ y∈es,y.man=m/\y.n≠""/\∃ z∈es,y.lord=some z.n/\z.man=l
inductive Jo (W:Wo) (dy:Int):Ro->Str->Wo->Prop
 | no {e n m:Str}{a s:Int}:e∉nms W.es->Jo W dy (.grant e n m a s) "nowhere" W
 | tk {e n m:Str}{a s:Int}:e∈nms W.es->n∈W.ks->Jo W dy (.grant e n m a s) "taken" W
 | de {e n m:Str}{a s:Int}:e∈nms W.es->n∉W.ks->m∈W.gone->Jo W dy (.grant e n m a s) "dead" W
 | ac {e n m:Str}{a s:Int}{y:aU}:y∈W.es->y.n=e->n∉W.ks->m∉W.gone->y.own<a->Jo W dy (.grant e n m a s) "acres" W
 | gr {e n m:Str}{a s:Int}{y:aU} (t b:Addr):y∈W.es->y.n=e->n∉W.ks->m∉W.gone->a<=y.own->Jo W dy (.grant e n m a s) "stands" { W with es:=stp y W.es t 0 b 0 (.grant e n m a s),ks:=W.ks++[n] }
 | hd {m h:Str}:m∈W.gone->Jo W dy (.heir m h) "dead" W
 | hr {m h:Str}:m∉W.gone->Jo W dy (.heir m h) "stands" { W with hs:=putK W.hs (.inr m) (.str h) }
 | ld {m l:Str}:m∈W.gone->Jo W dy (.liege m l) "dead" W
 | lb {m l:Str}:m∉W.gone->¬ Bound W.es m l->Jo W dy (.liege m l) "nobond" W
 | lr {m l:Str}:m∉W.gone->Bound W.es m l->Jo W dy (.liege m l) "stands" { W with lg:=W.lg++[(m,dy,l)] }
 | dx {m:Str}:m∈W.gone->Jo W dy (.death m) "dead" W
 | di {m:Str}{r:Option Str}{ss:List Str}{es':List aU}:m∉W.gone->Tk (Wk W.hs) (fun z=>decide (z∈W.gone++[m])) [m] (Wk W.hs m) r->uG W.es m ss->Fo r W.es ss es'->Jo W dy (.death m) "stands" { W with es:=es',dd:=W.dd++[(m,dy)] }
structure Eo (es:List aU) (ks ls:List Str) (j:Nat) (wd:Int):Prop where
 P:Pu es ks ls j wd
 cr:∀ e∈es,e.n=""->e.man=""
 M:Mn es
 O:rH es ks
 B:YG es wd
structure Wp (W:Wo) (ls:List Str) (j:Nat) (wd:Int):Prop where
 E:Eo W.es W.ks ls j wd
 hv:∀ p∈W.hs,∃ k z,p=(Sum.inr k,V.str z)/\PyData.strOk z=true
 hl:W.hs.length<=j
 dl:W.dd.length<=j
 nd:W.gone.Nodup
 gl:W.lg.length<=j
theorem Eo.up {es:List aU}{k:Nat} (E:Eo es ks ls j wd) (h:j<=k):Eo es ks ls k wd:=⟨E.P.up h,E.cr,E.M,E.O,E.B⟩
theorem Ud {es:List aU}{y:aU}{cO:Rw} (c:∀ e∈es,e.n=""->e.man="") (hst:gP es ks y cO) (hok:cO.Ok ls) (hls:∀ n∈ls,n≠""/\PyData.strOk n=true):∀ e∈stp y es t1 t2 b1 b2 cO,e.n=""->e.man="":=by
 intro z hz hn;cases cO with
 | grant e n m a s =>
  rcases A0l.mp hz with q | q
  ·obtain ⟨y0,h0,rfl⟩:=dI q
   by_cases e1:y0.n=y.n
   ·rw [A0i e1] at hn ⊢;exact c y0 h0 hn
   ·rw [A0f e1] at hn ⊢;exact c y0 h0 hn
  ·rw [A0b.mp q] at hn;exact absurd hn (hls n hok.1).1
 | convey e m =>
  obtain ⟨y0,h0,rfl⟩:=dI hz
  by_cases e1:y0.n=y.n
  ·rw [A0i e1] at hn;exact absurd (show e="" by rw [<- hst.2,<- e1];exact hn) hok
  ·rw [A0f e1] at hn ⊢;exact c y0 h0 hn
 | kO e =>
  obtain ⟨y0,h0,rfl⟩:=A0e.mp hz;exact c y0 (A0q.mp h0).1 hn
theorem Eo.step {es:List aU}{y:aU}{cO:Rw} (E:Eo es ks ls j wd) (hst:gP es ks y cO) (hok:cO.Ok ls) (tx:cO.Tx) (hls:∀ n∈ls,n≠""/\PyData.strOk n=true):Eo 0x38 (stK ks cO) ls (j+1) wd :=
 ⟨E.P.step hst hok hls,Ud E.cr hst hok hls,E.M.step tx,Kf E.O E.P hst hok hls,E.B.step hst hok⟩
theorem Eo.die {es:List aU}{y:aU} (E:Eo es ks ls j wd) (hy:y∈es) (hn:y.n≠"") (tr:∀ h,r=some h->PyData.strOk h=true) (hls:∀ n∈ls,n≠""/\PyData.strOk n=true):Eo (stp y es 0 0 0 0 (uF r y.n)) ks ls j wd:=by
 have S:gP es ks y (uF r y.n):=by cases r <;> exact ⟨hy,rfl⟩
 have O:(uF r y.n).Ok ls:=by cases r <;> exact hn
 have T:(uF r y.n).Tx:=by
  cases r with
  | none=>exact E.P.W.ok y hy
  | some h=>exact ⟨E.P.W.ok y hy,tr h rfl⟩
 have E1:=E.step (t1:=0) (t2:=0) (b1:=0) (b2:=0) S O T hls;have ek:stK ks (uF r y.n)=ks:=by cases r <;> rfl
 rw [ek] at E1;refine ⟨⟨E1.P.W,fun z hz=>?_,E1.P.kn,?_,E.P.lk,E1.P.nl,E1.P.tot⟩,E1.cr,E1.M,E1.O,E1.B⟩
 ·cases r with
  | none =>
   obtain ⟨y0,h0,rfl⟩:=A0e.mp hz;exact E.P.bd y0 (A0q.mp h0).1
  | some h =>
   obtain ⟨y0,h0,rfl⟩:=dI hz;have:=E.P.bd y0 h0
   split <;> exact this
 ·have:=E.P.ln;cases r with
  | none =>
   show (List.map _ (List.filter _ es)).length<=_
   rw [cg];exact A0M (A0J _ _) this
  | some h =>
   show (List.map _ es).length<=_
   rw [cg];exact this
theorem Fo.eo {es es':List aU} (E:Eo es ks ls j wd) (tr:∀ h,r=some h->PyData.strOk h=true) (hls:∀ n∈ls,n≠""/\PyData.strOk n=true) (f:Fo r es ss es'):Eo es' ks ls j wd:=by
 induction f with
 | nil=>exact E
 | snoc _ hy hn ih=>exact ih.die hy hn tr hls
theorem n6 {m z:Str} (h:∀ p∈hs,∃ k z,p=(Sum.inr k,V.str z)/\PyData.strOk z=true) (e:Wk hs m=some z):PyData.strOk z=true:=by
 unfold Wk bI at e;cases q:hs.find? fun kv=>decide (kv.1=.inr m) with
 | none=>rw [q] at e;cases e
 | some p =>
  obtain ⟨k,z',rfl,ok⟩:=h p (A1W q);rw [q] at e;injection e with e;rw [<- e];exact ok
theorem PB (h:∀ p∈hs,∃ k z,p=(Sum.inr k,V.str z)/\PyData.strOk z=true):HV hs (Wk hs):=fun m=>by
 unfold Wk bI;cases q:hs.find? fun kv=>decide (kv.1=.inr m) with
 | none=>rfl
 | some p =>
  obtain ⟨k,z',rfl,ok⟩:=h p (A1W q);rfl
theorem Tk.ok {gv:Str->Bool}{Pr:Str->Prop} (hp:∀ m z,hv m=some z->Pr z) {l:List Str}{c:Option Str} (t:Tk hv gv l c r):(∀ z,c=some z->Pr z)->∀ z,r=some z->Pr z:=by
 induction t with
 | none=>intro _ z e;cases e
 | met _=>intro _ z e;cases e
 | alive _ _=>intro h z e;exact h z e
 | step _ _ _ ih=>intro _;exact ih fun z e=>hp _ z e
theorem Ue {k:Key}{Pr:Key×V->Prop} (h:∀ p∈hs,Pr p) (hv:Pr (k,v)):∀ p∈putK hs k v,Pr p:=by
 intro p hp;unfold putK at hp
 split at hp
 ·obtain ⟨p0,h0,rfl⟩:=A0e.mp hp
  by_cases c:p0.1=k
  ·rw [A0i c,c];exact hv
  ·rw [A0f c];exact h p0 h0
 ·rcases A0l.mp hp with q | q
  ·exact h p q
  ·rw [A0b.mp q];exact hv
theorem Jo.wp {W W':Wo}{ro:Ro}{w:Str} (J:Jo W dy ro w W') (R:Wp W ls j wd) (ok:ro.Ok ls) (tx:ro.Tx) (hls:∀ n∈ls,n≠""/\PyData.strOk n=true):Wp W' ls (j+1) wd:=by
 have up:Wp W ls (j+1) wd:=⟨R.E.up 0x3,R.hv,by have:=R.hl;lia,by have:=R.dl;lia,R.nd,by have:=R.gl;lia⟩;cases J with
 | no _=>exact up
 | tk _ _=>exact up
 | de _ _ _=>exact up
 | ac _ _ _ _ _=>exact up
 | hd _=>exact up
 | ld _=>exact up
 | lb _ _=>exact up
 | lr _ _=>exact ⟨up.E,R.hv,up.hl,up.dl,R.nd,by show (W.lg++[_]).length<=_;rw [gZ];exact A2V R.gl⟩
 | dx _=>exact up
 | gr t b hy he hn hm ha=>exact ⟨R.E.step (t2:=0) (b2:=0) (cO:=.grant _ _ _ _ _) ⟨hy,he,hn,ha⟩ ok tx hls,R.hv,up.hl,up.dl,R.nd,up.gl⟩
 | hr hm=>exact ⟨up.E,Ue R.hv ⟨_,_,rfl,tx.2⟩,A0M (dY _ _ _) (A2V R.hl),up.dl,R.nd,up.gl⟩
 | di hm hk hh hf =>
  refine ⟨(hf.eo R.E (fun h e=>Tk.ok (Pr:=fun z=>PyData.strOk z=true) (fun _ _=>n6 R.hv) hk (fun z e=>n6 R.hv e) h e) hls).up 0x3,R.hv,up.hl,?_,?_,up.gl⟩
  ·rw [gZ];have:=R.dl;simp;lia
  ·show ((W.dd++[_]).map _).Nodup
   rw [iZ];exact uD R.nd hm
end M
namespace L2
open PySem
theorem pR:bootBuiltins "dict"=some (.type "dict"):=by decide +kernel
end L2
namespace M
open PySem L2 PyProof.Rows
inductive yM (C:Addr) (vs:List V) (H:Hp) (Q:VK) (cB:XK):Prop
 | mk (x dx a1 a2 a3 a4 a5:Addr) (lo ho ow se br:List 0x22) (y dy b1 b2 b3 b4 b5:Addr) (lo' ho' ow' se' br':List 0x22) (D1 D2 D3 D4 E1 E2 E3 E4:List (Prod L2.Key PySem.PyData)) (_:vs=[.ref x,.ref y]) (_:cP C H x dx a1 a2 a3 a4 a5 lo ho ow se br) (_:cP C H y dy b1 b2 b3 b4 b5 lo' ho' ow' se' br') (_:vD H lo D1) (_:vD H ho D2) (_:vD H ow D3) (_:vD H se D4) (_:vD H lo' E1) (_:vD H ho' E2) (_:vD H ow' E3) (_:vD H se' E4) (_:Q (.bl (gQ D1 E1&&(gQ D2 E2&&(gQ D3 E3&&gQ D4 E4)))) H):yM C vs H Q cB
inductive pU (C:Addr) (vs:List V) (H:Hp) (Q:VK) (cB:XK):Prop
 | mk (x dx a1 a2 a3 a4 a5:Addr) (lo ho ow se br:List 0x22) (n:Int) (_:vs=[.ref x]) (_:cP C H x dx a1 a2 a3 a4 a5 lo ho ow se br) (_:bI br (.inr "")=some (.int n)) (_:1<=n) (_:n<=9999) (_:∀ y dy b1 b2 b3 b4 b5 H',Same H H'->cP C H' y dy b1 b2 b3 b4 b5 lo ho ow se br->H y=none->H b1=none->H b2=none->H b3=none->H b4=none->H b5=none->Ti b1 b2 b3 b4 b5->Q (.ref y) H'):pU C vs H Q cB
theorem u64 {k:Nat} (r:cH k A):A.units+64<cLine:=by have:=r.un;lia
theorem Ug:aP ["self", "other"] ["self", "other"] (aH DY):=0x0
theorem PJ (T:gq K C) (F:fu K "same" "Land.same" DY f fd):aL P w K mg base bO 1 f fd ["self", "other"] (yM C):=by
 refine F.ok Ug 0x1 0x2;obtain ⟨x,dx,a1,a2,a3,a4,a5,lo,ho,ow,se,br,y,dy,b1,b2,b3,b4,b5,lo',ho',ow',se',br',D1,D2,D3,D4,E1,E2,E3,E4,rfl,L,L',d1,d2,d3,d4,e1,e2,e3,e4,k⟩:=h;refine ⟨_,aG (aV (m7 (gK (yI (u64 hr)) 0xC (aZ 0x10 rfl) (bB _)) (m7 (gK (yI (u64 hr)) 0xC (aZ 0x10 rfl) (bB _)) (m7 (gK (yI (u64 hr)) 0xC (aZ 0x10 rfl) (bB _)) (sZ (gK (yI (u64 hr)) 0xC (aZ 0x10 rfl) (bB _))))))),?_⟩;refine ⟨_,rfl,x,C,dx,_,_,rfl,L.o,T.cl,T.n1,rfl,_,rfl,y,C,dy,_,_,rfl,L'.o,T.cl,T.n1,rfl,a1,b1,_,_,D1,E1,rfl,rfl,L.l1,L'.l1,d1,e1,_,rfl,?_⟩;cases h1:gQ D1 E1 with
 | false=>rw [h1] at k;exact k
 | true =>
  rw [h1] at k;refine ⟨_,rfl,x,C,dx,_,_,rfl,L.o,T.cl,T.n2,rfl,_,rfl,y,C,dy,_,_,rfl,L'.o,T.cl,T.n2,rfl,a2,b2,_,_,D2,E2,rfl,rfl,L.l2,L'.l2,d2,e2,_,rfl,?_⟩;cases h2:gQ D2 E2 with
  | false=>rw [h2] at k;exact k
  | true =>
   rw [h2] at k;refine ⟨_,rfl,x,C,dx,_,_,rfl,L.o,T.cl,T.n3,rfl,_,rfl,y,C,dy,_,_,rfl,L'.o,T.cl,T.n3,rfl,a3,b3,_,_,D3,E3,rfl,rfl,L.l3,L'.l3,d3,e3,_,rfl,?_⟩;cases h3:gQ D3 E3 with
   | false=>rw [h3] at k;exact k
   | true =>
    rw [h3] at k;exact ⟨_,rfl,x,C,dx,_,_,rfl,L.o,T.cl,T.n4,rfl,_,rfl,y,C,dy,_,_,rfl,L'.o,T.cl,T.n4,rfl,a4,b4,_,_,D4,E4,rfl,rfl,L.l4,L'.l4,d4,e4,k⟩
theorem Iu:aP ["self", "other"] ["self"] (aH Nx):=0x0
theorem PL (T:gq K C) (F:fu K "twin" "Land.twin" Nx f fd) (mo:Tz K w.params mg) (md:mg "dict"=none)  (G1:aL P w K mg base bO 3 g1 d1 A5d (yw C)) (YH:Mk K C g1) (mR:mg "Land"=some (.ref C)) (b1:Binds K d1 A5d []):aL P w K mg base bO 5 f fd ["self"] (pU C):=by
 obtain ⟨tc,mC⟩:=mo.crown;refine F.ok Iu 0x1 0x2;obtain ⟨x,dx,a1,a2,a3,a4,a5,lo,ho,ow,se,br,n,rfl,L,hb,n1,n2,k⟩:=h;have Wm:cH 4 _:=hr.mono 0x6;refine ⟨_,au (aY (i:=1) Iu.nd rfl 0x8 (rK (CX:=bO) (E:=E0) YH G1 Wm rfl mR b1 .nil bC (ak (bH (u1 hr) 0xC 0x20 0x4) aC)))
  (au (dO 0x10 (gW jy rfl md pR (ak 0xC aC)) rfl)
  (au (dO 0x10 (gW jy rfl md pR (ak 0xC aC)) rfl)
  (au (dO 0x10 (gW jy rfl md pR (ak 0xC aC)) rfl)
  (au (dO 0x10 (gW jy rfl md pR (ak 0xC aC)) rfl)
  (au (dO 0x10 (gW jy rfl md pR (ak 0xC aC)) rfl)
  (aG (aV 0x10))))))),?_⟩
 refine ⟨_,rfl,x,C,dx,_,_,rfl,L.o,T.cl,T.n5,rfl,a5,_,rfl,iM L.l5 hb,fun y dy hy0 hdy0 hne=>?_⟩;refine ⟨y,dy,n,rfl,ao,n1,n2,fun c1 c2 c3 c4 c5 t0 H0 kx LA _ _ _ _ _ _ _ _=>⟨rfl,?_⟩⟩;have s0:Same H H0:=fun c o hc=>kx c o 0x33 (by
  rw [aj 0x33,aj (fun z=>by rw [z,hdy0] at hc;cases hc)];exact hc)
 clear kx;have y0:=LA.o;clear LA;refine ⟨_,rfl,x,C,dx,_,_,rfl,(L.same s0).o,T.cl,T.n1,rfl,a1,_,rfl,(L.same s0).l1,fun p1 hp1=>?_⟩;have w1:y≠p1:=aq y0 hp1;refine ⟨_,rfl,y,C,dy,_,rfl,by rw [aj w1];exact y0,T.cl,T.n1,A0v rfl,?_⟩;have z1:H p1=none:=s0.free hp1;generalize hH:upd _ y _=H1;have y1:H1 y=some (.ins C dy (F5 p1 c2 c3 c4 c5)):=by rw [<- hH,ao];rfl
 have s1:Same H H1:=fun c o hc=>by rw [<- hH,aj 0x33,aj (fun z=>by rw [z,z1] at hc;cases hc)];exact s0 _ _ hc
 have e11:H1 p1=some (.dK lo):=by rw [<- hH,aj (A0k w1),ao]
 clear hH;refine ⟨_,rfl,x,C,dx,_,_,rfl,(L.same s1).o,T.cl,T.n2,rfl,a2,_,rfl,(L.same s1).l2,fun p2 hp2=>?_⟩;have w2:y≠p2:=aq y1 hp2;refine ⟨_,rfl,y,C,dy,_,rfl,by rw [aj w2];exact y1,T.cl,T.n2,A0v rfl,?_⟩;have z2:H p2=none:=s1.free hp2;generalize hH:upd _ y _=H2;have y2:H2 y=some (.ins C dy (F5 p1 p2 c3 c4 c5)):=by rw [<- hH,ao];rfl
 have s2:Same H H2:=fun c o hc=>by rw [<- hH,aj 0x33,aj (fun z=>by rw [z,z2] at hc;cases hc)];exact s1 _ _ hc
 have e22:H2 p2=some (.dK ho):=by rw [<- hH,aj (A0k w2),ao]
 have n12:=aq e11 hp2;have ZJ:H2 p1=some (.dK lo):=by rw [<- hH,aj (A0k w1),aj n12];exact e11
 clear hH;refine ⟨_,rfl,x,C,dx,_,_,rfl,(L.same s2).o,T.cl,T.n3,rfl,a3,_,rfl,(L.same s2).l3,fun p3 hp3=>?_⟩;have w3:y≠p3:=aq y2 hp3;refine ⟨_,rfl,y,C,dy,_,rfl,by rw [aj w3];exact y2,T.cl,T.n3,A0v rfl,?_⟩;have z3:H p3=none:=s2.free hp3;generalize hH:upd _ y _=H3;have y3:H3 y=some (.ins C dy (F5 p1 p2 p3 c4 c5)):=by rw [<- hH,ao];rfl
 have s3:Same H H3:=fun c o hc=>by rw [<- hH,aj 0x33,aj (fun z=>by rw [z,z3] at hc;cases hc)];exact s2 _ _ hc
 have e33:H3 p3=some (.dK ow):=by rw [<- hH,aj (A0k w3),ao]
 have n13:=aq ZJ hp3;have e13:H3 p1=some (.dK lo):=by rw [<- hH,aj (A0k w1),aj n13];exact ZJ
 have n23:=aq e22 hp3;have e23:H3 p2=some (.dK ho):=by rw [<- hH,aj (A0k w2),aj n23];exact e22
 clear hH;refine ⟨_,rfl,x,C,dx,_,_,rfl,(L.same s3).o,T.cl,T.n4,rfl,a4,_,rfl,(L.same s3).l4,fun p4 Uh=>?_⟩;have w4:y≠p4:=aq y3 Uh;refine ⟨_,rfl,y,C,dy,_,rfl,by rw [aj w4];exact y3,T.cl,T.n4,A0v rfl,?_⟩;have z4:H p4=none:=s3.free Uh;generalize hH:upd _ y _=H4;have y4:H4 y=some (.ins C dy (F5 p1 p2 p3 p4 c5)):=by rw [<- hH,ao];rfl
 have s4:Same H H4:=fun c o hc=>by rw [<- hH,aj 0x33,aj (fun z=>by rw [z,z4] at hc;cases hc)];exact s3 _ _ hc
 have e44:H4 p4=some (.dK se):=by rw [<- hH,aj (A0k w4),ao]
 have n14:=aq e13 Uh;have ZK:H4 p1=some (.dK lo):=by rw [<- hH,aj (A0k w1),aj n14];exact e13
 have n24:=aq e23 Uh;have e24:H4 p2=some (.dK ho):=by rw [<- hH,aj (A0k w2),aj n24];exact e23
 have n34:=aq e33 Uh;have e34:H4 p3=some (.dK ow):=by rw [<- hH,aj (A0k w3),aj n34];exact e33
 clear hH;refine ⟨_,rfl,x,C,dx,_,_,rfl,(L.same s4).o,T.cl,T.n5,rfl,a5,_,rfl,(L.same s4).l5,fun p5 Wn=>?_⟩;have w5:y≠p5:=aq y4 Wn;refine ⟨_,rfl,y,C,dy,_,rfl,by rw [aj w5];exact y4,T.cl,T.n5,A0v rfl,?_⟩;have z5:H p5=none:=s4.free Wn;generalize hH:upd _ y _=H5;have y5:H5 y=some (.ins C dy (F5 p1 p2 p3 p4 p5)):=by rw [<- hH,ao];rfl
 have s5:Same H H5:=fun c o hc=>by rw [<- hH,aj 0x33,aj (fun z=>by rw [z,z5] at hc;cases hc)];exact s4 _ _ hc
 have e55:H5 p5=some (.dK br):=by rw [<- hH,aj (A0k w5),ao]
 have n15:=aq ZK Wn;have e15:H5 p1=some (.dK lo):=by rw [<- hH,aj (A0k w1),aj n15];exact ZK
 have n25:=aq e24 Wn;have e25:H5 p2=some (.dK ho):=by rw [<- hH,aj (A0k w2),aj n25];exact e24
 have n35:=aq e34 Wn;have e35:H5 p3=some (.dK ow):=by rw [<- hH,aj (A0k w3),aj n35];exact e34
 have n45:=aq e44 Wn;have e45:H5 p4=some (.dK se):=by rw [<- hH,aj (A0k w4),aj n45];exact e44
 clear hH;exact ⟨_,rfl,k y dy p1 p2 p3 p4 p5 H5 s5 ⟨y5,e15,e25,e35,e45,e55⟩ hy0 z1 z2 z3 z4 z5 ⟨n12,n13,n14,n15,n23,n24,n25,n34,n35,n45⟩⟩
end M
namespace L2
open PySem PySem.Spec PyProof.Rows
inductive Br (SP:Addr->Sp->Prop) (E:XK) (t:TA) (σ:L2.St) (Q:VK) (v:V) (H1:Hp):Prop
 | mk (f:Addr) (sp:Sp) (_:v=.ref f) (_:SP f sp) (_:t σ H1 fun vs H2=>sp vs H2 Q E):Br SP E t σ Q v H1
def YJ (SP:Addr->Sp->Prop) (E:XK) (tn:TE) (t:TA):TE:=fun σ H Q=>tn σ H fun v H1=>Br SP E t σ Q v H1
theorem Bs {E:XK}{SP:Addr->Sp->Prop}{x:Str}{p:Pos}{tn:TE}{t:TA} (hn:PE X (.Name x p) tn)
  (hS:∀ f sp,SP f sp->∃ (k:Nat) (fd:FuncData) (ps:List Str),aL X.prog X.w X.K X.mg X.base CX k f fd ps sp/\cH k X.A/\PySem.W.keepIn X.K (.ref f)=true/\Binds X.K fd ps []) (hx:Passes CX X E)
  (ha:PA X (e::es) t) (he:starEach (e::es) X.env=(false,eval e X.env)::starEach es X.env:=by rfl) (hpl:(backTo pos (starEach es X.env)).any (·.1)=false:=by rfl) :
  PE X (.Call (.Name x p) (e::es) [] pos) (YJ SP E tn t):=by
 intro pins s σ H Q I h;refine A1Q (cN (hn pins s σ H _ I h) fun u s0 zq=>?_);obtain ⟨v,H0,I0,r0,f,sp,ev,hsp,q0⟩:=zq;subst ev;cases r0;obtain ⟨k,fd,ps,F,hr,hk,hb⟩:=hS f sp hsp;refine A3f (h₀:=X.base) I0.ok.mod.kin hk (cN (ha pos pins s0 σ H0 _ I0 q0) fun us s1 ⟨vs,H1,I1,r,q⟩=>⟨I1.nO,?_⟩) he hpl;refine tR F hr hb .nil hx I1 r ?_;rw [A0K];exact q
inductive Bt (ty tx:TE) (σ:L2.St) (Q:VK) (x:V) (H1:Hp):Prop
 | mk (a:Addr) (_:x=.ref a) (_:ZC H1 a) (_:ty σ H1 fun y H2=>tx σ H2 fun z H3=>∃ kvs k,H3 a=some 0x13/\y=kV k/\kvs.length<sizeLine/\(∀ v,bI kvs k=some v->Q v H3)/\(bI kvs k=none->Q z (upd H3 a (.dK (putK kvs k z))))):Bt ty tx σ Q x H1
def YK (td ty tx:TE):TE:=fun σ H Q=>td σ H fun x H1=>Bt ty tx σ Q x H1
section
variable {k:Key}
theorem PN {z:V}{r:Value} (I:Inv X pins σ H s) (e:H a=some 0x13) (ry:RelV (kV k) u) (rz:RelV z r) (lt:kvs.length<sizeLine)
  (h1:∀ v w' s',bI kvs k=some v->Inv X pins σ H s'->RelV v w'->Q w' s') (h2:∀ s',bI kvs k=none->Inv X pins σ (upd H a (.dK (putK kvs k z))) s'->Q r s') :
  wpAny 0x9 A (call (.builtin "dict.setdefault") [.ref a,u,r]) Q E s:=by
 obtain ⟨zz,hd,vs,rel,dd⟩:=nZ I.hok e;refine A2L A3K dd.typeIs PySem.F.entry_dict_setdefault (PySem.F.args_dict_setdefault_3 _ _ _) (kt_meets_setdefault (bY X.prog X.w) a (mV ry) hd r)
  ⟨vs,dd,by rw [<- rel.length];exact zz,fun w' hw=>?_,fun hn h' qY hs=>?_⟩
 ·have:=rel.val k;rw [hw] at this;cases l:bI kvs k with
  | none=>rw [l] at this;exact False.elim this
  | some v=>rw [l] at this;exact h1 v w' _ l (I.tok _) this
 ·have:=rel.val k;rw [hn] at this;have l:bI kvs k=none:=by
   cases l:bI kvs k with
   | none=>rfl
   | some v=>rw [l] at this;exact False.elim this
  refine h2 _ l ?_;have he:∃ q,h'.get? a=some q:=let ⟨q,_,_,hq,_⟩:=qY;⟨q,hq⟩
  have hl:(putK kvs k z).length<=sizeLine:=by have:=dY kvs k z;lia
  exact jr I (by rw [e];exact True.intro) hs he (tY hl hd (rel.put k rz) qY)
end
section
variable {o f:Expr}{tx:TE}
theorem Bu (ho:PE X o td) (he:PE X e ty) (hf:PE X f tx) (m:M2 X o "setdefault" apos e f cpos):PE X (.Call (.Attribute o "setdefault" apos) [e,f] [] cpos) (YK td ty tx):=by
 intro pins s σ H Q I h;refine A2Q m.base m.few m.line A2e A3K PySem.F.type_dict_setdefault (cN (ho pins s σ H _ I h) fun u s1 zq=>?_);obtain ⟨x,H1,I1,rx,a,ex,d,q1⟩:=zq;subst ex;obtain rfl:u=Value.ref a:=rx;obtain ⟨t1,t2,_⟩:=xV I1 d;refine ⟨t1,t2,?_⟩;rw [m.trees];refine A1r rfl (A2a (A1P (cN (he pins s1 σ H1 _ I1 q1) fun iv s2 ⟨y,H2,I2,ry,q2⟩ =>
  A1P (cN (hf pins s2 σ H2 _ I2 q2) fun fv s3 ⟨z,H3,I3,rz,kvs,k,ea,ey,lt,q3,q4⟩=>A2s ?_))))
 subst ey;exact PN I3 ea ry rz lt (fun v w' s4 l I4 cO=>⟨v,H3,I4,cO,q3 v l⟩) fun s4 l I4=>⟨z,_,I4,rz,q4 l⟩
end
end L2
namespace M
open PySem L2 PyProof.Rows
abbrev yN:Stmt:=inClass (top 26) 0
abbrev uH:Stmt:=top 27
abbrev sWN:Stmt:=top 28
abbrev sWL:Stmt:=top 31
abbrev YL:Stmt:=top 32
abbrev YM:Stmt:=top 33
abbrev YQ:Stmt:=top 38
abbrev sDH:Stmt:=top 34
abbrev sDG:Stmt:=top 35
abbrev sDD:Stmt:=top 40
structure iW (K:PySem.W.Frag) (CR:Addr):Prop where
 cl:Cls K CR
 n1:dN K CR "ground"
 n2:dN K CR "kin"
 n3:dN K CR "used"
 n4:dN K CR "lieges"
 n5:dN K CR "deaths"
abbrev FRm (g k u li de:Addr):List (Str×V):=[("ground",.ref g),("kin",.ref k),("used",.ref u),("lieges",.ref li),("deaths",.ref de)]
def uI {α:Type} (g:α->Str) (f:α->V) (l:List α):List 0x30:=l.map fun a=>(Sum.inr (g a),f a)
theorem yO {α:Type}{g:α->Str}{f:α->V}{n:Str} (l:List α):(bI (uI g f l) 0x2C).isSome=decide (n∈l.map g):=by
 unfold uI bI
 induction l with
 | nil=>rfl
 | cons a r ih =>
  rw [A0m]
  by_cases h:g a=n
  ·rw [A1n (by simp [h]),<- h];simp
  ·rw [A1e (by simp;exact h),ih];simp [A0k h]
theorem su {α:Type}{g:α->Str}{f:α->V}{a:α}{l:List α} (h:g a∉l.map g):putK (uI g f l) (.inr (g a)) (f a)=uI g f (l++[a]):=by
 have hf:(uI g f l).any (fun kv=>decide (kv.1=(Sum.inr (g a):Key)))=false:=by
  rw [A3n];intro kv hkv;obtain ⟨b,hb,rfl⟩:=A0e.mp hkv;simp only [A2g];exact fun z=>h (by injection z with z;rw [<- z];exact A0e.mpr ⟨b,hb,rfl⟩)
 unfold putK;rw [A0f (by rw [hf];exact A0p)];unfold uI;rw [iZ];rfl
theorem sE {α:Type}{g:α->Str}{f:α->V} (l:List α):(uI g f l).length=l.length:=cg ..
abbrev YS (ks:List Str):=uI id (fun _=>V.bl true) ks
abbrev Q0 (dd:List (Str×Int)):=uI (·.1) (fun _=>V.bl true) dd
abbrev Q6 (dd:List (Str×Int)):=uI (·.1) (fun p=>V.int p.2) dd
def wK (l:List (Str×Int×Str)):Option Str:=l.getLast?.map (·.2.2)
def Iv (lg:List (Str×Int×Str)):List 0x30:=lg.foldl (fun d e=>putK d (.inr e.1) (.str e.2.2)) []
theorem uJ (lg:List (Str×Int×Str)) (e:Str×Int×Str):Iv (lg++[e])=putK (Iv lg) (.inr e.1) (.str e.2.2):=by
 unfold Iv;rw [List.foldl_append];rfl
theorem Wq {α:Type}{p:List α->Prop} (h0:p []) (hs:∀ l x,p l->p (l++[x])) (l:List α):p l:=by
 have:∀ r:List α,p r.reverse:=fun r=>by
  induction r with
  | nil=>exact h0
  | cons x r ih=>rw [List.reverse_cons];exact hs _ _ ih
 have:=this l.reverse
 rwa [List.reverse_reverse] at this
theorem Ui (lg:List (Str×Int×Str)):(Iv lg).length<=lg.length:=by
 refine Wq (p:=fun lg=>(Iv lg).length<=lg.length) (A0h _) (fun l x ih=>?_) lg;rw [uJ,gZ];exact A0M (dY _ _ _) (A2V ih)
theorem Uj {m:Str} (lg:List (Str×Int×Str)):bI (Iv lg) (.inr m)=(wK (lg.filter fun e=>decide (e.1=m))).map V.str:=by
 refine Wq (p:=fun lg=>bI (Iv lg) (.inr m)=(wK (lg.filter fun e=>decide (e.1=m))).map V.str) rfl (fun l x ih=>?_) lg;rw [uJ,bF,A1i]
 by_cases c:x.1=m
 ·rw [A0i (by rw [c]),A0Y 0x2B,A3L];unfold wK;rw [List.getLast?_append];rfl
 ·rw [A0f (fun z=>c (by injection z with z;exact z.symm)),A1j 0x2B,A3L,A0K];exact ih
structure Rm where
 z:Addr
 dz:Addr
 k:Addr
 dk:Addr
 hh:Addr
 gg:Addr
 u:Addr
 li:Addr
 de:Addr
theorem Bv {α:Type}{g:α->Str}{f:α->V}{n:Str}{l:List α} (h:bI (uI g f l) 0x2C=some v):∃ a∈l,g a=n/\f a=v:=by
 unfold uI bI at h;obtain ⟨p,hp,rfl⟩:=A0t.mp h;obtain ⟨a,ha,rfl⟩:=A0e.mp (A1W hp);have:=List.find?_some hp;simp only [A2g] at this;injection this with this;exact ⟨a,ha,this,rfl⟩
structure YT (H:Hp) (li:Addr) (lg:List (Str×Int×Str)) (gs:List (Str×Addr)):Prop where
 d:H li=some (.dK (uI (·.1) (fun p=>V.ref p.2) gs))
 nm:(gs.map (·.1)).Nodup
 na:(gs.map (·.2)).Nodup
 lt:∀ p∈gs,∃ ts:List Addr,H p.2=some (.lst (ts.map V.ref))/\Paired (fun t (e:Str×Int×Str)=>H t=some (.tup [.int e.2.1,.str e.2.2])) ts (lg.filter fun e=>decide (e.1=p.1))
 all:∀ e∈lg,e.1∈gs.map (·.1)
 ln:gs.length<=lg.length
inductive Dc (H:Hp) (li:Addr) (lg:List (Str×Int×Str)):Prop
 | mk (gs:List (Prod Str Addr)) (_:YT H li lg gs):Dc H li lg
inductive NL (H:Hp) (li c:Addr):Prop
 | mk (kvs:List 0x22) (_:H li=some 0x13) (_:∀ k,(k,V.ref c)∉kvs):NL H li c
theorem Dc.Wr {x:Addr} (a:Dc H li lg) (n:NL H li x) (h0:∀ kvs,H li=some 0x13->H' li=some 0x13) (hl:∀ c xs,c≠x->H c=some (.lst xs)->H' c=some (.lst xs)) (ht:∀ c xs,H c=some 0x2E->H' c=some 0x2E):Dc H' li lg:=by
 obtain ⟨gs,G⟩:=a;obtain ⟨kvs,n1,n2⟩:=n;rw [G.d] at n1;injection n1 with n1;injection n1 with n1;exact ⟨gs,h0 _ G.d,G.nm,G.na,fun p hp=>by obtain ⟨ts,h1,h2⟩:=G.lt p hp;exact ⟨ts,hl _ _ (fun z=>n2 (.inr p.1) (by rw [<- n1,<- z];exact A0e.mpr ⟨p,hp,rfl⟩)) h1,Paired.imp' (fun t e h=>ht _ _ h) h2⟩,G.all,G.ln⟩
theorem Dc.keep (a:Dc H li lg) (h0:∀ u,H li=some u->H' li=some u) (hl:∀ c xs,H c=some (.lst xs)->H' c=some (.lst xs)) (ht:∀ c xs,H c=some 0x2E->H' c=some 0x2E):Dc H' li lg:=by
 obtain ⟨gs,G⟩:=a;exact ⟨gs,h0 _ G.d,G.nm,G.na,fun p hp=>by obtain ⟨ts,h1,h2⟩:=G.lt p hp;exact ⟨ts,hl _ _ h1,Paired.imp' (fun t e h=>ht _ _ h) h2⟩,G.all,G.ln⟩
theorem Dc.same (a:Dc H li lg) (s:Same H H'):Dc H' li lg:=a.keep (fun u h=>s _ _ h) (fun c xs h=>s _ _ h) fun c xs h=>s _ _ h
theorem Dc.dput {kv0:List 0x30} (a:Dc H li lg) (hc:H c=some (.dK kv0)) (ne:li≠c):Dc (upd H c o) li lg :=
 a.keep (fun u h=>by rw [aj ne];exact h) (fun b xs h=>by rw [aj (aM h hc 0x5)];exact h) fun b xs h=>by rw [aj (aM h hc 0x5)];exact h
theorem NL.same (n:NL H li c) (s:Same H H'):NL H' li c:=by
 obtain ⟨kvs,h1,h2⟩:=n;exact ⟨kvs,s _ _ h1,h2⟩
theorem NL.mv (n:NL H li c) (h:∀ kvs,H li=some 0x13->H' li=some 0x13):NL H' li c:=by
 obtain ⟨kvs,h1,h2⟩:=n;exact ⟨kvs,h _ h1,h2⟩
theorem NL.Uk (n:NL H li c) (h:H a=some (.lst xs)):NL (upd H a o) li c:=n.mv fun kvs h1=>by rw [aj (aM h1 h 0x5)];exact h1
structure cL (CR CK C:Addr) (H:Hp) (m:Rm) (q:Ad) (W:Wo):Prop where
 o:H m.z=some (.ins CR m.dz (FRm q.x m.k m.u m.li m.de))
 K:o9 CK H m.k m.dk m.hh m.gg W.hs (Q0 W.dd)
 U:H m.u=some (.dK (YS W.ks))
 D:H m.de=some (.dK (Q6 W.dd))
 G:Dc H m.li W.lg
 L:Ln C q H W.es
theorem cL.same {CR:Addr}{m:Rm}{q:Ad}{W:Wo} (a:cL CR CK C H m q W) (s:Same H H'):cL CR CK C H' m q W:=⟨s _ _ a.o,a.K.same s,s _ _ a.U,s _ _ a.D,a.G.same s,a.L.same s⟩
theorem cL.dead {CR:Addr}{m:Rm}{q:Ad}{W:Wo} (a:cL CR CK C H m q W) (z:Str):(bI (Q0 W.dd) (.inr z)).isSome=decide (z∈W.gone):=yO _
def St (W:Wo):Ro->Prop
 | .grant e n m a _=>∃ y∈W.es,y.n=e/\n∉W.ks/\m∉W.gone/\a<=y.own
 | .heir m _=>m∉W.gone
 | .liege m l=>m∉W.gone/\Bound W.es m l
 | .death m=>m∉W.gone
def Wd2 (W:Wo) (dy:Int) (ro:Ro) (w:Str):Prop:=(w≠"stands"/\Jo W dy ro w W)\/(w="stands"/\St W ro)
inductive ni (CR CK C:Addr) (ok:Ro->Bool) (vs:List V) (H:Hp) (Q:VK) (cB:XK):Prop
 | mk (m:Rm) (q:Ad) (W:M.Wo) (r:Addr) (ro:M.Ro) (dy:Int) (_:vs=[.ref m.z,.ref r]) (_:cL CR CK C H m q W) (_:(nms W.es).Nodup) (_:H r=some (.tup (Ro.vs dy ro))) (_:ok ro=true) (_:∀ (w:Str) (H':Hp),Same H H'->Wd2 W dy ro w->Q (.str w) H'):ni CR CK C ok vs H Q cB
def Ey:Ro->Bool
 | .grant ..=>true
 | _=>false
def Kg:Ro->Bool
 | .heir ..=>true
 | _=>false
def Ul:Ro->Bool
 | .liege ..=>true
 | _=>false
def Kh:Ro->Bool
 | .death ..=>true
 | _=>false
section
variable {CR:Addr}
theorem Q7:aP ["realm", "row", "estate", "new", "man", "acres"] A4O (aH sWN):=0x0
theorem a0Q (T:gq K C) (TK:uE K CK) (TR:iW K CR) (F:fu K "word_of_new" "word_of_new" sWN f fd)  (mS:mg "STANDS"=some (.str "stands" tS)) 
  (G1:aL P w K mg base bO 1 g1 d1 A4M (rP C)) (m1:Meth K C "there" g1) (b1:Binds K d1 A4M [])
  (G2:aL P w K mg base bO 1 g2 d2 A4Q (qI CK)) (m2:Meth K CK "is_dead" g2) (b2:Binds K d2 A4Q [])
  (G3:aL P w K mg base bO 3 g3 d3 A4M (Ny C)) (m3:Meth K C "own" g3) (b3:Binds K d3 A4M []) :
  aL P w K mg base bO 4 f fd A4O (ni CR CK C Ey):=by
 refine F.ok Q7 0x1 0x2;obtain ⟨m,q,W,r,ro,dy,rfl,R,nd,hx,hk,k⟩:=h;have hr1:cH 1 _:=hr.mono 0x6;refine ⟨_,au (tu (eV xW 0x10 (cD aA) (cD aA)) (lC rfl (bT (bf (i:=2) Q7.nd rfl 0x8) (bT (bf (i:=3) Q7.nd rfl 0x8) (bT (bf (i:=4) Q7.nd rfl 0x8) (bT (bf (i:=5) Q7.nd rfl 0x8) gC))))))
  (au (bK (iT (dZ (cj (CX:=bO) (E:=E0) 0xC T.cl m1 G1 hr1 b1 .nil bC (ak (pv 2) aC)))) (aG (aV aK)) aR)
  (au (bK (xu (tZ (u1 hr) (pv 3) 0xC) 0xE) (aG (aV aK)) aR)
  (au (bK (dZ (cj (CX:=bO) (E:=E0) 0xC TK.cl m2 G2 hr1 b2 .nil bC (ak (pv 4) aC))) (aG (aV aK)) aR)
  (au (bK (aQ tK (cj (CX:=bO) (E:=E0) 0xC T.cl m3 G3 hr b3 .nil bC (ak (pv 2) aC)) (pv 5) (bB _)) (aG (aV aK)) aR)
  (aG (aV (cQ rfl mS ⟨_,rfl⟩ (v:=.str "stands")))))))),?_⟩
 cases ro with
 | heir _ _=>cases hk
 | liege _ _=>cases hk
 | death _=>cases hk
 | grant e n mn a s =>
 refine ⟨_,rfl,_,rfl,_,rfl,r,_,rfl,bZ.of hx,fun p H1 ho=>?_⟩;obtain ⟨hp,s1⟩:=oH ho;refine ⟨p,[.str e,.str n,.str mn,.int a],rfl,hp,rfl,_,_,rfl,_,_,rfl,_,_,rfl,_,_,rfl,rfl,?_⟩;have R1:=R.same s1;clear ho hp;refine ⟨_,rfl,m.z,CR,m.dz,_,_,rfl,R1.o,TR.cl,TR.n1,rfl,q.x,q.dx,_,rfl,R1.L.o,rfl,_,rfl,?_⟩;refine ⟨q.x,q.dx,q.a1,q.a2,q.a3,q.a4,q.a5,_,_,_,_,_,_,rfl,R1.L,?_⟩;rw [kJ];refine ⟨_,rfl,?_⟩
 by_cases he:e∈nms W.es
 rotate_left
 ·rw [A0n he];exact dU (k _ _ s1 (.inl ⟨by decide +kernel,.no he⟩))
 rw [A0g he];refine cA ?_;refine ⟨_,rfl,_,rfl,m.z,CR,m.dz,_,_,rfl,R1.o,TR.cl,TR.n3,rfl,m.u,_,rfl,dj.k (k:=.inr n) R1.U,_,rfl,?_⟩;rw [yO,List.map_id]
 by_cases hn:n∈W.ks
 ·rw [A0g hn];exact dU (k _ _ s1 (.inl ⟨by decide +kernel,.tk he hn⟩))
 rw [A0n hn];refine cA ?_;refine ⟨_,rfl,m.z,CR,m.dz,_,_,rfl,R1.o,TR.cl,TR.n2,rfl,m.k,m.dk,_,rfl,R1.K.o,rfl,_,rfl,m.k,m.dk,m.hh,m.gg,_,_,_,rfl,R1.K,_,rfl,?_⟩;rw [R1.dead]
 by_cases hd:mn∈W.gone
 ·rw [A0g hd];exact dU (k _ _ s1 (.inl ⟨by decide +kernel,.de he hn hd⟩))
 rw [A0n hd];refine cA ?_;obtain ⟨y,hy,Wj⟩:=fP he;refine ⟨_,rfl,m.z,CR,m.dz,_,_,rfl,R1.o,TR.cl,TR.n1,rfl,q.x,q.dx,_,rfl,R1.L.o,rfl,_,rfl,?_⟩;refine ⟨q.x,q.dx,q.a1,q.a2,q.a3,q.a4,q.a5,_,_,_,_,_,_,_,rfl,R1.L,by rw [kJ];exact A0g he,by rw [<- Wj];exact eG nd hy,_,rfl,_,_,rfl,rfl,_,rfl,iy 0x35 0x35⟩
 ·have h:=c;simp only [A2g] at h;exact k _ _ s1 (.inl ⟨by decide +kernel,.ac hy Wj hn hd h⟩)
 ·have h:=c;simp only [A2g] at h;exact k _ _ s1 (.inr ⟨rfl,y,hy,Wj,hn,hd,by lia⟩)
theorem scWL:aP A4O A4O (aH sWL):=0x0
theorem a0R (TK:uE K CK) (TR:iW K CR) (F:fu K "word_of_living" "word_of_living" sWL f fd)  (mS:mg "STANDS"=some (.str "stands" tS)) 
  (G2:aL P w K mg base bO 1 g2 d2 A4Q (qI CK)) (m2:Meth K CK "is_dead" g2) (b2:Binds K d2 A4Q []) :
  aL P w K mg base bO 4 f fd A4O (ni CR CK C fun ro=>Kg ro||Kh ro):=by
 refine F.ok scWL 0x1 0x2;obtain ⟨m,q,W,r,ro,dy,rfl,R,nd,hx,hk,k⟩:=h;have hr1:cH 1 _:=hr.mono 0x6;refine ⟨_,au (bK (dZ (cj (CX:=bO) (E:=E0) 0xC TK.cl m2 G2 hr1 b2 .nil bC (ak 0x19 aC))) (aG (aV aK)) aR)
  (aG (aV (cQ rfl mS ⟨_,rfl⟩ (v:=.str "stands")))),?_⟩
 obtain ⟨z,hz,hv,hs⟩:∃ z,(Ro.vs dy ro)[2]?=some (.str z)/\(z∈W.gone->Jo W dy ro "dead" W)/\(z∉W.gone->St W ro):=by
  cases ro with
  | grant _ _ _ _ _=>cases hk
  | liege _ _=>cases hk
  | heir a b=>exact ⟨a,rfl,.hd,id⟩
  | death a=>exact ⟨a,rfl,.dx,id⟩
 refine ⟨_,rfl,m.z,CR,m.dz,_,_,rfl,R.o,TR.cl,TR.n2,rfl,m.k,m.dk,_,rfl,R.K.o,rfl,_,rfl,r,_,_,_,rfl,rfl,bZ.of hx,aJ (j:=2) hz,m.k,m.dk,m.hh,m.gg,_,_,_,rfl,R.K,_,rfl,?_⟩;rw [R.dead]
 by_cases hd:z∈W.gone
 ·rw [A0g hd];exact dU (k _ _ (Same.refl _) (.inl ⟨by decide +kernel,hv hd⟩))
 ·rw [A0n hd];exact cA (k _ _ (Same.refl _) (.inr ⟨rfl,hs hd⟩))
end
def jP (m:Rm) (q:Ad):List Addr:=[q.a1,q.a2,q.a3,q.a4,q.a5,m.u,m.hh,m.gg,m.de,m.li]
def Sep (m:Rm) (q:Ad):Prop:=(jP m q).Nodup
def gH (m:Rm) (q:Ad) (H H':Hp):Prop:=∀ c u,c∉jP m q->NL H m.li c->H c=some u->H' c=some u/\NL H' m.li c
theorem Sep.a5 {m:Rm}{q:Ad} (S:Sep m q):Ti q.a1 q.a2 q.a3 q.a4 q.a5:=⟨bN S 0 1 rfl rfl 0x6,bN S 0 2 rfl rfl 0x6,bN S 0 3 rfl rfl 0x6,bN S 0 4 rfl rfl 0x6,bN S 1 2 rfl rfl 0x6,bN S 1 3 rfl rfl 0x6,bN S 1 4 rfl rfl 0x6,bN S 2 3 rfl rfl 0x6,bN S 2 4 rfl rfl 0x6,bN S 3 4 rfl rfl 0x6⟩
theorem gH.trans {m:Rm}{q:Ad} (a:gH m q H H1) (b:gH m q H1 H2):gH m q H H2:=fun c u h n e=>b c u h (a c u h n e).2 (a c u h n e).1
theorem gH.same {m:Rm}{q:Ad} (s:Same H H'):gH m q H H':=fun c u _ n e=>⟨s c u e,n.same s⟩
theorem gH.put {m:Rm}{q:Ad} (S:Sep m q) (i:Nat) (hi:(jP m q)[i]?=some a) (h9:i≠9):gH m q H (upd H a o):=fun c u hc n e=>by
 obtain ⟨kvs,h1,h2⟩:=n;exact ⟨by rw [aj fun z=>hc (by rw [z];exact vm hi)];exact e,kvs,by rw [aj (bN S 9 i rfl hi (A0k h9))];exact h1,h2⟩
theorem Ka.Ez {m:Rm}{q:Ad} (S:Sep m q) (o:Ka q H H'):gH m q H H':=fun c u h n e=>by
 simp only [jP,A0d,A0w,A1k,A4v] at h;obtain ⟨kvs,h1,h2⟩:=n;exact ⟨o c u h.1 h.2.1 h.2.2.1 h.2.2.2.1 h.2.2.2.2.1 e,kvs,o _ _ (bN S 9 0 rfl rfl 0x6) (bN S 9 1 rfl rfl 0x6) (bN S 9 2 rfl rfl 0x6) (bN S 9 3 rfl rfl 0x6) (bN S 9 4 rfl rfl 0x6) h1,h2⟩
theorem cL.Kl {CR:Addr}{m:Rm}{q:Ad}{W:Wo} (a:cL CR CK C H m q W) (o:gH m q H H') {u:HO} (h:c∉jP m q) (hc:H c=some u) (hl:∀ xs,u≠.lst xs:=by intro _ z;cases z):H' c=some u:=by
 obtain ⟨gs,G⟩:=a.G;refine (o c u h ⟨_,G.d,fun k hk=>?_⟩ hc).1;obtain ⟨p,hp,e⟩:=A0e.mp hk;injection e with _ e;injection e with e;obtain ⟨ts,h1,_⟩:=G.lt p hp;rw [e,hc] at h1;injection h1 with h1;exact hl _ h1
theorem cL.out {CR:Addr}{m:Rm}{q:Ad}{W:Wo} (a:cL CR CK C H m q W) (o:gH m q H H') {u:HO} (hn:∀ kvs,u≠.dK kvs) (hc:H c=some u) (hl:∀ xs,u≠.lst xs:=by intro _ z;cases z):H' c=some u:=by
 have ne:∀ {b:Addr}{kvs:List 0x30},H b=some 0x13->c≠b:=fun hb=>aM hc hb (hn _);obtain ⟨gs,G⟩:=a.G;refine a.Kl o ?_ hc hl;simp only [jP,A0d,A0w,A1k,A4v];exact ⟨ne a.L.l1,ne a.L.l2,ne a.L.l3,ne a.L.l4,ne a.L.l5,ne a.U,ne a.K.h,ne a.K.g,ne a.D,ne G.d⟩
theorem cL.noN {CR:Addr}{m:Rm}{q:Ad}{W:Wo} (a:cL CR CK C H m q W) (h:W.lg=[]) :NL H m.li c:=by
 obtain ⟨gs,G⟩:=a.G;have h1:=G.ln;rw [h] at h1;have h2:gs=[]:=List.eq_nil_of_length_eq_zero (Nat.le_zero.mp h1);refine ⟨_,G.d,fun k hk=>?_⟩;rw [h2] at hk;cases hk
theorem cL.Q8 {CR:Addr}{m:Rm}{q:Ad}{W:Wo} (a:cL CR CK C H m q W) (o:gH m q H H')  (hc:H c=some (.lst xs)) (n:NL H m.li c):H' c=some (.lst xs)/\NL H' m.li c:=by
 have ne:∀ {b:Addr}{kvs:List 0x30},H b=some 0x13->c≠b:=fun hb=>aM hc hb 0x5;obtain ⟨gs,G⟩:=a.G;refine o c _ ?_ n hc;simp only [jP,A0d,A0w,A1k,A4v];exact ⟨ne a.L.l1,ne a.L.l2,ne a.L.l3,ne a.L.l4,ne a.L.l5,ne a.U,ne a.K.h,ne a.K.g,ne a.D,ne G.d⟩
theorem cL.newN {CR:Addr}{m:Rm}{q:Ad}{W:Wo} (a:cL CR CK C H m q W)  (hc:H c=none):NL H m.li c:=by
 obtain ⟨gs,G⟩:=a.G;refine ⟨_,G.d,fun k hk=>?_⟩;obtain ⟨p,hp,e⟩:=A0e.mp hk;injection e with _ e;injection e with e;obtain ⟨ts,h1,_⟩:=G.lt p hp;rw [e,hc] at h1;cases h1
theorem cL.YW {CR:Addr}{m:Rm}{q:Ad}{W:Wo}{es':List aU} (a:cL CR CK C H m q W) (S:Sep m q) (o:Ka q H H') (L:Ln C q H' es'):cL CR CK C H' m q { W with es:=es' }:=by
 have i:=fun {c D d:Addr}{fs:List (Str×V)} (h:H c=some (.ins D d fs))=>a.out (o.Ez S) 0x21 h;have g:=fun {c:Addr}{u:HO} (j:Nat) (hj:(jP m q)[j]?=some c) (h5:4<j) (h:H c=some u)=>o c u (bN S j 0 hj rfl 0x3) (bN S j 1 hj rfl 0x3) (bN S j 2 hj rfl 0x3) (bN S j 3 hj rfl 0x3) (bN S j 4 hj rfl 0x3) h;exact ⟨i a.o,⟨i a.K.o,g 6 rfl 0x6 a.K.h,g 7 rfl 0x6 a.K.g⟩,g 5 rfl 0x6 a.U,g 8 rfl 0x6 a.D,a.G.keep (fun u h=>g 9 rfl 0x6 h) (fun c xs h=>o c _ (aM h a.L.l1 0x5) (aM h a.L.l2 0x5) (aM h a.L.l3 0x5) (aM h a.L.l4 0x5) (aM h a.L.l5 0x5) h) (fun c xs h=>a.out (o.Ez S) 0x21 h),L⟩
section
variable {CR:Addr}{m:Rm}{q:Ad}{W:Wo}
theorem cL.kept (a:cL CR CK C H m q W) (S:Sep m q)  (i:Nat) (hi:(jP m q)[i]?=some c) {kv0:List 0x30} (h0:H c=some (.dK kv0)):(∀ {b D d:Addr}{fs:List (Str×V)},H b=some (.ins D d fs)->(upd H c o) b=some (.ins D d fs))/\∀ (j:Nat) {b:Addr}{u:HO},(jP m q)[j]?=some b->j≠i->H b=some u->(upd H c o) b=some u :=
 ⟨fun h=>by rw [aj (aM h h0 0x5)];exact h,fun j b u hj hn h=>by rw [aj (bN S j i hj hi hn)];exact h⟩
theorem cL.used (a:cL CR CK C H m q W) (S:Sep m q):cL CR CK C (upd H m.u (.dK (YS ks'))) m q { W with ks:=ks' }:=by
 obtain ⟨i,g⟩:=a.kept S (o:=.dK (YS ks')) 5 rfl a.U;exact ⟨i a.o,⟨i a.K.o,g 6 rfl 0x6 a.K.h,g 7 rfl 0x6 a.K.g⟩,ao,g 8 rfl 0x6 a.D,a.G.dput a.U (bN S 9 5 rfl rfl 0x6),i a.L.o,g 0 rfl 0x6 a.L.l1,g 1 rfl 0x6 a.L.l2,g 2 rfl 0x6 a.L.l3,g 3 rfl 0x6 a.L.l4,g 4 rfl 0x6 a.L.l5⟩
theorem cL.heirs {hs':List 0x30} (a:cL CR CK C H m q W) (S:Sep m q):cL CR CK C (upd H m.hh (.dK hs')) m q { W with hs:=hs' }:=by
 obtain ⟨i,g⟩:=a.kept S (o:=.dK hs') 6 rfl a.K.h;exact ⟨i a.o,⟨i a.K.o,ao,g 7 rfl 0x6 a.K.g⟩,g 5 rfl 0x6 a.U,g 8 rfl 0x6 a.D,a.G.dput a.K.h (bN S 9 6 rfl rfl 0x6),i a.L.o,g 0 rfl 0x6 a.L.l1,g 1 rfl 0x6 a.L.l2,g 2 rfl 0x6 a.L.l3,g 3 rfl 0x6 a.L.l4,g 4 rfl 0x6 a.L.l5⟩
theorem cL.died {qY:List (Str×Int)} (a:cL CR CK C H m q W) (S:Sep m q):cL CR CK C (upd (upd H m.gg (.dK (Q0 qY))) m.de (.dK (Q6 qY))) m q { W with dd:=qY }:=by
 obtain ⟨i,g⟩:=a.kept S (o:=.dK (Q0 qY)) 7 rfl a.K.g;have n:=fun (j:Nat) {b:Addr} (hj:(jP m q)[j]?=some b) (h:j≠8)=>bN S j 8 hj rfl h;have d0:=g 8 rfl 0x6 a.D;have i2:=fun {b D d:Addr}{fs:List (Str×V)} (h:H b=some (.ins D d fs))=>(show (upd (upd H m.gg (.dK (Q0 qY))) m.de (.dK (Q6 qY))) b=some (.ins D d fs) by rw [aj (aM (i h) d0 0x5)];exact i h)
 have g2:=fun (j:Nat) {b:Addr}{u:HO} (hj:(jP m q)[j]?=some b) (h7:j≠7) (h8:j≠8) (h:H b=some u)=>(show (upd (upd H m.gg (.dK (Q0 qY))) m.de (.dK (Q6 qY))) b=some u by rw [aj (n j hj h8)];exact g j hj h7 h)
 exact ⟨i2 a.o,⟨i2 a.K.o,g2 6 rfl 0x6 0x6 a.K.h,by rw [aj (n 7 rfl 0x6),ao]⟩,g2 5 rfl 0x6 0x6 a.U,ao,(a.G.dput a.K.g (bN S 9 7 rfl rfl 0x6)).dput d0 (bN S 9 8 rfl rfl 0x6),i2 a.L.o,g2 0 rfl 0x6 0x6 a.L.l1,g2 1 rfl 0x6 0x6 a.L.l2,g2 2 rfl 0x6 0x6 a.L.l3,g2 3 rfl 0x6 0x6 a.L.l4,g2 4 rfl 0x6 0x6 a.L.l5⟩
end
theorem cL.liege {CR:Addr}{m:Rm}{q:Ad}{W:Wo}{lg':List (Str×Int×Str)} (a:cL CR CK C H m q W) (S:Sep m q) {la:Addr} (hla:H la=none\/∃ xs,H la=some (.lst xs)) (fr:∀ c u,c≠la->c≠m.li->H c=some u->H' c=some u) (G':Dc H' m.li lg'):cL CR CK C H' m q { W with lg:=lg' }:=by
 have nl:∀ {c:Addr}{u:HO},H c=some u->(∀ xs,u≠.lst xs)->c≠la:=fun {c u} h n z=>by
  rw [z] at h;rcases hla with e | ⟨xs,e⟩
  ·rw [e] at h;cases h
  ·rw [e] at h;injection h with h;exact n _ h.symm
 obtain ⟨gs,G⟩:=a.G;have i:=fun {c D d:Addr}{fs:List (Str×V)} (h:H c=some (.ins D d fs))=>fr c _ (nl h (by intro _ z;cases z)) (aM h G.d 0x5) h;have g:=fun (j:Nat) {b:Addr}{kvs:List (Key×V)} (hj:(jP m q)[j]?=some b) (h9:j≠9) (h:H b=some (.dK kvs))=>fr b _ (nl h (by intro _ z;cases z)) (bN S j 9 hj rfl h9) h;exact ⟨i a.o,⟨i a.K.o,g 6 rfl 0x6 a.K.h,g 7 rfl 0x6 a.K.g⟩,g 5 rfl 0x6 a.U,g 8 rfl 0x6 a.D,G',i a.L.o,g 0 rfl 0x6 a.L.l1,g 1 rfl 0x6 a.L.l2,g 2 rfl 0x6 a.L.l3,g 3 rfl 0x6 a.L.l4,g 4 rfl 0x6 a.L.l5⟩
def a0S (CR CK C:Addr) (m:Rm) (q:Ad) (H:Hp) (W:Wo) (dy:Int) (ro:Ro) (Q:VK):Prop :=
 ∀ W' H',Jo W dy ro "stands" W'->cL CR CK C H' m q W'->(∀ e∈W'.es,jB H' e.ta e.due.1 e.due.2)->gH m q H H'->Q .non H'
inductive iG (CR CK C:Addr) (ok:Ro->Bool) (vs:List V) (H:Hp) (Q:VK) (cB:XK):Prop
 | mk (m:Rm) (q:Ad) (W:M.Wo) (ls:List Str) (j:Nat) (r:Addr) (ro:M.Ro) (dy wd:Int) (_:vs=[.ref m.z,.ref r]) (_:cL CR CK C H m q W) (_:Sep m q) (_:Wp W ls j wd) (_:(∀ e∈W.es,jB H e.ta e.due.1 e.due.2)) (_:St W ro) (_:Ro.Ok ls ro) (_:Ro.Tx ro) (_:0x3B) (_:j<=60) (_:H r=some (.tup (Ro.vs dy ro))) (_:ok ro=true) (_:a0S CR CK C m q H W dy ro Q):iG CR CK C ok vs H Q cB
section
variable {CR:Addr}
theorem Km:aP ["realm", "row", "estate", "new", "man", "acres", "service"] A4O (aH sDG):=0x0
theorem a0T (T:gq K C) (TR:iW K CR) (F:fu K "do_grant" "do_grant" sDG f fd) 
  (G1:aL P w K mg base bO 4 g1 d1 A4Y (rQ C)) (m1:Meth K C "grant" g1) (b1:Binds K d1 A4Y []) :
  aL P w K mg base bO 5 f fd A4O (iG CR CK C Ey):=by
 refine F.ok Km 0x1 0x2;obtain ⟨m,q,W,ls,j,r,ro,dy,wd,rfl,R,S,WP,fr,hst,hok,htx,hls,hj,hx,hk,k⟩:=h;refine ⟨_,au (tu (eV xW 0x10 (cD aA) fV) (lC rfl (bT (bf (i:=2) Km.nd rfl 0x8) (bT (bf (i:=3) Km.nd rfl 0x8) (bT (bf (i:=4) Km.nd rfl 0x8) (bT (bf (i:=5) Km.nd rfl 0x8) (bT (bf (i:=6) Km.nd rfl 0x8) gC)))))))
  (au (bV (cj (CX:=bO) (E:=E0) 0xC T.cl m1 G1 hr b1 .nil bC (ak (pv 2) (ak (pv 3) (ak (pv 4) (ak (pv 5) (ak (pv 6) aC)))))))
  (aG (dw (u1 hr) 0xC (pv 3) nW rfl))),?_⟩
 cases ro with
 | heir _ _=>cases hk
 | liege _ _=>cases hk
 | death _=>cases hk
 | grant e n mn a s =>
 refine ⟨_,rfl,_,rfl,r,_,rfl,bZ.of hx,fun p H1 ho=>?_⟩;obtain ⟨hp,s1⟩:=oH ho;refine ⟨p,[.str e,.str n,.str mn,.int a,.int s],rfl,hp,rfl,_,_,rfl,_,_,rfl,_,_,rfl,_,_,rfl,_,_,rfl,rfl,?_⟩;have R1:=R.same s1;clear ho hp;obtain ⟨y,hy,he,hn,hm,ha⟩:=hst;have PU:=WP.E.P;have hst:gP W.es W.ks y (.grant e n mn a s):=⟨hy,he,hn,ha⟩;refine ⟨_,rfl,m.z,CR,m.dz,_,_,rfl,R1.o,TR.cl,TR.n1,rfl,q.x,q.dx,_,rfl,R1.L.o,rfl,_,rfl,_,rfl,_,rfl,_,rfl,_,rfl,?_⟩;dsimp only [nP,List.cons_append,List.nil_append];refine Pb (E:=E0) PU R1.L S.a5 (fun e he=>s1 _ _ (fr e he)) hst hok hls hj fun t1 t2 H2 hL fN o=>?_;have R2:=R1.YW S o (hL 0 0);have hU:H2 m.u=some (.dK (YS W.ks)):=R2.U;have eU:putK (YS W.ks) 0x2C (.bl true)=YS (W.ks++[n]):=su (g:=id) (a:=n) (by rw [List.map_id];exact hn);refine ⟨_,rfl,m.z,CR,m.dz,_,_,rfl,R2.o,TR.cl,TR.n3,rfl,_,rfl,m.u,_,rfl,iK.k (k:=.inr n) hU (bQ (by rw [sE];have:=PU.lk;lia)),?_⟩;rw [eU];have o2:=(gH.same s1).trans ((Ka.Ez (m:=m) S o).trans (gH.put (a:=m.u) (o:=.dK (YS (W.ks++[n]))) S 5 rfl 0x6));refine k _ _ (.gr t1 0 hy he hn hm ha) ((R1.YW S o (hL 0 0)).used S) ?_ o2;refine pQ (u1:=t1) (u2:=t2) (t1:=t1) (t2:=0) (b1:=0) (b2:=0) (·.ta) PU.W.nd hst (fun e he=>R.out o2 0x21 (fr e he)) ?_ 0x4 0x4 (fun _ _ _ _=>rfl) (fun _ _ _ _ _=>rfl);exact R2.out (gH.put S 5 rfl 0x6) 0x21 fN
theorem scDH:aP A4O A4O (aH sDH):=0x0
theorem a0U (TK:uE K CK) (TR:iW K CR) (F:fu K "do_heir" "do_heir" sDH f fd) 
  (G1:aL P w K mg base bO 4 g1 d1 ["self", "man", "heir"] (Ew CK)) (m1:Meth K CK "name_heir" g1) (b1:Binds K d1 ["self", "man", "heir"] []) :
  aL P w K mg base bO 5 f fd A4O (iG CR CK C Kg):=by
 refine F.ok scDH 0x1 0x2;obtain ⟨m,q,W,ls,j,r,ro,dy,wd,rfl,R,S,WP,fr,hst,hok,htx,hls,hj,hx,hk,k⟩:=h;refine ⟨_,aG (bV (cj (CX:=bO) (E:=E0) 0xC TK.cl m1 G1 hr b1 .nil bC (ak 0x19 (ak 0x19 aC)))),?_⟩;cases ro with
 | grant _ _ _ _ _=>cases hk
 | liege _ _=>cases hk
 | death _=>cases hk
 | heir a b =>
 have o2:gH m q H (upd H m.hh (.dK (putK W.hs (.inr a) (.str b)))):=gH.put S 6 rfl 0x6;exact ⟨_,rfl,m.z,CR,m.dz,_,_,rfl,R.o,TR.cl,TR.n2,rfl,m.k,m.dk,_,rfl,R.K.o,rfl,_,rfl,r,_,_,_,rfl,rfl,bZ.of hx,aJ (j:=2) rfl,_,rfl,r,_,_,_,rfl,rfl,bZ.of hx,aJ (j:=3) rfl,m.k,m.dk,m.hh,m.gg,_,_,a,b,rfl,R.K,hok,by have:=WP.hl;lia,k _ _ (.hr hst) (R.heirs S) (fun e he=>R.out o2 0x21 (fr e he)) o2⟩
theorem Fo.keep {es e1:List aU}{n:Str} (f:Fo r es ss e1) (h:n∈nms es):n∉ss->n∈nms e1:=by
 induction f with
 | nil=>intro _;exact h
 | @snoc ss e1 y f hy hn ih =>
  intro hs;obtain ⟨x,hx,hxn⟩:=fP (ih fun z=>hs (A0U _ z));have ne:x.n≠y.n:=fun z=>hs (A0z _ (by rw [<- hxn,z];exact A0b.mpr rfl));cases r with
  | none=>exact A0e.mpr ⟨_,A0e.mpr ⟨x,A0q.mpr ⟨hx,A0g ne⟩,rfl⟩,hxn⟩
  | some h =>
   show n∈nms (mod y.n (lY h) e1)
   rw [pO (g:=lY h) 0xF];exact A0e.mpr ⟨x,hx,hxn⟩
theorem EY {es:List aU}{m:Str} (hb:uG es m ss) (nd:(nms es).Nodup):ss.Nodup/\∀ n∈ss,∃ y∈es,y.n=n/\y.man=m :=
 ⟨hb.1.nodup_iff.mpr ((A2X.map _).nodup nd),fun n hn=>by
  obtain ⟨y,hy,rfl⟩:=A0e.mp (hb.1.mem_iff.mp hn);exact ⟨y,(A0q.mp hy).1,rfl,nU (A0q.mp hy).2⟩⟩
theorem Fo.next {es e1:List aU}{m n:Str} (hb:uG es m ss) (nd:(nms es).Nodup) (cr:∀ e∈es,e.n=""->e.man="") (hm:m≠"") (f:Fo r es (ss.take i) e1) (hi:ss[i]?=some n):n≠""/\∃ y∈e1,y.n=n:=by
 obtain ⟨nds,hall⟩:=EY hb nd;obtain ⟨y0,h0,hn0,hm0⟩:=hall n (vm hi);refine ⟨fun z=>hm (by rw [<- hm0];exact cr y0 h0 (hn0.trans z)),?_⟩;have hnot:n∉ss.take i:=fun hq=>by
  obtain ⟨k,hk⟩:=List.mem_iff_getElem?.mp hq;have hki:k<i:=by
   have:=(A0j.mp hk).1;rw [A0G] at this;lia
  rw [List.getElem?_take_of_lt hki] at hk;have:=(List.getElem?_inj (A0j.mp hk).1 nds).mp (hk.trans hi.symm);lia
 exact fP (f.keep (by rw [<- hn0];exact A0e.mpr ⟨y0,h0,rfl⟩) hnot)
theorem ZG.die {y:aU}{n:Str}:ZG y 0 0 H (uF r n):=by cases r <;> exact True.intro
theorem Iw {es:List aU}{y:aU} (hy:y∈es):gP es ks y (uF r y.n):=by cases r <;> exact ⟨hy,rfl⟩
theorem Bw (r:Option Str):decide (mZ r=V.non)=r.isNone:=by cases r <;> rfl
theorem Um:aP ["realm", "row", "man", "heir", "estate"] A4O (aH sDD):=0x0
theorem a0V (T:gq K C) (TK:uE K CK) (TR:iW K CR) (F:fu K "do_death" "do_death" sDD f fd) 
  (G1:aL P w K mg base bO 1 g1 d1 A4Q (Px CK)) (m1:Meth K CK "die" g1) (b1:Binds K d1 A4Q [])
  (G2:aL P w K mg base bO 2 g2 d2 A4Q (yL CK)) (m2:Meth K CK "taker" g2) (b2:Binds K d2 A4Q [])
  (G3:aL P w K mg base bO 1 g3 d3 A4Q (yh C)) (m3:Meth K C "held" g3) (b3:Binds K d3 A4Q [])
  (G4:aL P w K mg base bO 4 g4 d4 A4M (yq C)) (m4:Meth K C "fall_back" g4) (b4:Binds K d4 A4M [])
  (G5:aL P w K mg base bO 4 g5 d5 ["self", "estate", "man"] (pJ C)) (m5:Meth K C "convey" g5) (b5:Binds K d5 ["self", "estate", "man"] []) :
  aL P w K mg base bO 5 f fd A4O (iG CR CK C Kh):=by
 refine F.ok Um 0x1 0x2;obtain ⟨m,q,W,ls,j,r,ro,dy,wd,rfl,R,S,WP,fr,hst,hok,htx,hls,hj,hx,hk,k⟩:=h;have hr1:cH 1 _:=hr.mono 0x6;have hr2:cH 2 _:=hr.mono 0x6;refine ⟨_,au (aY (i:=2) Um.nd rfl 0x8 0x19)
  (au (bV (cj (CX:=bO) (E:=E0) 0xC TK.cl m1 G1 hr1 b1 .nil bC (ak (pv 2) aC)))
  (au (dw (u1 hr) 0xC (pv 2) 0x19 rfl)
  (au (aY (i:=3) Um.nd rfl 0x8 (cj (CX:=bO) (E:=E0) 0xC TK.cl m2 G2 hr2 b2 .nil bC (ak (pv 2) aC)))
  (aG (fM A0N rfl (cX (cj (CX:=bO) (E:=E0) 0xC T.cl m3 G3 hr1 b3 .nil bC (ak (pv 2) aC))) (bf (i:=4) Um.nd rfl 0x8)
   (aG (bK (aQ LC (pv 3) lB (bB _)) (aG (bV (cj (CX:=bO) (E:=E0) 0xC T.cl m4 G4 hr b4 .nil bC (ak (pv 4) aC)))) (aG (bV (cj (CX:=bO) (E:=E0) 0xC T.cl m5 G5 hr b5 .nil bC (ak (pv 4) (ak (pv 3) aC)))))))))))),?_⟩
 cases ro with
 | grant _ _ _ _ _=>cases hk
 | heir _ _=>cases hk
 | liege _ _=>cases hk
 | death a =>
 have dl:=WP.dl;refine ⟨_,rfl,r,_,_,_,rfl,rfl,bZ.of hx,aJ (j:=2) rfl,?_⟩;refine ⟨_,rfl,m.z,CR,m.dz,_,_,rfl,R.o,TR.cl,TR.n2,rfl,m.k,m.dk,_,rfl,R.K.o,rfl,_,rfl,m.k,m.dk,m.hh,m.gg,_,_,a,rfl,R.K,hok,by rw [sE];lia,?_⟩;have eg:putK (Q0 W.dd) (.inr a) (.bl true)=Q0 (W.dd++[(a,dy)]):=su (g:=fun p:Str×Int=>p.1) (f:=fun _=>V.bl true) (a:=(a,dy)) hst;have ed:putK (Q6 W.dd) (.inr a) (.int dy)=Q6 (W.dd++[(a,dy)]):=su (g:=fun p:Str×Int=>p.1) (f:=fun p=>V.int p.2) (a:=(a,dy)) hst;rw [eg];have o1:gH m q H (upd H m.gg (.dK (Q0 (W.dd++[(a,dy)])))):=gH.put S 7 rfl 0x6;have z1:=R.out o1 0x21 R.o;have x1:=R.out o1 0x21 hx;have D1:(upd H m.gg (.dK (Q0 (W.dd++[(a,dy)])))) m.de=some (.dK (Q6 W.dd)):=by rw [aj (bN S 8 7 rfl rfl 0x6)];exact R.D
 refine ⟨_,rfl,r,_,_,_,rfl,rfl,bZ.of x1,aJ (j:=1) rfl,_,rfl,m.z,CR,m.dz,_,_,rfl,z1,TR.cl,TR.n5,rfl,_,rfl,m.de,_,rfl,iK.k (k:=.inr a) D1 (bQ (by rw [sE];lia)),?_⟩;rw [ed];have R2:=R.died (qY:=W.dd++[(a,dy)]) S;have o2:gH m q H _:=o1.trans (gH.put (a:=m.de) (o:=.dK (Q6 (W.dd++[(a,dy)]))) S 8 rfl 0x6);clear z1 x1 D1 eg ed o1;generalize upd (upd H m.gg (.dK (Q0 (W.dd++[(a,dy)])))) m.de (.dK (Q6 (W.dd++[(a,dy)])))=H2 at R2 o2 ⊢;refine ⟨_,rfl,m.z,CR,m.dz,_,_,rfl,R2.o,TR.cl,TR.n2,rfl,m.k,m.dk,_,rfl,R2.K.o,rfl,_,rfl,m.k,m.dk,m.hh,m.gg,_,_,Wk W.hs,(fun z=>decide (z∈W.gone++[a])),a,rfl,R2.K,PB WP.hv,(fun z=>?_),by have:=WP.hl;show W.hs.length<=900;lia,fun t H3 s3 tk=>?_⟩
 ·rw [R2.dead]
  show decide (z∈(W.dd++[(a,dy)]).map _)=_
  rw [iZ];rfl
 have R3:=R2.same s3;have W0:=WP.E.P.W;have ln:=WP.E.P.ln;refine ⟨_,rfl,m.z,CR,m.dz,_,_,rfl,R3.o,TR.cl,TR.n1,rfl,q.x,q.dx,_,rfl,R3.L.o,rfl,_,rfl,q.x,q.dx,q.a1,q.a2,q.a3,q.a4,q.a5,_,_,_,_,_,a,rfl,R3.L,Ol,Wh,by rw [jz];show W.es.length<64;lia,fun D ss H4 s4 pP hD hp hs=>?_⟩
 have hb:uG W.es a ss:=by
  refine ⟨?_,hs⟩;rw [yG] at hp;have ef:(W.es.filter fun e=>decide (V.str e.man=V.str a))=W.es.filter fun y=>decide (y.man=a):=A2f fun y _=>iu;rw [<- ef];exact hp
 have s34:=s3.trans s4;have tr:∀ h,t=some h->PyData.strOk h=true:=fun h e=>Tk.ok (Pr:=fun z=>PyData.strOk z=true) (fun _ _=>n6 WP.hv) tk (fun z e=>n6 WP.hv e) h e;refine ⟨D,rfl,⟨_,bR.of hD⟩,dX (K:=K) (a:=D) (xs:=ss.map V.str) (fun i σ Hx=>∃ (u4:Option V) (e1:List aU),σ=[some (.ref m.z),some (.ref r),some (.str a),some (mZ t),u4]/\Hx D=some (.lst (ss.map V.str))/\cL CR CK C Hx m q ⟨e1,W.ks,W.hs,W.dd++[(a,dy)],W.lg⟩/\Fo t W.es (ss.take i) e1/\(∀ e∈e1,jB Hx e.ta e.due.1 e.due.2)/\gH m q H Hx)
  ⟨none,W.es,rfl,hD,R3.same s4,.nil,fun e he=>s34 _ _ (R.out o2 0x21 (fr e he)),o2.trans (gH.same s34)⟩ (fun i σ Hx _ h=>by obtain ⟨_,_,_,h,_⟩:=h;exact bR.of h) ?_ ?_⟩
 ·rintro i v σ Hx hv ⟨u4,e1,rfl,sG,Rx,fo,fx,ox⟩;rw [jQ] at hv;obtain ⟨n,hn,rfl⟩:=A0t.mp hv;obtain ⟨hne,y,hy,rfl⟩:=Fo.next hb W0.nd WP.E.cr hok fo hn;have PU:=(fo.eo WP.E tr hls).P;have tk':ss.take (i+1)=ss.take i++[y.n]:=by rw [A1a,hn];rfl
  have fin:∀ H',Ln C q H' (stp y e1 0 0 0 0 (uF t y.n))->Ka q Hx H'->∃ (u4:Option V) (e2:List aU),[some (.ref m.z),some (.ref r),some (.str a),some (mZ t),some (V.str y.n)]=[some (V.ref m.z),some (.ref r),some (.str a),some (mZ t),u4]/\H' D=some (.lst (ss.map V.str))/\cL CR CK C H' m q ⟨e2,W.ks,W.hs,W.dd++[(a,dy)],W.lg⟩/\Fo t W.es (ss.take (i+1)) e2/\(∀ e∈e2,jB H' e.ta e.due.1 e.due.2)/\gH m q H H':=fun H' L' o'=>by
   refine ⟨_,_,rfl,o' D _ (aM sG Rx.L.l1 0x5) (aM sG Rx.L.l2 0x5) (aM sG Rx.L.l3 0x5) (aM sG Rx.L.l4 0x5) (aM sG Rx.L.l5 0x5) sG,Rx.YW S o' L',by rw [tk'];exact .snoc fo hy hne,?_,ox.trans (o'.Ez S)⟩;exact pQ (u1:=0) (u2:=0) (·.ta) PU.W.nd (Iw (ks:=W.ks) hy) (fun e he=>Rx.out (o'.Ez S) 0x21 (fx e he)) ZG.die 0x4 0x4 (fun _ _ _ _=>rfl) fun _ _ _ _ _=>by cases t <;> rfl
  refine ⟨_,rfl,rfl,_,rfl,?_⟩;rw [Bw];cases t with
  | none =>
   refine dU ?_;refine ⟨_,rfl,m.z,CR,m.dz,_,_,rfl,Rx.o,TR.cl,TR.n1,rfl,q.x,q.dx,_,rfl,Rx.L.o,rfl,_,rfl,?_⟩;dsimp only [nP,List.cons_append,List.nil_append];refine U9 (E:=E0) PU Rx.L S.a5 fx ⟨hy,rfl⟩ hne hls hj fun t1 t2 H' hL _ o'=>?_;exact fin H' (hL 0 0) o'
  | some h =>
   refine cA ?_;refine ⟨_,rfl,m.z,CR,m.dz,_,_,rfl,Rx.o,TR.cl,TR.n1,rfl,q.x,q.dx,_,rfl,Rx.L.o,rfl,_,rfl,_,rfl,?_⟩;dsimp only [nP,List.cons_append,List.nil_append,mZ];refine Kc (E:=E0) PU Rx.L S.a5 fx ⟨hy,rfl⟩ hne hls hj fun t1 t2 H' hL _ o'=>?_;exact fin H' (hL 0 0) o'
 ·rintro σ Hx ⟨u4,e1,rfl,sG,Rx,fo,fx,ox⟩;rw [cg,A1c] at fo;exact k _ _ (.di hst tk hb fo) Rx fx ox
theorem Fb {α β:Type}{f:α->β}:∀ {l:List α}{a b:α},(l.map f).Nodup->a∈l->b∈l->f a=f b->a=b
 | x::r,a,b,nd,ha,hb,e=>by
  rw [A0m,A0T] at nd;rcases A0d.mp ha with h1 | h1 <;> rcases A0d.mp hb with h2 | h2
  ·rw [h1,h2]
  ·exact absurd (by rw [<- h1,e];exact A0e.mpr ⟨b,h2,rfl⟩) nd.1
  ·exact absurd (by rw [<- h2,<- e];exact A0e.mpr ⟨a,h1,rfl⟩) nd.1
  ·exact Fb nd.2 h1 h2 e
theorem Ws {α:Type}{l:List α}{h:α} (hn:l.Nodup) (hh:h∉l):(l++[h]).Nodup:=by
 rw [A2v];exact ⟨hn,by simp,fun a ha b hb z=>hh (by rw [A0b] at hb;rw [<- hb,<- z];exact ha)⟩
inductive Q9 (C:Addr) (vs:List V) (H:Hp) (Q:VK) (cB:XK):Prop
 | mk (q:Ad) (es:List aU) (m l:Str) (_:vs=[.ref q.x,.str m,.str l]) (_:Ln C q H es) (_:WF es) (_:es.length<64) (_:m≠"") (_:(∀ e∈es,e.n=""->e.man="")) (_:∀ (b:Bool) (H':Hp),Same H H'->(b=true↔Bound es m l)->Q (.bl b) H'):Q9 C vs H Q cB
theorem Wt:aP ["ground", "man", "lord", "estate"] ["ground", "man", "lord"] (aH YM):=0x0
theorem YX (T:gq K C) (F:fu K "is_bound" "is_bound" YM f fd) 
  (G1:aL P w K mg base bO 1 g1 d1 A4Q (yh C)) (m1:Meth K C "held" g1) (b1:Binds K d1 A4Q [])
  (G2:aL P w K mg base bO 3 g2 d2 A4M (ug C)) (m2:Meth K C "holder" g2) (b2:Binds K d2 A4M [])
  (G3:aL P w K mg base bO 3 g3 d3 A4M (Eb C)) (m3:Meth K C "lord" g3) (b3:Binds K d3 A4M []) :
  aL P w K mg base bO 4 f fd ["ground", "man", "lord"] (Q9 C):=by
 refine F.ok Wt 0x1 0x2;obtain ⟨q,es,m,l,rfl,L,W,h64,hm,hcr,k⟩:=h;have hr1:cH 1 _:=hr.mono 0x6;refine ⟨_,au (fM A0N rfl (cX (cj (CX:=bO) (E:=E0) (pv 0) T.cl m1 G1 hr1 b1 .nil bC 0x26)) (bf (i:=3) Wt.nd rfl 0x8)
   (aG (bK (aQ cV (cj (CX:=bO) (E:=E0) (pv 0) T.cl m2 G2 hr b2 .nil bC (ak (cj (CX:=bO) (E:=E0) (pv 0) T.cl m3 G3 hr b3 .nil bC (ak (pv 3) aC)) aC)) (pv 2) (bB _)) (aG (aV nW)) aR)))
  (aG (aV nW)),?_⟩
 refine ⟨_,rfl,q.x,q.dx,_,rfl,L.o,rfl,_,rfl,q.x,q.dx,q.a1,q.a2,q.a3,q.a4,q.a5,_,_,_,_,_,m,rfl,L,Ol,Wh,by rw [jz];exact h64,fun D ss H1 s1 pP hD hp hs=>?_⟩;rw [yG] at hp;have ef:(es.filter fun e=>decide (V.str e.man=V.str m))=es.filter fun y=>decide (y.man=m):=A2f fun y _=>iu;rw [ef] at hp;refine ⟨D,rfl,⟨_,bR.of hD⟩,dX (K:=K) (a:=D) (xs:=ss.map V.str) (fun i σ Hx=>∃ (u3:Option V),σ=[some (.ref q.x),some (.str m),some (.str l),u3]/\Hx=H1/\∀ n∈ss.take i,∀ y∈es,y.n=n->∀ z∈es,y.lord=some z.n->z.man≠l)
  ⟨none,rfl,rfl,fun n hn=>by rw [List.take_zero] at hn;cases hn⟩ (fun i σ Hx _ h=>by obtain ⟨_,_,h,_⟩:=h;rw [h];exact bR.of hD) ?_ ?_⟩
 ·rintro i v σ Hx hv ⟨u3,rfl,rfl,inv⟩;rw [jQ] at hv;obtain ⟨n,hn,rfl⟩:=A0t.mp hv;obtain ⟨y,hy,rfl⟩:=A0e.mp (hp.mem_iff.mp (vm hn));have hy:=A0q.mp hy;have ym:y.man=m:=nU hy.2;have hne:y.n≠"":=fun z=>hm (ym.symm.trans (hcr y hy.1 z));obtain ⟨p,hp1,hp2,_⟩:=W.lord y hy.1 hne;obtain ⟨z,hz,Es⟩:=fP hp2;have L1:=L.same s1;have v1:=eG (f:=fun e=>mY e.lord) W.nd hy.1;rw [hp1] at v1;have v2:=eG (f:=fun e=>V.str e.man) W.nd hz;rw [Es] at v2;have tk':ss.take (i+1)=ss.take i++[y.n]:=by rw [A1a,hn];rfl
  refine ⟨_,rfl,q.x,q.dx,_,rfl,L1.o,rfl,_,rfl,q.x,q.dx,_,rfl,L1.o,rfl,_,rfl,q.x,q.dx,q.a1,q.a2,q.a3,q.a4,q.a5,_,_,_,_,_,y.n,_,rfl,L1,by rw [kJ];exact A0g (A0e.mpr ⟨y,hy.1,rfl⟩),v1,q.x,q.dx,q.a1,q.a2,q.a3,q.a4,q.a5,_,_,_,_,_,p,_,rfl,L1,by rw [kJ];exact A0g hp2,v2,_,rfl,rfl,_,rfl,?_⟩;rw [iu];refine iy 0x35 0x35
  ·have e:=nU c;exact k true _ s1 ⟨fun _=>⟨y,hy.1,ym,hne,z,hz,by rw [hp1,Es],e⟩,fun _=>rfl⟩
  ·have ne:z.man≠l:=fun e=>c (A0g e);refine ⟨_,rfl,rfl,fun n' hn' y' hy' e1 z' hz' e2=>?_⟩;rw [tk'] at hn';rcases A0l.mp hn' with a | a
   ·exact inv n' a y' hy' e1 z' hz' e2
   ·rw [A0b.mp a] at e1;have:=gM W.nd hy' hy.1 e1;subst this;rw [hp1] at e2;injection e2 with e2;have:=gM W.nd hz' hz (e2.symm.trans Es.symm);subst this;exact ne
 ·rintro σ Hx ⟨u3,rfl,rfl,inv⟩;rw [cg,A1c] at inv;refine k false _ s1 ⟨fun e=>(by cases e),fun ⟨y,hy,h1,h2,z,hz,h3,h4⟩=>absurd h4 (inv y.n ?_ y hy rfl z hz h3)⟩;exact hp.mem_iff.mpr (A0e.mpr ⟨y,A0q.mpr ⟨hy,A0g h1⟩,rfl⟩)
theorem Qa:aP ["realm", "row", "man", "lord"] A4O (aH YL):=0x0
inductive sH (CR CK C:Addr) (vs:List V) (H:Hp) (Q:VK) (cB:XK):Prop
 | mk (m:Rm) (q:Ad) (W:M.Wo) (r:Addr) (ls:List Str) (j:Nat) (wd:Int) (ro:M.Ro) (dy:Int) (_:vs=[.ref m.z,.ref r]) (_:cL CR CK C H m q W) (_:Wp W ls j wd) (_:j<=60) (_:H r=some (.tup (Ro.vs dy ro))) (_:Ul ro=true) (_:Ro.Ok ls ro) (_:∀ (w:Str) (H':Hp),Same H H'->Wd2 W dy ro w->Q (.str w) H'):sH CR CK C vs H Q cB
theorem YZ (TK:uE K CK) (T:gq K C) (TR:iW K CR) (F:fu K "word_of_liege" "word_of_liege" YL f fd)  (mS:mg "STANDS"=some (.str "stands" tS)) 
  (G1:aL P w K mg base bO 4 g1 d1 ["ground", "man", "lord"] (Q9 C)) (M1:Ms K mg "is_bound" g1 d1 ["ground", "man", "lord"])
  (G2:aL P w K mg base bO 1 g2 d2 A4Q (qI CK)) (m2:Meth K CK "is_dead" g2) (b2:Binds K d2 A4Q []) :
  aL P w K mg base bO 5 f fd A4O (sH CR CK C):=by
 refine F.ok Qa 0x1 0x2;obtain ⟨m,q,W,r,ls,j,wd,ro,dy,rfl,R,WP,hj,hx,hk,hok,k⟩:=h;have hr1:cH 1 _:=hr.mono 0x6;refine ⟨_,au (tu (eV xW 0x10 (cD aA) fV) (lC rfl (bT (bf (i:=2) Qa.nd rfl 0x8) (bT (bf (i:=3) Qa.nd rfl 0x8) gC))))
  (au (bK (dZ (cj (CX:=bO) (E:=E0) 0xC TK.cl m2 G2 hr1 b2 .nil bC (ak (pv 2) aC))) (aG (aV aK)) aR)
  (au (bK (iT (dZ (bJ G1 hr rfl M1.m M1.k M1.b .nil bC (ak 0xC (ak (pv 2) (ak (pv 3) aC)))))) (aG (aV aK)) aR)
  (aG (aV (cQ rfl mS ⟨_,rfl⟩ (v:=.str "stands")))))),?_⟩
 cases ro with
 | grant _ _ _ _ _=>cases hk
 | heir _ _=>cases hk
 | death _=>cases hk
 | liege a b =>
 refine ⟨_,rfl,_,rfl,r,_,rfl,bZ.of hx,fun p H1 ho=>?_⟩;obtain ⟨hp,s1⟩:=oH ho;refine ⟨p,[.str a,.str b],rfl,hp,rfl,_,_,rfl,_,_,rfl,rfl,?_⟩;have R1:=R.same s1;clear ho hp;refine ⟨_,rfl,m.z,CR,m.dz,_,_,rfl,R1.o,TR.cl,TR.n2,rfl,m.k,m.dk,_,rfl,R1.K.o,rfl,_,rfl,m.k,m.dk,m.hh,m.gg,_,_,_,rfl,R1.K,_,rfl,?_⟩;rw [R1.dead]
 by_cases hd:a∈W.gone
 ·rw [A0g hd];exact dU (k _ _ s1 (.inl ⟨by decide +kernel,.ld hd⟩))
 rw [A0n hd];refine cA ?_;have ln:=WP.E.P.ln;refine ⟨_,rfl,m.z,CR,m.dz,_,_,rfl,R1.o,TR.cl,TR.n1,rfl,_,rfl,_,rfl,q,W.es,a,b,rfl,R1.L,WP.E.P.W,by lia,hok,WP.E.cr,fun v H2 s2 hv=>⟨_,rfl,?_⟩⟩;cases v with
 | false=>exact dU (k _ _ (s1.trans s2) (.inl ⟨by decide +kernel,.lb hd fun c=>by have:=hv.mpr c;cases this⟩))
 | true=>exact cA (k _ _ (s1.trans s2) (.inr ⟨rfl,hd,hv.mp rfl⟩))
theorem a0W:aP A4O A4O (aH YQ):=0x0
theorem a0X (TR:iW K CR) (F:fu K "do_liege" "do_liege" YQ f fd):aL P w K mg base bO 5 f fd A4O (iG CR CK C Ul):=by
 refine F.ok a0W 0x1 0x2;obtain ⟨m,q,W,ls,j,r,ro,dy,wd,rfl,R,S,WP,fr,hst,hok,htx,hls,hj,hx,hk,k⟩:=h;refine ⟨_,aG (bV (iR A0H A0O A0P cT (Bu 0xC 0x19 (cU aC) ⟨rfl,rfl,rfl,rfl⟩)
  (ak (cZ (ak 0x19 (ak 0x19 aC))) aC))),?_⟩
 cases ro with
 | grant _ _ _ _ _=>cases hk
 | heir _ _=>cases hk
 | death _=>cases hk
 | liege a b =>
 obtain ⟨gs,G⟩:=R.G;have gl:=WP.gl;refine ⟨_,rfl,m.z,CR,m.dz,_,_,rfl,R.o,TR.cl,TR.n4,rfl,m.li,rfl,.inl ⟨_,.inl G.d⟩,_,rfl,r,_,_,_,rfl,rfl,bZ.of hx,aJ (j:=2) rfl,small 0xA,fun e he=>?_⟩
 apply 0o1 H e he se e1 H1
 have flt:∀ {n:Str},(W.lg++[(a,dy,b)]).filter (fun e=>decide (e.1=n))=W.lg.filter (fun e=>decide (e.1=n))++if a=n then [(a,dy,b)] else []:=fun {n}=>by
  rw [A1i]
  congr 1
  by_cases c:a=n
  ·rw [A0i c];simp [c]
  ·rw [A0f c];simp [c]
 refine ⟨_,.inr a,se _ _ G.d,rfl,bQ (by rw [sE];have:=G.ln;lia),fun v hv=>?_,fun hn=>?_⟩
 ·obtain ⟨p,hp,hpa,rfl⟩:=Bv hv;obtain ⟨ts,hl,hpr⟩:=G.lt p hp;have hl1:=se _ _ hl;refine ⟨.inl ⟨rfl,_,bR.of hl1⟩,_,rfl,r,_,_,_,rfl,rfl,bZ.of (se _ _ hx),aJ (j:=1) rfl,_,rfl,r,_,_,_,rfl,rfl,bZ.of (se _ _ hx),aJ (j:=3) rfl,small 0xA,fun t ht=>?_⟩
  apply 0o1 H1 t ht st t1 H2
  have s2:=se.trans st;have hl2:=s2 _ _ hl;have tl:ts.length<=W.lg.length:=by rw [A2P hpr];exact A0J _ _
  refine ⟨p.2,_,_,rfl,rfl,hl2,bQ (by rw [cg];lia),?_⟩;have el:ts.map V.ref++[V.ref t]=(ts++[t]).map V.ref:=by rw [iZ];rfl
  rw [el];have tk:∀ {c:Addr}{xs:List V},H c=some 0x2E->(upd H2 p.2 (.lst ((ts++[t]).map V.ref))) c=some 0x2E:=fun h=>by rw [aj (aM (s2 _ _ h) hl2 0x5)];exact s2 _ _ h
  have nd:m.li≠p.2:=aM (s2 _ _ G.d) hl2 0x5;have fx:∀ c u,c≠p.2->c≠m.li->H c=some u->(upd H2 p.2 (.lst ((ts++[t]).map V.ref))) c=some u:=fun c u h1 _ h=>by rw [aj h1];exact s2 _ _ h
  have G':YT (upd H2 p.2 (.lst ((ts++[t]).map V.ref))) m.li (W.lg++[(a,dy,b)]) gs:=by
   refine ⟨by rw [aj nd];exact s2 _ _ G.d,G.nm,G.na,fun p' hp'=>?_,fun e' he'=>?_,by rw [gZ];have:=G.ln;lia⟩
   ·rw [flt]
    by_cases c:p'=p
    ·subst c;rw [A0i hpa.symm];exact ⟨_,ao,A4J (Paired.imp' (fun t e h=>tk h) hpr) (by rw [aj (aM t1 hl2 0x5)];exact t1)⟩
    ·have c1:a≠p'.1:=fun z=>c (Fb G.nm hp' hp (by rw [<- z,hpa]));have c2:p'.2≠p.2:=fun z=>c (Fb G.na hp' hp z);rw [A0f c1,A0K];obtain ⟨ts',h1,h2⟩:=G.lt p' hp';exact ⟨ts',by rw [aj c2];exact s2 _ _ h1,Paired.imp' (fun t e h=>tk h) h2⟩
   ·rcases A0l.mp he' with c | c
    ·exact G.all e' c
    ·rw [A0b.mp c,<- hpa];exact A0e.mpr ⟨p,hp,rfl⟩
  have o2:gH m q H (upd H2 p.2 (.lst ((ts++[t]).map V.ref))):=fun c u hc n e=>by
   obtain ⟨kvs,n1,n2⟩:=n;have ne:c≠p.2:=fun z=>by
    rw [G.d] at n1;injection n1 with n1;injection n1 with n1;refine n2 (.inr p.1) ?_;rw [<- n1,z];exact A0e.mpr ⟨p,hp,rfl⟩
   exact ⟨by rw [aj ne];exact s2 _ _ e,kvs,by rw [aj nd];exact s2 _ _ n1,n2⟩
  exact k _ _ (.lr hst.1 hst.2) (R.liege S (.inr ⟨_,hl⟩) fx ⟨gs,G'⟩) (fun e he=>R.out o2 0x21 (fr e he)) o2
 ·have hna:a∉gs.map (·.1):=fun c=>by
   have:=yO (g:=fun p:Str×Addr=>p.1) (f:=fun p=>V.ref p.2) (n:=a) gs;rw [hn,A0g c] at this;cases this
  have ep:putK (uI (·.1) (fun p:Str×Addr=>V.ref p.2) gs) (.inr a) (.ref e)=uI (·.1) (fun p:Str×Addr=>V.ref p.2) (gs++[(a,e)]):=su (g:=fun p:Str×Addr=>p.1) (f:=fun p=>V.ref p.2) (a:=(a,e)) hna;rw [ep];have nd:e≠m.li:=A0k (aq G.d he);have d1:(upd H1 m.li 0x28) m.li=some 0x28:=ao;have k1:∀ c u,c≠m.li->H1 c=some u->(upd H1 m.li 0x28) c=some u:=fun c u h1 h=>by rw [aj h1];exact h
  generalize upd H1 m.li 0x28=H2 at d1 k1 ⊢;have e2:=k1 _ _ nd e1;have x2:=k1 _ _ (aM hx G.d 0x5) (se _ _ hx);refine ⟨.inl ⟨rfl,_,bR.of e2⟩,_,rfl,r,_,_,_,rfl,rfl,bZ.of x2,aJ (j:=1) rfl,_,rfl,r,_,_,_,rfl,rfl,bZ.of x2,aJ (j:=3) rfl,small 0xA,fun t ht=>?_⟩
  apply 0o1 H2 t ht st t1 H3
  have e3:=st _ _ e2;refine ⟨e,_,_,rfl,rfl,e3,bQ 0x6,?_⟩;have fx:∀ c u,c≠e->c≠m.li->H c=some u->(upd H3 e (.lst ([t].map V.ref))) c=some u:=fun c u h1 h2 h=>by rw [aj h1];exact st _ _ (k1 _ _ h2 (se _ _ h))
  have tk:∀ {c:Addr}{xs:List V},H c=some 0x2E->(upd H3 e (.lst ([t].map V.ref))) c=some 0x2E:=fun h=>fx _ _ (aq h he) (aM h G.d 0x5) h;have d3:(upd H3 e (.lst ([t].map V.ref))) m.li=some 0x28:=by rw [aj (A0k nd)];exact st _ _ d1
  have ge:∀ p∈gs,p.2≠e:=fun p hp z=>by
   obtain ⟨ts,h1,_⟩:=G.lt p hp;rw [z,he] at h1;cases h1
  have G':YT (upd H3 e (.lst ([t].map V.ref))) m.li (W.lg++[(a,dy,b)]) (gs++[(a,e)]):=by
   refine ⟨d3,by rw [iZ];exact Ws G.nm hna,by rw [iZ];exact Ws G.na (fun c=>by obtain ⟨p,hp,z⟩:=A0e.mp c;exact ge p hp z),fun p' hp'=>?_,fun e' he'=>?_,by rw [gZ,gZ];exact A2V G.ln⟩
   ·rw [flt];rcases A0l.mp hp' with c | c
    ·have c1:a≠p'.1:=fun z=>hna (z ▸ A0e.mpr ⟨p',c,rfl⟩);rw [A0f c1,A0K];obtain ⟨ts',h1,h2⟩:=G.lt p' c;exact ⟨ts',fx _ _ (ge p' c) (aM h1 G.d 0x5) h1,Paired.imp' (fun t e h=>tk h) h2⟩
    ·rw [A0b.mp c,A0i rfl];have:W.lg.filter (fun e=>decide (e.1=a))=[]:=A2N.mpr fun x hx z=>hna (by rw [<- nU z];exact G.all x hx);rw [this];exact ⟨[t],ao,.cons (by rw [aj (aM t1 e3 0x5)];exact t1) .nil⟩
   ·rcases A0l.mp he' with c | c
    ·rw [iZ];exact A0U _ (G.all e' c)
    ·rw [A0b.mp c,iZ];exact A0z _ (A0b.mpr rfl)
  have o2:gH m q H (upd H3 e (.lst ([t].map V.ref))):=fun c u hc n hcu=>by
   obtain ⟨kvs,n1,n2⟩:=n;have nm:c≠m.li:=fun z=>hc (by rw [z];simp [jP]);have ne:c≠e:=aq hcu he;refine ⟨fx _ _ ne nm hcu,_,d3,fun k' hk'=>?_⟩;rw [G.d] at n1;injection n1 with n1;injection n1 with n1;unfold uI at hk';rw [iZ] at hk';rcases A0l.mp hk' with c' | c'
   ·exact n2 k' (n1 ▸ c')
   ·have:=A0b.mp c';injection this with _ z;injection z with z;exact ne z
  exact k _ _ (.lr hst.1 hst.2) (R.liege S (.inl he) fx ⟨_,G'⟩) (fun e he=>R.out o2 0x21 (fr e he)) o2
inductive yP (CR CK C:Addr) (vs:List V) (H:Hp) (Q:VK) (cB:XK):Prop
 | mk (m:Rm) (q:Ad) (W:M.Wo) (ls:List Str) (j:Nat) (r:Addr) (ro:M.Ro) (dy wd:Int) (_:vs=[.ref m.z,.ref r]) (_:cL CR CK C H m q W) (_:Sep m q) (_:Wp W ls j wd) (_:(∀ e∈W.es,jB H e.ta e.due.1 e.due.2)) (_:Ro.Ok ls ro) (_:Ro.Tx ro) (_:0x3B) (_:j<=60) (_:H r=some (.tup (Ro.vs dy ro))) (_:∀ w W' H',Jo W dy ro w W'->cL CR CK C H' m q W'->(∀ e∈W'.es,jB H' e.ta e.due.1 e.due.2)->gH m q H H'->Q (.str w) H'):yP CR CK C vs H Q cB
def SPw (CR CK C fN fL fB:Addr) (f:Addr) (sp:Sp):Prop:=(f=fN/\sp=ni CR CK C Ey)\/(f=fL/\sp=ni CR CK C fun ro=>Kg ro||Kh ro)\/(f=fB/\sp=sH CR CK C)
def SPd (CR CK C fG fH fD fB:Addr) (f:Addr) (sp:Sp):Prop:=(f=fG/\sp=iG CR CK C Ey)\/(f=fH/\sp=iG CR CK C Kg)\/(f=fD/\sp=iG CR CK C Kh)\/(f=fB/\sp=iG CR CK C Ul)
theorem Iz {h:Str}{A:Prop} (h1:h=l->A) (h2:h≠l->B):if decide (V.str h=V.str l)=true then A else B:=by
 refine iy (fun c=>h1 ?_) fun c=>h2 fun z=>c (A0g (by rw [z]));have:=nU c;injection this
theorem sI:aP ["realm", "row", "asked", "word", "deed"] A4O (aH uH):=0x0
structure Tabs (K:PySem.W.Frag) (P:Params) (mg:Str->Option Value) (wN wL wB dG dH dD dB:Addr):Prop where
 words:∃ a u1 u2 u4,mg "WORDS"=some (.ref a)/\KD K P a [("heir",.ref wL),("grant",.ref wN),("part",.ref u1),("convey",.ref u2),("liege",.ref wB),("surrender",.ref u4),("death",.ref wL)]
 a0Y:∃ a u1 u2 u4,mg "DEEDS"=some (.ref a)/\KD K P a [("heir",.ref dH),("grant",.ref dG),("part",.ref u1),("convey",.ref u2),("liege",.ref dB),("surrender",.ref u4),("death",.ref dD)]
theorem Qc {f0:Addr} (F:fu K "judge" "judge" uH f0 fd)  (mS:mg "STANDS"=some (.str "stands" tS)) {h1 h2 h3 h4:Addr}{e1 e2 e3 e4:FuncData} (TB:Tabs K w.params mg g1 g2 g3 h1 h2 h3 h4)
  (G1:aL P w K mg base bO 4 g1 d1 A4O (ni CR CK C Ey)) (M1:Ms K mg "word_of_new" g1 d1 A4O)
  (G2:aL P w K mg base bO 4 g2 d2 A4O (ni CR CK C fun ro=>Kg ro||Kh ro)) (M2:Ms K mg "word_of_living" g2 d2 A4O)
  (G3:aL P w K mg base bO 5 g3 d3 A4O (sH CR CK C)) (M3:Ms K mg "word_of_liege" g3 d3 A4O)
  (D1:aL P w K mg base bO 5 h1 e1 A4O (iG CR CK C Ey)) (N1:Ms K mg "do_grant" h1 e1 A4O)
  (D2:aL P w K mg base bO 5 h2 e2 A4O (iG CR CK C Kg)) (N2:Ms K mg "do_heir" h2 e2 A4O)
  (D3:aL P w K mg base bO 5 h3 e3 A4O (iG CR CK C Kh)) (N3:Ms K mg "do_death" h3 e3 A4O)
  (D4:aL P w K mg base bO 5 h4 e4 A4O (iG CR CK C Ul)) (N4:Ms K mg "do_liege" h4 e4 A4O) :
  aL P w K mg base bO 6 f0 fd A4O (yP CR CK C):=by
 obtain ⟨aW,w1,w2,w4,mW,kW⟩:=TB.words;obtain ⟨aD,v1,v2,v4,mD,kD⟩:=TB.a0Y;refine F.ok sI 0x1 0x2;obtain ⟨m,q0,W,ls,j,r,ro,dy,wd,rfl,R,S,WP,fr,hok,htx,hls,hj,hx,k⟩:=h;have Wm:cH 4 _:=hr.mono 0x6;have hS1:∀ f sp,SPw CR CK C g1 g2 g3 f sp->∃ (k:Nat) (fd:FuncData) (ps:List Str),aL P w K mg base bO k f fd ps sp/\cH k (A.deeper (envOfC "judge" (aH uH) s.heap.objs.size f0 cdv))/\PySem.W.keepIn K (.ref f)=true/\L2.Binds K fd ps []:=by
  rintro f sp (⟨rfl,rfl⟩ | ⟨rfl,rfl⟩ | ⟨rfl,rfl⟩)
  ·exact ⟨4,d1,_,G1,Wm,M1.k,M1.b⟩
  ·exact ⟨4,d2,_,G2,Wm,M2.k,M2.b⟩
  ·exact ⟨5,d3,_,G3,hr,M3.k,M3.b⟩
 have hS2:∀ f sp,SPd CR CK C h1 h2 h3 h4 f sp->∃ (k:Nat) (fd:FuncData) (ps:List Str),aL P w K mg base bO k f fd ps sp/\cH k (A.deeper (envOfC "judge" (aH uH) s.heap.objs.size f0 cdv))/\PySem.W.keepIn K (.ref f)=true/\L2.Binds K fd ps []:=by
  rintro f sp (⟨rfl,rfl⟩ | ⟨rfl,rfl⟩ | ⟨rfl,rfl⟩ | ⟨rfl,rfl⟩)
  ·exact ⟨5,e1,_,D1,hr,N1.k,N1.b⟩
  ·exact ⟨5,e2,_,D2,hr,N2.k,N2.b⟩
  ·exact ⟨5,e3,_,D3,hr,N3.k,N3.b⟩
  ·exact ⟨5,e4,_,D4,hr,N4.k,N4.b⟩
 refine ⟨_,au (aY (i:=2) sI.nd rfl 0x8 (aN Ht (cQ rfl mW rfl (v:=.ref aW)) 0x19 0x4))
  (au (aY (i:=3) sI.nd rfl 0x8 (Bs (CX:=bO) (E:=E0) (pv 2) hS1 bC (ak (pv 0) 0x26)))
  (au (bK (aQ cV (pv 3) (cQ rfl mS ⟨_,rfl⟩ (v:=.str "stands")) (bB _))
   (au (aY (i:=4) sI.nd rfl 0x8 (aN Ht (cQ rfl mD rfl (v:=.ref aD)) 0x19 0x4))
   (aG (bV (Bs (CX:=bO) (E:=E0) (pv 4) hS2 bC (ak (pv 0) 0x26))))) aR)
  (aG (aV (pv 3))))),?_⟩
 obtain ⟨key,fw,fe,spw,okd,h0,lw,sw,o1,le,sd,o2⟩:∃ (key:Str) (fw fe:Addr) (spw:Sp) (okd:Ro->Bool),(Ro.vs dy ro)[0]?=some (.str key)/\List.lookup key [(("heir" : Str),V.ref g2),("grant",.ref g1),("part",.ref w1),("convey",.ref w2),("liege",.ref g3),("surrender",.ref w4),("death",.ref g2)]=some (.ref fw)/\SPw CR CK C g1 g2 g3 fw spw/\(∀ (us:List V) (Q:VK) (E:XK),us=[.ref m.z,.ref r]->(∀ (z:Str) (H1:Hp),Same H H1->Wd2 W dy ro z->Q (.str z) H1)->spw us H Q E) /\
   List.lookup key [(("heir" : Str),V.ref h2),("grant",.ref h1),("part",.ref v1),("convey",.ref v2),("liege",.ref h4),("surrender",.ref v4),("death",.ref h3)]=some (.ref fe)/\SPd CR CK C h1 h2 h3 h4 fe (iG CR CK C okd)/\okd ro=true:=by
  have wd1:∀ {ok:Ro->Bool},ok ro=true->∀ (us:List V) (Q:VK) (E:XK),us=[.ref m.z,.ref r]->(∀ (z:Str) (H1:Hp),Same H H1->Wd2 W dy ro z->Q (.str z) H1)->ni CR CK C ok us H Q E:=fun h us Q E e q=>⟨m,q0,W,r,ro,dy,e,R,WP.E.P.W.nd,hx,h,q⟩;cases ro with
  | grant e n mn a s=>exact ⟨_,_,_,_,_,rfl,rfl,.inl ⟨rfl,rfl⟩,wd1 rfl,rfl,.inl ⟨rfl,rfl⟩,rfl⟩
  | heir a b=>exact ⟨_,_,_,_,_,rfl,rfl,.inr (.inl ⟨rfl,rfl⟩),wd1 rfl,rfl,.inr (.inl ⟨rfl,rfl⟩),rfl⟩
  | liege a b=>exact ⟨_,_,_,_,_,rfl,rfl,.inr (.inr ⟨rfl,rfl⟩),(fun us Q E e q=>⟨m,q0,W,r,ls,j,wd,_,dy,e,R,WP,hj,hx,rfl,hok,q⟩),rfl,.inr (.inr (.inr ⟨rfl,rfl⟩)),rfl⟩
  | death a=>exact ⟨_,_,_,_,_,rfl,rfl,.inr (.inl ⟨rfl,rfl⟩),wd1 rfl,rfl,.inr (.inr (.inl ⟨rfl,rfl⟩)),rfl⟩
 refine ⟨_,rfl,r,_,_,_,rfl,rfl,bZ.of hx,aJ (j:=0) h0,aW,_,_,_,rfl,rfl,kW,lw,?_⟩;refine ⟨_,rfl,fw,_,rfl,sw,_,rfl,_,rfl,o1 _ _ _ rfl fun z H1 s1 hw=>?_⟩;have R1:=R.same s1;refine ⟨_,rfl,rfl,_,rfl,Iz (fun e=>?_) (fun ne=>⟨_,rfl,?_⟩)⟩
 rotate_left
 ·rcases hw with ⟨_,hw⟩ | ⟨e,_⟩
  ·exact k _ _ _ hw R1 (fun e he=>s1 _ _ (fr e he)) (gH.same s1)
  ·exact absurd e ne
 subst e;rcases hw with ⟨ne,_⟩ | ⟨_,hst⟩
 ·exact absurd rfl ne
 refine ⟨_,rfl,r,_,_,_,rfl,rfl,bZ.of (s1 _ _ hx),aJ (j:=0) h0,aD,_,_,_,rfl,rfl,kD,le,?_⟩;exact ⟨_,rfl,fe,_,rfl,sd,_,rfl,_,rfl,m,q0,W,ls,j,r,ro,dy,wd,rfl,R1,S,WP,fun e he=>s1 _ _ (fr e he),hst,hok,htx,hls,hj,s1 _ _ hx,o2,fun W' H2 J R2 f2 o=>⟨_,rfl,k _ _ _ J R2 f2 ((gH.same s1).trans o)⟩⟩
inductive Fd (CK:Addr) (vs:List V) (H:Hp) (Q:VK) (cB:XK):Prop
 | mk (k dk:Addr) (_:vs=[.ref k]) (_:H k=some (.ins CK dk [])) (_:∀ hh gg H',(∀ c o,c≠k->H c=some o->H' c=some o)->o9 CK H' k dk hh gg [] []->H hh=none->H gg=none->hh≠gg->Q .non H'):Fd CK vs H Q cB
def BJ (n:Int) (t:Addr):aU:=⟨"",none, "",n,n,(0,1),t,0⟩
def ZL (x dx a1 a2 a3 a4 a5:Addr) (n:Int):Ad:=⟨x,dx,a1,a2,a3,a4,a5,0,0,0,0,0,0,0,0,0,[],n⟩
def W0 (e:aU):Wo:=⟨[e],[],[],[],[]⟩
inductive uK (CR CK C:Addr) (vs:List V) (H:Hp) (Q:VK) (cB:XK):Prop
 | mk (z dz:Addr) (n:Int) (_:vs=[.ref z,.int n]) (_:H z=some (.ins CR dz [])) (_:1<=n) (_:n<=9999) (_:∀ (m:Rm) (q:Ad) (t:Addr) (H':Hp),m.z=z->m.dz=dz->q.wd=n->(∀ c o,c≠z->H c=some o->H' c=some o)->cL CR CK C H' m q (W0 (BJ n t))->Sep m q->(∀ a∈q.x::m.k::jP m q,H a=none)->jB H' t 0 1->Q .non H'):uK CR CK C vs H Q cB
theorem Uo {x:Addr}{o1 o2:HO} (h:(upd (upd H dx o1) x o2) c=none):H c=none:=by
 by_cases h1:c=x
 ·rw [h1,ao] at h;cases h
 by_cases h2:c=dx
 ·rw [aj h1,h2,ao] at h;cases h
 rw [aj h1,aj h2] at h;exact h
theorem back {u:HO} (s:∀ c o,c≠z->H c=some o->H1 c=some o) (hz:H1 z=some u)  (h:H1 c=none):H c=none:=by
 cases hq:H c with
 | none=>rfl
 | some o =>
  by_cases e:c=z
  ·rw [e,hz] at h;cases h
  ·rw [s c o e hq] at h;cases h
theorem Z0:aP ["self"] ["self"] (aH Pq):=0x0
theorem Uq (T:uE K CK) (F:fu K "__init__" "Kin.__init__" Pq f fd):aL P w K mg base bO 1 f fd ["self"] (Fd CK):=by
 refine F.ok Z0 0x1 0x2;obtain ⟨k,dk,rfl,hk,q⟩:=h;refine ⟨_,au (dO (pv 0) je rfl) (aG (dO (pv 0) je rfl)),?_⟩;intro hh e1;have n1:k≠hh:=aq hk e1;refine ⟨_,rfl,k,CK,dk,_,rfl,by rw [aj n1];exact hk,T.cl,T.n1,A0v rfl,?_⟩;generalize hH1:upd _ k _=H1;have x1:H1 k=some (.ins CK dk [("heir_of",.ref hh)]):=by rw [<- hH1,ao];rfl
 have p1:H1 hh=some (.dK []):=by rw [<- hH1,aj (A0k n1),ao]
 have f1:∀ c o,c≠k->H c=some o->H1 c=some o:=fun c o hc ho=>by rw [<- hH1,aj hc,aj (aq ho e1)];exact ho
 have b1:∀ c,H1 c=none->H c=none:=fun c hc=>by
  cases hq:H c with
  | none=>rfl
  | some o =>
   by_cases z:c=k
   ·rw [z,x1] at hc;cases hc
   ·rw [f1 c o z hq] at hc;cases hc
 clear hH1;intro gg e2;have n2:k≠gg:=aq x1 e2;have n3:hh≠gg:=aq p1 e2;refine ⟨_,rfl,k,CK,dk,_,rfl,by rw [aj n2];exact x1,T.cl,T.n2,A0v rfl,?_⟩;refine q hh gg _ (fun c o hc ho=>?_) ⟨by rw [ao];rfl,by rw [aj (A0k n1),aj n3];exact p1,by rw [aj (A0k n2),ao]⟩ e1 (b1 _ e2) n3;rw [aj hc,aj (aq (f1 c o hc ho) e2)];exact f1 c o hc ho
theorem Qd:aP A5d A5d (aH yN):=0x0
theorem Ko (T:gq K C) (TR:iW K CR) (F:fu K "__init__" "Realm.__init__" yN f fd) 
  (G1:aL P w K mg base bO 3 g1 d1 A5d (yw C)) (YH:Mk K C g1) (mL:mg "Land"=some (.ref C)) (b1:Binds K d1 A5d [])
  (G2:aL P w K mg base bO 1 g2 d2 ["self"] (Fd CK)) (MK2:Mk K CK g2) (mK:mg "Kin"=some (.ref CK)) (b2:Binds K d2 ["self"] []) :
  aL P w K mg base bO 5 f fd A5d (uK CR CK C):=by
 refine F.ok Qd 0x1 0x2;obtain ⟨z,dz,n,rfl,hz,n1,n2,q⟩:=h;have Wm:cH 4 _:=hr.mono 0x6;have hr2:cH 2 _:=hr.mono 0x6;refine ⟨_,au (dO (pv 0) (rK (CX:=bO) (E:=E0) YH G1 Wm rfl mL b1 .nil bC 0x26) rfl)
  (au (dO (pv 0) (Mi (CX:=bO) (E:=E0) MK2 G2 hr2 rfl mK b2 .nil bC) rfl)
  (au (dO (pv 0) je rfl) (au (dO (pv 0) je rfl) (aG (dO (pv 0) je rfl))))),?_⟩
 refine ⟨_,rfl,fun x dx hx0 hdx0 hne=>?_⟩;refine ⟨x,dx,n,rfl,ao,n1,n2,fun a1 a2 a3 a4 a5 t H0 kx LA ap e1 e2 e3 e4 e5 et fr=>⟨rfl,?_⟩⟩;have s0:Same H H0:=fun c o hc=>kx c o (aq hc hx0) (by rw [aj (aq hc hx0),aj (aq hc hdx0)];exact hc);have nz:∀ {c:Addr},H c=none->c≠z:=fun h e=>by rw [e,hz] at h;cases h
 replace e1:=Uo e1
 replace e2:=Uo e2
 replace e3:=Uo e3
 replace e4:=Uo e4
 replace e5:=Uo e5
 replace et:=Uo et
 clear kx;refine ⟨_,rfl,z,CR,dz,_,rfl,s0 _ _ hz,TR.cl,TR.n1,A0v rfl,?_⟩;generalize hH1:upd _ z _=H1;have z1:H1 z=some (.ins CR dz [("ground",.ref x)]):=by rw [<- hH1,ao];rfl
 have o1:∀ c o,c≠z->H0 c=some o->H1 c=some o:=fun c o h1 h2=>by rw [<- hH1,aj h1];exact h2
 have L1:cP C H1 x dx a1 a2 a3 a4 a5 _ _ _ _ _:=⟨o1 _ _ (nz hx0) LA.o,o1 _ _ (nz e1) LA.l1,o1 _ _ (nz e2) LA.l2,o1 _ _ (nz e3) LA.l3,o1 _ _ (nz e4) LA.l4,o1 _ _ (nz e5) LA.l5⟩;have t1:jB H1 t 0 1:=o1 _ _ (nz et) fr;have s1:∀ c o,c≠z->H c=some o->H1 c=some o:=fun c o h1 h2=>o1 c o h1 (s0 c o h2);clear hH1 o1 LA fr s0;refine fun k dk hk0 hdk0 hnk=>⟨k,dk,rfl,ao,fun hh gg H2 kx2 KA eh eg nhg=>⟨rfl,?_⟩⟩;have s2:Same H1 H2:=fun c o hc=>kx2 c o (aq hc hk0) (by rw [aj (aq hc hk0),aj (aq hc hdk0)];exact hc)
 replace eh:=Uo eh
 replace eg:=Uo eg
 clear kx2;have nz2:∀ {c:Addr},H1 c=none->c≠z:=fun h e=>by rw [e,z1] at h;cases h
 refine ⟨_,rfl,z,CR,dz,_,rfl,s2 _ _ z1,TR.cl,TR.n2,A0v rfl,?_⟩;generalize Le:upd _ z _=H3;have z3:H3 z=some (.ins CR dz [("ground",.ref x),("kin",.ref k)]):=by rw [<- Le,ao];rfl
 have o3:∀ c o,c≠z->H2 c=some o->H3 c=some o:=fun c o h1 h2=>by rw [<- Le,aj h1];exact h2
 have s3:∀ c o,c≠z->H1 c=some o->H3 c=some o:=fun c o h1 h2=>o3 c o h1 (s2 c o h2);have K3:o9 CK H3 k dk hh gg [] []:=⟨o3 _ _ (nz2 hk0) KA.o,o3 _ _ (nz2 eh) KA.h,o3 _ _ (nz2 eg) KA.g⟩;clear Le o3 KA;intro u eu;have wu:z≠u:=aq z3 eu;refine ⟨_,rfl,z,CR,dz,_,rfl,by rw [aj wu];exact z3,TR.cl,TR.n3,A0v rfl,?_⟩;generalize wC:upd _ z _=H4;have z4:H4 z=some (.ins CR dz [("ground",.ref x),("kin",.ref k),("used",.ref u)]):=by rw [<- wC,ao];rfl
 have s4:∀ c o,c≠z->H3 c=some o->H4 c=some o:=fun c o h1 h2=>by rw [<- wC,aj h1,aj (aq h2 eu)];exact h2
 have u4:H4 u=some (.dK []):=by rw [<- wC,aj (A0k wu),ao]
 clear wC;intro li eli;have wli:z≠li:=aq z4 eli;refine ⟨_,rfl,z,CR,dz,_,rfl,by rw [aj wli];exact z4,TR.cl,TR.n4,A0v rfl,?_⟩;generalize TQ:upd _ z _=H5;have z5:H5 z=some (.ins CR dz [("ground",.ref x),("kin",.ref k),("used",.ref u),("lieges",.ref li)]):=by rw [<- TQ,ao];rfl
 have s5:∀ c o,c≠z->H4 c=some o->H5 c=some o:=fun c o h1 h2=>by rw [<- TQ,aj h1,aj (aq h2 eli)];exact h2
 have g5:H5 li=some (.dK []):=by rw [<- TQ,aj (A0k wli),ao]
 clear TQ;intro de ZM;have wde:z≠de:=aq z5 ZM;refine ⟨_,rfl,z,CR,dz,_,rfl,by rw [aj wde];exact z5,TR.cl,TR.n5,A0v rfl,?_⟩;generalize Ur:upd _ z _=H6;have z6:H6 z=some (.ins CR dz [("ground",.ref x),("kin",.ref k),("used",.ref u),("lieges",.ref li),("deaths",.ref de)]):=by rw [<- Ur,ao];rfl
 have d6:H6 de=some (.dK []):=by rw [<- Ur,aj (A0k wde),ao]
 have s6:∀ c o,c≠z->H5 c=some o->H6 c=some o:=fun c o h1 h2=>by rw [<- Ur,aj h1,aj (aq h2 ZM)];exact h2
 clear Ur;have Wu:∀ c o,c≠z->H1 c=some o->H6 c=some o:=fun c o h1 h2=>s6 c o h1 (s5 c o h1 (s4 c o h1 (s3 c o h1 h2)));have s36:∀ c o,c≠z->H3 c=some o->H6 c=some o:=fun c o h1 h2=>s6 c o h1 (s5 c o h1 (s4 c o h1 h2));have s35:∀ c o,c≠z->H3 c=some o->H5 c=some o:=fun c o h1 h2=>s5 c o h1 (s4 c o h1 h2);have c1:=s3 _ _ (nz e1) L1.l1;have c2:=s3 _ _ (nz e2) L1.l2;have c3:=s3 _ _ (nz e3) L1.l3;have c4:=s3 _ _ (nz e4) L1.l4;have c5:=s3 _ _ (nz e5) L1.l5;have nh:=nz2 eh;have ng:=nz2 eg;have lu:=fun {c:Addr}{o:HO} (h:H3 c=some o)=>aq h eu;have ld:=fun {c:Addr}{o:HO} (hz:c≠z) (h:H3 c=some o)=>aq (s35 c o hz h) ZM;have lg:=fun {c:Addr}{o:HO} (hz:c≠z) (h:H3 c=some o)=>aq (s4 c o hz h) eli;have l1:=fun {c d:Addr}{o:HO} (h1:H1 d=none) (h2:H1 c=some o)=>aq h2 h1;refine q ⟨z,dz,k,dk,hh,gg,u,li,de⟩ (ZL x dx a1 a2 a3 a4 a5 n) t H6 rfl rfl rfl (fun c o h1 h2=>Wu c o h1 (s1 c o h1 h2)) ⟨z6,⟨s36 _ _ (nz2 hk0) K3.o,s36 _ _ nh K3.h,s36 _ _ ng K3.g⟩,s6 _ _ (A0k wu) (s5 _ _ (A0k wu) u4),d6,⟨[],s6 _ _ (A0k wli) g5,.nil,.nil,(fun p hp=>nomatch hp),(fun e he=>nomatch he),A0h _⟩,
  ⟨Wu _ _ (nz hx0) L1.o,Wu _ _ (nz e1) L1.l1,Wu _ _ (nz e2) L1.l2,Wu _ _ (nz e3) L1.l3,Wu _ _ (nz e4) L1.l4,Wu _ _ (nz e5) L1.l5⟩⟩ ?_ ?_ (Wu _ _ (nz et) t1)
 ·show [a1,a2,a3,a4,a5,u,hh,gg,de,li].Nodup
  simp only [A0T,A0d,A0w,A1k,A4v,A4b,and_true,A4h];exact ⟨⟨ap.n12,ap.n13,ap.n14,ap.n15,lu c1,l1 eh L1.l1,l1 eg L1.l1,ld (nz e1) c1,lg (nz e1) c1⟩,⟨ap.n23,ap.n24,ap.n25,lu c2,l1 eh L1.l2,l1 eg L1.l2,ld (nz e2) c2,lg (nz e2) c2⟩,⟨ap.n34,ap.n35,lu c3,l1 eh L1.l3,l1 eg L1.l3,ld (nz e3) c3,lg (nz e3) c3⟩,⟨ap.n45,lu c4,l1 eh L1.l4,l1 eg L1.l4,ld (nz e4) c4,lg (nz e4) c4⟩,⟨lu c5,l1 eh L1.l5,l1 eg L1.l5,ld (nz e5) c5,lg (nz e5) c5⟩,⟨A0k (lu K3.h),A0k (lu K3.g),aq (s5 _ _ (A0k wu) u4) ZM,aq u4 eli⟩,⟨nhg,ld nh K3.h,lg nh K3.h⟩,⟨ld ng K3.g,lg ng K3.g⟩,A0k (aq g5 ZM)⟩
 ·intro a ha;simp only [jP,ZL,A0d,A0w,A1k] at ha;have b1:=fun {c:Addr} (h:H1 c=none)=>back s1 z1 h;have b3:=fun {c:Addr} (h:H3 c=none)=>b1 (back s3 z3 h);have b5:=fun {c:Addr} (h:H5 c=none)=>b3 (back s35 z5 h);rcases ha with h | h | h | h | h | h | h | h | h | h | h | h <;> rw [h]
  ·exact hx0
  ·exact b1 hk0
  ·exact e1
  ·exact e2
  ·exact e3
  ·exact e4
  ·exact e5
  ·exact b3 eu
  ·exact b1 eh
  ·exact b1 eg
  ·exact b5 ZM
  ·exact b3 (back s4 z4 eli)
end
end M
namespace L2
open PySem
open AutoSeq1 (wpAny_loadPart')
open PySem.Spec PyProof.Rows PySem.W
section
variable {M:Model}
end
def gR:V->Bool
 | .int _=>true
 | .str x=>PyData.strOk x
 | _=>false
def fU:V->PyData
 | .int i=>.int i
 | .str x=>.str x
 | _=>.none
theorem jg:∀ xs:List V,xs.all gR=true->dg H xs (xs.map fU)
 | [],_=>.nil
 | x::xs,h=>by
  rw [A2k,A1b] at h;refine .cons ?_ (jg xs h.2);cases x with
  | int i=>exact .int i
  | str z=>exact .str z
  | _=>cases h.1
theorem Qe {a b:V} (ha:gR a=true) (hb:gR b=true):PyData.eqv (fU a) (fU b)=decide (a=b):=by
 cases a with
 | int i =>
  cases b with
  | int j =>
   show (i==j)=decide (V.int i=V.int j)
   rw [A1g];simp
  | str z=>exact (A0n (show ¬ V.int i=V.str z from fun e=>by cases e)).symm
  | _=>cases hb
 | str x =>
  cases b with
  | int j=>exact (A0n (show ¬ V.str x=V.int j from fun e=>by cases e)).symm
  | str z =>
   show (x==z)=decide (V.str x=V.str z)
   rw [A1g];simp
  | _=>cases hb
 | _=>cases ha
theorem jH:∀ xs ys:List V,xs.all gR=true->ys.all gR=true->PyData.eqvAll (xs.map fU) (ys.map fU)=decide (xs=ys)
 | [],[],_,_=>rfl
 | [],_::_,_,_=>(A0n (fun e=>by cases e)).symm
 | _::_,[],_,_=>(A0n (fun e=>by cases e)).symm
 | x::xs,y::ys,hx,hy=>by
  rw [A2k,A1b] at hx hy
  show (PyData.eqv (fU x) (fU y)&&PyData.eqvAll (xs.map fU) (ys.map fU))=_
  rw [Qe hx.1 hy.1,jH xs ys hx.2 hy.2,A1g];simp
theorem iH:∀ xs:List V,xs.all gR=true->PyData.canLayAll0 (xs.map fU)=true
 | [],_=>rfl
 | x::xs,h=>by
  rw [A2k,A1b] at h;rw [A0m,PyData.canLayAll0,iH xs h.2];cases x with
  | int i=>rfl
  | str z =>
   show (PyData.strOk z&&true)=true
   rw [show PyData.strOk z=true from h.1];rfl
  | _=>cases h.1
theorem kY:∀ xs:List V,PyData.depthAll (xs.map fU)<=1
 | []=>by decide
 | x::xs=>by
  rw [A0m,PyData.depthAll];have:=kY xs;have e:PyData.depth (fU x)<=1:=by cases x <;> exact A1d rfl
  lia
def iI (H:Hp):List Addr->List (List V)->Prop:=Paired fun a r=>H a=some (.tup r)
theorem yQ:∀ {as:List Addr}{us:List Value},Vals (as.map V.ref) us->us=as.map Value.ref
 | [],_,r=>by cases r;rfl
 | a::as,_,r=>by
  rw [A0m] at r;cases r with
  | cons r1 r2=>cases r1;rw [yQ r2];rfl
theorem any_rows {r:List V}:∀ {as:List Addr}{rows:List (List V)},iI H as rows->(as.map Value.ref).any (fun u=>match u with | .ref a=>(match H a with | some (.tup q)=>decide (q=r) | _=>false) | _=>false)=rows.any fun q=>decide (q=r)
 | _,_,.nil=>rfl
 | a::as,q::rows,.cons h t=>by
  rw [A0m,A2l,A2l,any_rows t]
  show ((match H a with | some (.tup q)=>decide (q=r) | _=>false)||_)=_
  rw [h]
theorem uL:∀ {as:List Addr}{rows:List (List V)},iI H as rows->∀ a∈as,∃ q∈rows,H a=some (.tup q)
 | _,_,.nil,a,h=>nomatch h
 | _::_,q::_,.cons h t,a,ha=>by
  rcases A0d.mp ha with rfl | ha
  ·exact ⟨q,A0o,h⟩
  ·obtain ⟨q',m,e⟩:=uL t a ha;exact ⟨q',jT _ m,e⟩
theorem IK {M:Model}{body:Value->PUnit->Sem (ForInStep PUnit)} (J:List Value->Shared->Prop) (hb:∀ x r s,J (x::r) s->wpAny M A (body x ⟨⟩) (fun q s'=>q=.yield ⟨⟩/\J r s') E s) :
  ∀ (r:List Value) (s:Shared),J r s->wpAny M A (forIn r PUnit.unit body) (fun _ s'=>J [] s') E s
 | [],s,h=>by rw [List.forIn_nil];exact A0s h
 | x::r,s,h=>by
  rw [A3H];refine A0a (A1p (hb x r s h) (fun q s' hq=>?_) fun _ _ x=>x);obtain ⟨rfl,h2⟩:=hq
  show wpAny M A (forIn r PUnit.unit body) _ E s'
  exact IK J hb r s' h2
def oK (H:Hp) (kd:Addr->List V) (ks ps:List Addr):Prop:=ks.length=ps.length/\∀ (i:Nat) (q p:Addr),ks[i]?=some q->ps[i]?=some p->H q=some (.tup (kd p))
theorem oK.snoc {kd:Addr->List V}{ks ps:List Addr}{q p:Addr} (h:oK H kd ks ps) (s:Same H H') (hq:H' q=some (.tup (kd p))):oK H' kd (ks++[q]) (ps++[p]):=by
 refine ⟨by rw [gZ,gZ,h.1];rfl,fun i a b ha hb=>?_⟩
 by_cases hi:i<ks.length
 ·rw [A1l hi] at ha;rw [A1l (by rw [<- h.1];exact hi)] at hb;exact s _ _ (h.2 i a b ha hb)
 ·have hl:i<(ks++[q]).length:=(A0j.mp ha).1;have e:i=ks.length:=by rw [gZ,A0r] at hl;lia
  subst e;rw [A0W (A0h _),A2W] at ha;rw [h.1,A0W (A0h _),A2W] at hb;have ea:q=a:=by simpa using ha
  have eb:p=b:=by simpa using hb
  subst ea eb;exact hq
theorem Us {k:Nat}{vs:List V}{Q:VK}{E:XK} (F:aL X.prog X.w X.K X.mg X.base bO k f fd ps sp) (hr:cH (k+2) X.A) (hb:Binds X.K fd ps []) (I:Inv X pins σ H s) (r:Vals vs us) (h:sp vs H Q E) :
  wpAny 0x9 X.A.in1.in1 (call (.ref f) us) (EP X pins σ Q) (fun _ _=>False) s:=by
 have r2:Vals vs (us++[]):=by rw [A0K];exact r
 have hl:(us++[]).length=ps.length:=by rw [<- r2.length];exact F.len _ _ _ _ h
 have hr2:cH k X.A.in1.in1:=cH.in1 (cH.in1 hr);refine wpAny_call (A3Q (F.run X.A.in1.in1 X.stack s H ⟨us,[]⟩ (us++[]) vs Q E hr2 I.env0.in1.in1 (hb s us I.nO hl) r2 h) fun r s' hq=>?_);cases r with
 | error e=>exact hq.elim
 | ok fl =>
  cases fl with
  | ret u=>exact I.after hq
  | next=>exact False.elim hq
  | brk=>exact False.elim hq
  | cont=>exact False.elim hq
theorem qJ (as:List Addr) (i:Nat) (hi:i<as.length):(as.map Value.ref).getD i Value.none=Value.ref as[i]:=by
 rw [qQ,jQ,jR hi];rfl
theorem Fe {k:Nat}{n0:Nat}{all:List Addr}{kd:Addr->List V}{lt:Nat->Nat->Bool}{κ:SortKind}{P:PySem.Fin->Shared->Prop}
  (F:aL X.prog X.w X.K X.mg X.base bO k f fd ps sp) (hr:cH (k+2) X.A) (hb:Binds X.K fd ps []) (I:Inv X pins σ H s) (fa:jm X pins H a) (ho:s.heap.get? a=some (seqObj "list" (0x2A).toArray n0)) (h64:all.length<64) (O:Ord all.length lt)
  (hcall:∀ p∈all,∀ H',Same H H'->∀ Q:VK,(∀ q Lf,Same H' Lf->Lf q=some (.tup (kd p))->Q (.ref q) Lf)->sp [.ref p] H' Q (fun _ _ _=>False))
  (hk:2<=all.length->∀ ks H' (s':Shared) (Q:SortKind->Shared->Prop),nM X.prog X.w H' s'.heap->Same H H'->oK H' kd ks all->Q κ s'->wpAny 0x9 X.A.in1.in1 (keyKind' (ks.map Value.ref).toArray) Q (fun _ _=>False) s')
  (hl:∀ ks H' (s':Shared) (i j:Nat) (C:Bool->Shared->Prop),Inv X pins σ H' s'->Same H H'->oK H' kd ks all->i<all.length->j<all.length->i≠j->(∀ tk,C (lt i j) { s' with toks:=tk }) ->
   wpAny 0x9 X.A.in1.in1 (keyLt' κ ((ks.map Value.ref).getD i Value.none) ((ks.map Value.ref).getD j Value.none)) C (fun _ _=>False) s')
  (h:∀ (p:Array Nat) (s':Shared) (H':Hp) (e:Nat),Pm all.length p->Up lt p all.length->Inv X pins σ H' s'->jm X pins H' a->Same H H'->s'.heap.get? a=some (seqObj "list" (p.toList.map fun i=>(all.map Value.ref).getD i Value.none).toArray e)->P (.done (.ret .none)) s') :
  wpAny 0x9 X.A.in1.in1 (ksk_tree a (.ref f) false) P E s:=by
 have ha:a<s.heap.objs.size:=A0I ho;have zl:(0x2A).toArray.size=all.length:=by simp
 obtain ⟨e1,ho1⟩:∃ e1,(s.heap.update a (Obj.mapSeq fun _=>(#[]:Array Value))).get? a=some (seqObj "list" #[] e1):=⟨_,A4z ho fun _=>#[]⟩;have hkS:((s.heap.update a (Obj.mapSeq fun _=>(#[]:Array Value))).push (seqObj "tuple" (0x2A).toArray 0)).objs.size=s.heap.objs.size+1:=by rw [size_push',Heap.size_update]
 unfold ksk_tree;refine A0a (listItems_at ho rfl ?_);refine A0a (A4m ho rfl ?_ (by rw [zl,A1G];lia) (A1f _));refine A0a (seqEpoch_at ho1 rfl ?_);refine A0a (wpAny_newTuple ?_ (by show (0x2A).length<=_;rw [cg,A1G];lia))
 refine A0a (wpAny_newList ?_ (A1f _));refine A2Z ?_;generalize hs1:(({ s with heap:=((s.heap.update a (Obj.mapSeq fun _=>(#[]:Array Value))).push (seqObj "tuple" (0x2A).toArray 0)).push (seqObj "list" #[] 0) }:Shared))=s1;have I1:Inv X pins σ H s1:=by
  rw [<- hs1];refine I.rN (fp:=[a]) (t':=s.toks) (fun b hb'=>by rw [A0b.mp hb'];exact fa) fun b o hb' q=>?_;have hne:b≠a:=fun z=>hb' (by simp [z]);exact A0c _ (A0c _ ((A1V _ _ _ _ hne).trans q))
 have a1:s1.heap.get? a=some (seqObj "list" #[] e1):=by rw [<- hs1];exact A0c _ (A0c _ ho1)
 have k1:s1.heap.get? 0x11=some (seqObj "list" #[] 0):=by rw [<- hs1,<- hkS];exact A0y _ rfl
 have fk:jm X pins H 0x11:=I.xG (A2t _) (I.hok.fresh (A2t _));have nak:a≠s.heap.objs.size+1:=A0S (A4e ha);rw [hkS];generalize s.heap.objs.size+1=kS at k1 fk nak ⊢;clear hs1 ho1 hkS ha ho I;unfold ksk_rest;refine A0a (A4u ?_);rw [List.forIn_toArray];refine A0a (A1p (IK (fun r s'=>∃ (done rest ks:List Addr) (H':Hp) (e:Nat),done++rest=all/\r=rest.map Value.ref/\Inv X pins σ H' s'/\Same H H'/\oK H' kd ks done/\(∀ b∈[a,kS],jm X pins H' b) /\
   s'.heap.get? a=some (seqObj "list" #[] e1)/\s'.heap.get? kS=some (seqObj "list" (ks.map Value.ref).toArray e)) ?_ 0x2A s1 ⟨[],all,[],H,0,rfl,rfl,I1,Same.refl _,⟨rfl,fun i q p z=>by simp at z⟩,fun b hb'=>?_,a1,k1⟩) (fun _ s' hJ=>?_) fun _ _ x=>x)
 ·rintro x r s' ⟨done,rest,ks,H',e,hd,hx,I',sm,KA,hf,ga,gk⟩;cases rest with
  | nil=>simp at hx
  | cons p rest' =>
   rw [A0m] at hx;obtain ⟨rfl,rfl⟩:=List.cons.inj hx;have hp:p∈all:=by rw [<- hd];simp
   have hkl:ks.length<64:=by
    have h1:(done++p::rest').length=all.length:=by rw [hd]
    rw [gZ,vI] at h1;rw [KA.1];lia
   have I2:=I'.pinned hf fun b hb'=>by
    simp only [A0d,A0w,A1k] at hb';rcases hb' with rfl | rfl
    ·exact ⟨_,ga,fun v z=>by cases z⟩
    ·exact ⟨_,gk,fun v z=>by cases z⟩
   refine A0a (A4l (A1p (Us F hr hb I2 (us:=[.ref p]) (vs:=[.ref p]) (.cons rfl .nil) (hcall p hp H' sm (fun v Lf=>∃ q,v=.ref q/\Same H' Lf/\Lf q=some (.tup (kd p))) fun q Lf s2 hq=>⟨q,rfl,s2,hq⟩)) (fun kv s'' hk'=>?_) fun _ _ hF=>hF.elim));obtain ⟨v,Lf,I3,rv,q,rfl,s2,hq⟩:=hk';cases rv;have pa:=I3.pin (a,_) (A0z _ (A0z _ (iU 0xA ga)));have pk:=I3.pin (kS,_) (A0z _ (A0z _ (iU 0xA gk)));have hf'':∀ b∈[a,kS],jm X pins Lf b:=fun b hb'=>by
    obtain ⟨_,f2,f3,f4,f5,f6⟩:=hf b hb';simp only [A0d,A0w,A1k] at hb';rcases hb' with rfl | rfl
    ·exact ⟨pa.2.1,f2,f3,f4,f5,f6⟩
    ·exact ⟨pk.2.1,f2,f3,f4,f5,f6⟩
   have ea:(ks.map Value.ref).toArray.push (.ref q)=((ks++[q]).map Value.ref).toArray:=by simp
   obtain ⟨c2,hc2⟩:∃ c2,(s''.heap.update kS (Obj.mapSeq (·.push (.ref q)))).get? kS=some (seqObj "list" ((ks++[q]).map Value.ref).toArray c2):=⟨_,by rw [<- ea];exact A4z pk.1 (·.push (.ref q))⟩;dsimp only;refine A0a (A4m pk.1 rfl ?_ (by simp;rw [A1G];lia) (by simp;rw [A1G];lia));refine A0s ⟨rfl,done++[p],rest',ks++[q],Lf,c2,by rw [A1M];exact hd,rfl,?_,sm.trans s2,KA.snoc s2 hq,hf'',?_,hc2⟩
   ·exact I3.mj.rN (t':=s''.toks) hf'' fun b o hb' g=>by
     rw [A1V _ _ _ _ (fun z=>hb' (by simp [z]))];exact g
   ·show (s''.heap.update kS _).get? a=_
    rw [A1V _ _ _ _ nak];exact pa.1
 ·simp only [A0d,A0w,A1k] at hb';rcases hb' with rfl | rfl
  ·exact fa
  ·exact fk
 obtain ⟨done,rest,ks,H',e,hd,hx,I',sm,KA,hf,ga,gk⟩:=hJ;obtain rfl:rest=[]:=by cases rest with
  | nil=>rfl
  | cons _ _=>simp at hx
 rw [A0K] at hd;subst hd;refine A0a (listItems_at gk rfl ?_);have tail:∀ (st:SortSt) (p:Array Nat) (tk:Nat),Pm done.length p->Up lt p done.length->(arrOf st).map (·.2)=(p.toList.map fun i=>(done.map Value.ref).getD i Value.none).toArray->failedOf st=none ->
   wpAny 0x9 X.A.in1.in1 (ksk_tail a false e1 (.ref kS) st) P E { s' with toks:=tk }:=fun st p tk hP hU hout hfl=>by
  have lp:p.toList.length=done.length:=by rw [A1w];exact hP.size
  have ga2:(s'.heap.update kS (Obj.mapSeq fun _=>(#[]:Array Value))).get? a=some (seqObj "list" #[] e1):=by rw [A1V _ _ _ _ nak];exact ga
  obtain ⟨c3,hc3⟩:∃ c3,((s'.heap.update kS (Obj.mapSeq fun _=>(#[]:Array Value))).update a (Obj.mapSeq fun _=>(p.toList.map fun i=>(done.map Value.ref).getD i Value.none).toArray)).get? a=some (seqObj "list" (p.toList.map fun i=>(done.map Value.ref).getD i Value.none).toArray c3):=⟨_,A4z ga2 fun _=>_⟩;unfold ksk_tail;dsimp only;simp only [A1Z,A2R];rw [hout];refine A0a (A4m gk rfl ?_ (by simp;rw [KA.1,A1G];lia) (A1f _));refine A0a (A4I ?_);refine A0a (seqEpoch_at ga2 rfl ?_);refine A0a (A4m ga2 rfl ?_ (A1f _) (by rw [A0u,cg,lp,A1G];lia));rw [hfl];simp only [bne_self_eq_false,A1Z,A2R];refine A0s (h p _ H' c3 hP hU ?_ (hf a 0xA) sm hc3);exact I'.rN (t':=tk) hf fun b o hb' g=>by
   have n1:b≠a:=fun z=>hb' (by simp [z]);have n2:b≠kS:=fun z=>hb' (by simp [z]);rw [A1V _ _ _ _ n1,A1V _ _ _ _ n2];exact g
 have lk:(ks.map Value.ref).length=(done.map Value.ref).length:=by rw [cg,cg,KA.1]
 unfold ksk_end;dsimp only;simp only [A1Z,A2R]
 by_cases h2:(done.map Value.ref).toArray.size<2
 ·rw [A0i h2,A0i h2];refine A0a (A0s ?_);rw [StateT.run_pure];refine A0a (A0s ?_);dsimp only;refine tail _ (List.range done.length).toArray s'.toks (Array.Perm.refl _) (fun i j hij hj=>by rw [zl] at h2;lia) ?_ rfl;have eo:(arrOf (SortSt.mk' general' ((ks.map Value.ref).toArray.zip (done.map Value.ref).toArray) #[] 7 none)).map (·.2)=(done.map Value.ref).toArray :=
   Array.map_snd_zip (as:=(ks.map Value.ref).toArray) (bs:=(done.map Value.ref).toArray) (by simp;exact Nat.le_of_eq KA.1.symm)
  rw [eo];have ro:=K5 (done.map Value.ref);rw [cg] at ro;rw [ro]
 ·rw [A0f h2,A0f h2];have h2':2<=done.length:=by rw [zl] at h2;lia
  refine A0a (A1p (hk h2' ks H' s' (fun κ' s2=>κ'=κ/\s2=s') I'.hok sm KA ⟨rfl,rfl⟩) (fun κ' s2 hκ=>?_) fun _ _ x=>x.elim);obtain ⟨rfl,rfl⟩:=hκ;refine A0a (A1p (kat_run (κ:=κ') (ks:=ks.map Value.ref) (vs:=done.map Value.ref) (Q:=fun st' s3=>∃ (p:Array Nat) (tk:Nat),Pm done.length p/\Up lt p done.length/\arrOf st'=p.map (kas_item ((ks.map Value.ref).toArray.zip (done.map Value.ref).toArray))/\failedOf st'=none/\s3={ s2 with toks:=tk })
   (G:=fun p s3=>∃ tk:Nat,Pm done.length p/\Up lt p done.length/\s3={ s2 with toks:=tk })
   lk (by rw [cg];exact h2') (by rw [cg];exact h64) (fun p st' s3 _ b2 b3 ⟨tk,c1,c2,c3⟩=>⟨p,tk,c1,c2,b2,b3,c3⟩) ?_) ?_ fun _ _ e=>e)
  ·rw [cg];refine U0 (J:=fun s3=>∃ tk:Nat,s3={ s2 with toks:=tk }) O (fun i j C s3 hi hj hij hJ hC=>?_) h2' ⟨s2.toks,rfl⟩ fun p' s3 hP hU ⟨tk,e⟩=>⟨tk,hP,hU,e⟩;obtain ⟨tk,rfl⟩:=hJ;exact hl ks H' _ i j C (I'.tok tk) sm KA hi hj hij fun tk'=>hC _ ⟨tk',rfl⟩
  ·rintro ⟨⟨⟩,st'⟩ s3 ⟨p,tk,hP,hU,har,hfl,rfl⟩;dsimp only;exact tail st' p tk hP hU (kat_snds lk har) hfl
end L2
namespace PySem.SeqAt
open PySem PySem.MeetsSeq PySem.Calls PyProof.Rows
theorem Fg (l b:Addr) (items items2:Array Value) (n n2:Nat) (dd dd2:Option Addr) (sl sl2:Array (Option Value)) (e:Nat->Bool) (r:Bool) (j:Nat) (g1:j<items.size) (g2:j<items2.size) (hit:e j=false) (pre:∀ i,i<j->e i=true) :
  Meets (Builtin.«tuple.__lt__» ⟨[.ref l,.ref b],[]⟩)
   (fun A R s=>s.heap.get? l=some { cls:=.type "tuple",dict:=dd,data:=.seq items n,slots:=sl }/\s.heap.get? b=some { cls:=.type "tuple",dict:=dd2,data:=.seq items2 n2,slots:=sl2 } /\
    (∀ j (h1:j<items.size) (h2:j<items2.size),EqAt A.in1 s items[j] items2[j] (e j))/\(∀ (prog:Program) (w:World) (E:Value->Shared->Prop) (Q:Value->Shared->Prop),Q (.bool r) s->wpAny 0x14 A.in1 (richCompare .Lt items[j] items2[j]) Q E s) /\
    R (.ok (.ret (.bool r))) s) :=
 .of_wp fun prog w A R s h=>by
  obtain ⟨hp,g,d,tk,os⟩:=s;obtain ⟨hl,hb,he,hc,h⟩:=h;have f2:=AutoSeq1.sub_tuple_tuple;have hZ:(items.toList.zip items2.toList).length=min items.size items2.size:=by simp
  wp_walk using A3G hl,A3G hb,wpAny_forIn_list _ (fun rest b s'=>b.1=none/\s'=⟨hp,g,d,tk,os⟩/\∃ i,i<=j/\rest=(items.toList.zip items2.toList).drop i) _
  case turn =>
   rintro ⟨y,x⟩ rest b s' ⟨hb',rfl,i,hij,hz⟩;have hlt:i<(items.toList.zip items2.toList).length:=by
    rcases Nat.lt_or_ge i (items.toList.zip items2.toList).length with h' | h'
    ·exact h'
    ·rw [List.drop_of_length_le h'] at hz;cases hz
   have hm:i<min items.size items2.size:=hZ ▸ hlt;have h1:i<items.size:=A0x hm (Nat.min_le_left _ _);have h2:i<items2.size:=A0x hm (Nat.min_le_right _ _);rw [List.drop_eq_getElem_cons hlt] at hz;injection hz with hyx hrest;have hy:y=items[i]:=by have:=A1R Prod.fst hyx;simpa using this
   have hx:x=items2[i]:=by have:=A1R Prod.snd hyx;simpa using this
   subst hy hx;refine A0a (he i h1 h2 prog w _ _ ?_)
   by_cases hi:i=j
   ·subst hi;rw [hit]
    wp_walk using hc prog w
    exact ⟨_,rfl,h⟩
   ·rw [pre i 0x3]
    wp_walk
    exact ⟨rfl,rfl,i+1,by lia,hrest⟩
  case fin =>
   rintro ⟨b1,b2⟩ s' ⟨hb',rfl,i,hij,hz⟩
   exfalso
   rcases Nat.lt_or_ge i (items.toList.zip items2.toList).length with h' | h'
   ·rw [List.drop_eq_getElem_cons h'] at hz;cases hz
   ·rw [hZ] at h';lia
  case h =>
   exact ⟨rfl,rfl,0,A1f _,rfl⟩
end PySem.SeqAt
namespace L2
open PySem PySem.Spec PyProof.Rows PySem.W
theorem Inv.track (I:Inv X pins σ H s) (hf:jm X pins H D) (new:dW X.prog X.w (upd H D o) s.heap D o):Inv X pins σ (upd H D o) s:=by
 have hn:H D=none:=hf.1;have g:=I.step (h':=s.heap) (H':=upd H D o) (g':=s.gens) (t':=s.toks) (d':=s.drawn) (ch:=[D]) (fun b hb=>by rw [A0b.mp hb];exact ⟨hf.2.2.2.1,hf.2.1,hf.2.2.2.2.1,hf.2.2.2.2.2⟩) (fun b o _ _ _ e _=>e) (fun b o _ _ _ e _=>⟨o.slots,e⟩)
  (fun b o hb e n=>by rw [aj (fun z=>hb (by simp [z]))];exact n)
  (fun b o _ e=>⟨o,e⟩) (fun b xs e=>by rw [aj (aq e hn)];exact e) (fun b u xs e=>by rw [aj (aq e hn)];exact e) (fun b ps e=>⟨#[],by rw [aj (aq e hn),e];simp⟩) (fun m hm=>hm) (fun b u e=>?_) I.bare
 ·exact g
 ·by_cases hb:b=D
  ·subst hb;rw [ao] at e;cases e;exact new
  ·rw [aj hb] at e;refine (I.hok b u e).stay (fun c v hc q=>q) (fun c q=>?_) fun c xs q=>?_
   ·first
     | (rw [aj (aq q hn)];exact q)
     | exact q
   ·first
     | (rw [aj (aq q hn)];exact q)
     | exact q
theorem IV:∀ {xs:List V}{us:List Value},xs.length=us.length->(∀ (j:Nat) (x:V) (u:Value),xs[j]?=some x->us[j]?=some u->RelV x u)->Vals xs us
 | [],[],_,_=>.nil
 | [],_::_,h,_=>by simp at h
 | _::_,[],h,_=>by simp at h
 | x::xs,u::us,h,k=>.cons (k 0 x u 0xA 0xA) (IV (by simpa using h) fun j y w h1 h2=>k (j+1) y w (by simpa using h1) (by simpa using h2))
theorem gG.pairs:∀ {es:List DictEntry}{kvs:List (Str×V)},gG w.params es kvs->∃ kvs':List (Str×Value),Pairs (strKind prog w) es kvs'/\kvs'.map (·.1)=kvs.map (·.1)
 | [],[],_=>⟨[],.nil,rfl⟩
 | e::r,(k,v)::q,⟨⟨⟨t,h1⟩,h2,h3⟩,h⟩=>by
  have ih:∃ kvs':List (Str×Value),Pairs (strKind prog w) r kvs'/\kvs'.map (·.1)=q.map (·.1):=gG.pairs h;obtain ⟨l,p,el⟩:=ih;exact ⟨(k,e.val)::l,.cons (by rw [h1];exact A3g prog w k t) rfl p,by rw [A0m,A0m,el]⟩
theorem KD.dictAt {kvs:List (Str×V)} (d:KD K w.params a kvs)  (X:K.In h) (nd:(kvs.map (·.1)).Nodup):∃ (kvs':List (Str×Value)) (ep:Nat),h.DictAt (strKind prog w) a kvs' ep/\kvs'.map (·.1)=kvs.map (·.1):=by
 obtain ⟨es,n,hl,he⟩:=d.ex;obtain ⟨l,p,el⟩:=he.pairs (prog:=prog);refine ⟨l,n,⟨_,es,X _ _ hl,⟨rfl,rfl,rfl⟩,rfl,fun e hm=>?_,p,by rw [el];exact nd⟩,el⟩;obtain ⟨x,t,e1,e2⟩:=he.lit.all e (Array.mem_toList_iff.mpr hm);exact ⟨x,by rw [e1];exact A3g prog w x t,e2⟩
inductive IW (K:W.Frag) (P:Params) (xs:List V) (H:Hp) (Q:VK):Prop
 | mk (a:Addr) (kvs:List (Prod Str V)) (_:xs=[.ref a]) (_:KD K P a kvs) (_:(kvs.map (·.1)).Nodup) (_:kvs.length<=1000) (_:∀ p,H p=none->Q (.ref p) (upd H p (.lst (kvs.map fun e=>.str e.1)))):IW K P xs H Q
theorem BK (hin:X.A.handled=none):jj X (.type "list") (IW X.K X.w.params):=by
 intro pins s σ H xs us Q I r h;obtain ⟨a,kvs,rfl,d,nd,hz,q⟩:=h;obtain ⟨u,rfl,ru⟩:=vals1 r;cases ru;obtain ⟨kvs',ep,hd,ek⟩:=d.dictAt (prog:=X.prog) I.nO nd;have hlen:kvs'.length=kvs.length:=by have:=A1R List.length ek;simpa using this
 refine kdl_call (kdl_dict (knd:=strKind X.prog X.w) (kvs:=kvs') (ep:=ep) d.lo) hin hd (by rw [hlen,A1G];lia) fun h' tk acc c hk hS hI=>?_;have hv:Vals (kvs.map fun e=>V.str e.1) acc.toList:=by
  have ln:acc.toList.length=kvs.length:=by rw [A1w,hI.1,hlen]
  have key:∀ (j:Nat) (w:Value),acc.toList[j]?=some w->∃ e,kvs[j]?=some e/\∃ t,w=.str e.1 t:=fun j w hj=>by
   obtain ⟨k,x,e1,e2⟩:=hI.2 j w (by simpa using hj);have hj':j<kvs.length:=by rw [<- hlen];exact (A0j.mp e1).1
   refine ⟨kvs[j],jR hj',?_⟩;have e3:(kvs'.map (·.1))[j]?=(kvs.map (·.1))[j]?:=by rw [ek]
   rw [jQ,jQ,e1,jR hj'] at e3;have e4:k=kvs[j].1:=by simpa using e3
   rw [<- e4];exact Value.isStrOf_shape e2
  refine IV (by rw [cg,ln]) fun j x u hx hu=>?_;obtain ⟨e,he,t,rfl⟩:=key j u hu;rw [jQ,he] at hx;have:V.str e.1=x:=by simpa using hx
  subst this;exact ⟨t,rfl⟩
 have hl:(kvs.map fun e=>V.str e.1).length<=sizeLine:=by rw [cg,A1G];lia
 exact ⟨.ref s.heap.objs.size,_,I.laid (o:=.lst (kvs.map fun e=>.str e.1)) (t':=tk) hk (A0h _) ⟨hl,acc.toList,c,hv,hS⟩,rfl,q _ (I.hok.fresh (A0h _))⟩
inductive J3 (K:W.Frag) (x:V) (vs:List V) (H:Hp) (Q:VK):Prop
 | mk (l:Addr) (zs:List Str) (z:Str) (j:Nat) (_:x=.ref l) (_:vs=[.str z]) (_:bR K H l (zs.map V.str)) (_:zs[j]?=some z) (_:(∀ i,i<j->zs[i]?≠some z)) (_:j<1000) (_:Q (.int ((j:Nat):Int)) H):J3 K x vs H Q
theorem J4:∀ {zs:List Str}{us:List Value},Vals (zs.map V.str) us->∀ (j:Nat) (u:Value),us[j]?=some u->∃ z t,zs[j]?=some z/\u=.str z t
 | [],_,r,j,u,h=>by rw [A3p] at r;cases r;simp at h
 | z::zs,_,r,j,u,h=>by
  rw [A0m] at r;cases r with
  | cons r1 r2 =>
   obtain ⟨t,e⟩:=r1;cases j with
   | zero=>simp at h;subst h;exact ⟨z,t,by simp,e⟩
   | succ j=>obtain ⟨z',t',a,b⟩:=J4 r2 j u (by simpa using h);exact ⟨z',t',by simpa using a,b⟩
theorem qK:MtR X "list.index" (J3 X.K):=by
 intro pins s σ H x vs v us Q I rx rv h;obtain ⟨l,zs,z,j,rfl,rfl,hq,hj,hno,hjs,q⟩:=h;cases rx;obtain ⟨u,rfl,ru⟩:=rv.one;obtain ⟨tz,rfl⟩:=ru;obtain ⟨its,rv',pl,hz⟩:=I.list hq;have hlen:zs.length=its.length:=by have:=rv'.length;simpa using this
 have hjl:j<zs.length:=(A0j.mp hj).1;have at_:∀ (m:Nat) (hm:m<its.toArray.size),∃ y t,zs[m]?=some y/\its.toArray[m]=.str y t:=fun m hm=>J4 rv' m _ 0xA;obtain ⟨⟨oc,od,oda,osl⟩,n,ho,hc,hdn,hdd⟩:=pl;dsimp only at hc hdn hdd;subst hc hdn hdd;have hjs':j<its.toArray.size:=by rw [A0u];lia
 have ev:∀ (m:Nat) (hm:m<its.toArray.size) (y:Str),zs[m]?=some y->(match its.toArray[m] with | .str a _=>a==z | _=>false)=(y==z):=fun m hm y hy=>by
  obtain ⟨y',t,e1,e2⟩:=at_ m hm;rw [hy] at e1;cases e1;rw [e2]
 refine A3Z A2I ⟨_,ho,rfl⟩ PySem.F.entry_list_index (PySem.F.args_list_index_2 _ _)
  (SeqAt.list_indexAt l its.toArray n none osl (.str z tz) (fun u=>match u with | .str a _=>a==z | _=>false) j hjs' 0x3 (by rw [ev j hjs' z hj];exact A2H z) (fun m hm hlt=>?_)) ⟨?_,fun y hy=>?_,?_⟩
 ·obtain ⟨y,t,e1,e2⟩:=at_ m hm;rw [ev m hm y e1,A1v];intro e;exact hno m hlt (by rw [e1,e])
 ·exact ho
 ·obtain ⟨m,hm,rfl⟩:=Array.mem_iff_getElem.mp hy;obtain ⟨y,t,e1,e2⟩:=at_ m hm;rw [ev m hm y e1,e2];exact A3Y y t z tz
 ·exact ⟨.int ((j:Nat):Int),H,I.tok _,⟨_,rfl⟩,q⟩
inductive J5 (x:V) (vs:List V) (H:Hp) (Q:VK):Prop
 | mk (l:Addr) (xs:List V) (i:Nat) (y:V) (_:x=.ref l) (_:vs=[.int ((i:Nat):Int),y]) (_:H l=some (.lst xs)) (_:i<=xs.length) (_:xs.length<1000) (_:Q .non (upd H l (.lst (xs.take i++y::xs.drop i)))):J5 x vs H Q
theorem Kq:MtR X "list.insert" J5:=by
 intro pins s σ H x vs v us Q I rx rv h;obtain ⟨l,xs,i,y,rfl,rfl,hH,hi,hz,q⟩:=h;cases rx;obtain ⟨u,u',rfl,⟨t,rfl⟩,ru⟩:=vals2 rv;obtain ⟨z,its,n,r,hl,e⟩:=I.Jy hH;have fit:Builtin.List.listFitsIndex ((i:Nat):Int)=true:=by
  unfold Builtin.List.listFitsIndex;simp;lia
 have hsz:its.toArray.size<=sizeLine:=by rw [A0u,<- hl];exact z
 generalize hx:((i:Nat):Int)=x at fit rv ⊢;have fit':¬(!Builtin.List.listFitsIndex x)=true:=by simp [fit]
 have g:=PySem.AutoSeq1.list_insert_list_int_val_1 l its.toArray n x t u' fit' hsz;refine A3Z PySem.F.slot_list_insert ⟨_,e,rfl⟩ PySem.F.entry_list_insert (PySem.F.args_list_insert_3 _ _ _) g ⟨e,?_⟩;refine ⟨.non,_,I.Xu (its':=its.take i++u'::its.drop i) hH e ?_ ((r.take i).append (.cons ru (r.drop i))) ?_,rfl,q⟩
 ·subst hx
  show (its.toArray.extract 0 (if ((i:Nat):Int)<0 then (((i:Nat):Int)+(its.toArray.size:Int)).toNat else min ((i:Nat):Int).toNat its.toArray.size)).push u'++its.toArray.extract (if ((i:Nat):Int)<0 then (((i:Nat):Int)+(its.toArray.size:Int)).toNat else min ((i:Nat):Int).toNat its.toArray.size)=_
  have e0:¬ ((i:Nat):Int)<0:=Int.not_lt.mpr (Int.natCast_nonneg i);rw [A0f e0];have em:min ((i:Nat):Int).toNat its.toArray.size=i:=by rw [A0u,A3o];lia
  rw [em,kl_ins_eq]
 ·refine A0M (m:=1000) ?_ (by rw [A1G];decide);rw [gZ,vI,A0G,A1t];lia
def ltV:V->V->Bool
 | .int a,.int b=>decide (a<b)
 | .str a,.str b=>decide (a.cps.toList<b.cps.toList)
 | _,_=>false
def lU:List V->List V->Bool
 | x::xs,y::ys=>if x=y then lU xs ys else ltV x y
 | [],_::_=>true
 | _,_=>false
def Qf:V->V->Bool
 | .int _,.int _=>true
 | .str _,.str _=>true
 | _,_=>false
def pW:List V->List V->Prop
 | x::xs,y::ys=>Qf x y=true/\pW xs ys
 | [],[]=>True
 | _,_=>False
theorem wM {x z:V} (h:ltV x y=true) (g:ltV y z=true):ltV x z=true:=by
 cases x with
 | int a=>cases y with
  | int b=>cases z with
   | int c=>exact A0g (Int.lt_trans (nU h) (nU g))
   | _=>cases g
  | _=>cases h
 | str a=>cases y with
  | str b=>cases z with
   | str c=>exact A0g (List.lt_trans (nU h) (nU g))
   | _=>cases g
  | _=>cases h
 | _=>cases h
theorem Fi {x:V}:ltV x x=false:=by
 cases x <;> first | rfl | skip
 ·exact A0n (Int.lt_irrefl _)
 ·exact A0n (List.lt_irrefl _)
theorem Kr {x:V} (t:Qf x y=true) (hne:x≠y) (h:ltV x y=false):ltV y x=true:=by
 cases x <;> cases y <;> first | cases t | skip
 ·rename_i a b
  have h':=A3h h;have:a≠b:=fun e=>hne (by rw [e]);exact A0g 0x3
 ·rename_i a b
  have h':=A3h h;have ne:a.cps.toList≠b.cps.toList:=fun e=>hne (by rw [xT e]);refine A0g ?_;have le:b.cps.toList<=a.cps.toList:=List.not_lt.mp h';rcases List.le_iff_lt_or_eq.mp le with z | z
  ·exact z
  ·exact absurd z.symm ne
theorem uM:∀ {xs ys zs:List V},pW xs ys->pW ys zs->lU xs ys=true->lU ys zs=true->lU xs zs=true
 | [],[],_,_,_,h,_=>by cases h
 | [],_::_,_,t,_,_,_=>t.elim
 | _::_,[],_,t,_,_,_=>t.elim
 | _::_,_::_,[],_,t,_,_=>t.elim
 | x::xs,y::ys,z::zs,t,u,h,g=>by
  unfold lU at h g ⊢
  by_cases e:x=y
  ·subst e;rw [A0i rfl] at h
   by_cases e2:x=z
   ·subst e2;rw [A0i rfl] at g ⊢;exact uM t.2 u.2 h g
   ·rw [A0f e2] at g ⊢;exact g
  ·rw [A0f e] at h
   by_cases e2:y=z
   ·subst e2;rw [A0f e];exact h
   ·rw [A0f e2] at g;have hx:x≠z:=fun e3=>by
     subst e3;have:=wM h g;rw [Fi] at this;cases this
    rw [A0f hx];exact wM h g
theorem uN:∀ {xs ys:List V},pW xs ys->xs≠ys->lU xs ys=false->lU ys xs=true
 | [],[],_,h,_=>absurd rfl h
 | [],_::_,t,_,_=>t.elim
 | _::_,[],t,_,_=>t.elim
 | x::xs,y::ys,t,hne,h=>by
  unfold lU at h ⊢
  by_cases e:x=y
  ·subst e;rw [A0i rfl] at h ⊢;exact uN t.2 (fun z=>hne (by rw [z])) h
  ·rw [A0f e] at h;rw [A0f (A0k e)];exact Kr t.1 e h
theorem wO:∀ {xs ys:List V},pW xs ys->xs≠ys->∃ (j:Nat) (x y:V),xs[j]?=some x/\ys[j]?=some y/\x≠y/\Qf x y=true/\(∀ i,i<j->xs[i]?=ys[i]?)/\lU xs ys=ltV x y
 | [],[],_,h=>absurd rfl h
 | [],_::_,t,_=>t.elim
 | _::_,[],t,_=>t.elim
 | x::xs,y::ys,t,hne=>by
  by_cases e:x=y
  ·subst e;obtain ⟨j,a,b,h1,h2,h3,h4,h5,h6⟩:=wO t.2 (fun z=>hne (by rw [z]));refine ⟨j+1,a,b,by simpa using h1,by simpa using h2,h3,h4,fun i hi=>?_,by unfold lU;rw [A0i rfl];exact h6⟩;cases i with
   | zero=>simp
   | succ i=>simpa using h5 i 0x3
  ·exact ⟨0,x,y,by simp,by simp,e,t.1,fun i hi=>absurd hi (A4y _),by unfold lU;rw [A0f e]⟩
theorem Ks {x:V}{w:Value} (hu:A.units+8<cLine) (rx:RelV x u) (ry:RelV y w) (hx:gR x=true) (hy:gR y=true):SeqAt.EqAt A s u w (decide (x=y)):=by
 cases x with
 | int a =>
  obtain ⟨t,rfl⟩:=rx;cases y with
  | int b =>
   obtain ⟨t',rfl⟩:=ry;have e:decide (V.int a=V.int b)=(a==b):=by rw [A1g];simp
   rw [e];exact SeqAt.EqAt.int_int a t b t'
  | str z =>
   obtain ⟨t',rfl⟩:=ry;rw [A0n (show ¬ V.int a=V.str z from fun e=>by cases e)]
   exact A3U a t z t'
  | _=>cases hy
 | str a =>
  obtain ⟨t,rfl⟩:=rx;cases y with
  | int b =>
   obtain ⟨t',rfl⟩:=ry;rw [A0n (show ¬ V.str a=V.int b from fun e=>by cases e)]
   exact A3V a t b t'
  | str z =>
   obtain ⟨t',rfl⟩:=ry;have e:decide (V.str a=V.str z)=(a==z):=by rw [A1g];simp
   rw [e];exact A3Y a t z t'
  | _=>cases hy
 | _=>cases hx
theorem J6 {p q:Addr} (hu:A.units+9<cLine) (hk:nM X.prog X.w H s.heap) (hp:H p=some 0x2E) (hq:H q=some (.tup ys)) (hx:xs.all gR=true) (hy:ys.all gR=true) (t:pW xs ys) (hne:xs≠ys)
  (h:Q (.bool (lU xs ys)) s):wpAny 0x9 A (compareOp .Lt (.ref p) (.ref q)) Q E s:=by
 obtain ⟨z1,its,r1,⟨⟨oc,od,oda,osl⟩,ho,hc,n,hd⟩⟩:=hk p _ hp;obtain ⟨z2,its2,r2,⟨⟨oc2,od2,oda2,osl2⟩,ho2,hc2,n2,hd2⟩⟩:=hk q _ hq;dsimp only at hc hd hc2 hd2;subst hc hd hc2 hd2;obtain ⟨j,x,y,h1,h2,h3,h4,h5,h6⟩:=wO t hne;obtain ⟨u,hu1,ru⟩:=r1.get h1;obtain ⟨w,hw1,cO⟩:=r2.get h2;have l1:=r1.length;have l2:=r2.length;have g1:j<its.toArray.size:=by rw [A0u];exact (A0j.mp hu1).1
 have g2:j<its2.toArray.size:=by rw [A0u];exact (A0j.mp hw1).1
 have eu:its.toArray[j]=u:=by have:=(A0j.mp hu1).2;simpa using this
 have ew:its2.toArray[j]=w:=by have:=(A0j.mp hw1).2;simpa using this
 refine cmp_ofLt (richCompare_meets_room (op:=.Lt) ⟨_,ho,rfl⟩ ⟨_,ho2,rfl⟩ PySem.F.slot_tuple_lt PySem.F.entry_tuple_lt (PySem.F.args_tuple_lt_2 _ _)
  (SeqAt.Fg p q its.toArray its2.toArray n n2 _ _ _ _ (fun i=>decide (xs.getD i .non=ys.getD i .non)) (lU xs ys) j g1 g2 ?_ fun i hi=>?_) ⟨ho,ho2,fun i a1 a2=>?_,fun prog w E Q hQ=>?_,?_⟩ 0x3)
 ·refine A0n ?_;rw [qQ,qQ,h1,h2];exact h3
 ·refine A0g ?_;rw [qQ,qQ,h5 i hi]
 ·rw [A0u] at a1 a2;have b1:i<xs.length:=by lia
  have b2:i<ys.length:=by lia
  obtain ⟨u',c1,c2⟩:=r1.get (jR b1);obtain ⟨w',d1,d2⟩:=r2.get (jR b2);have e1:its.toArray[i]=u':=by have:=(A0j.mp c1).2;simpa using this
  have e2:its2.toArray[i]=w':=by have:=(A0j.mp d1).2;simpa using this
  rw [e1,e2,qQ,qQ,jR b1,jR b2];exact Ks (by show A.units+1+8<_;lia) c2 d2 (A1u.mp hx _ (A0R b1)) (A1u.mp hy _ (A0R b2))
 ·rw [eu,ew];rw [h6] at hQ;cases x with
  | int a =>
   cases y with
   | int b =>
    obtain ⟨t1,rfl⟩:=ru;obtain ⟨t2,rfl⟩:=cO;exact lt_int hQ
   | _=>cases h4
  | str a =>
   cases y with
   | str b =>
    obtain ⟨t1,rfl⟩:=ru;obtain ⟨t2,rfl⟩:=cO;exact lt_str hQ
   | _=>cases h4
  | _=>cases h4
 ·exact ⟨(fun z=>by cases z),h⟩
inductive rLtR (x y:V) (H:Hp) (Q:VK):Prop
 | mk (p q:Addr) (xs ys:List V) (_:x=.ref p) (_:y=.ref q) (_:H p=some 0x2E) (_:H q=some (.tup ys)) (_:xs.all gR=true) (_:ys.all gR=true) (_:pW xs ys) (_:xs≠ys) (_:Q (.bl (lU xs ys)) H):rLtR x y H Q
theorem Z1 (hu:X.A.units+64<cLine):mq X (compareOp .Lt) rLtR:=by
 intro pins s σ H x y v u Q I rx ry h;obtain ⟨p,q,xs,ys,rfl,rfl,hp,hq,hx,hy,t,hne,k⟩:=h;cases rx;cases ry;exact J6 0x3 I.hok hp hq hx hy t hne ⟨.bl _,H,I,rfl,k⟩
end L2
namespace M
open PySem L2 PyProof.Rows
abbrev yR:Stmt:=top 13
abbrev Fj:Stmt:=top 14
abbrev Fl:Stmt:=top 63
abbrev yS:Stmt:=top 64
abbrev Fp:Stmt:=top 65
abbrev Fq:Stmt:=top 72
def Ft.num:Ft->Bool
 | .d=>true | .n=>false | .c=>false | .a=>true | .s=>true
def forms:List (Str×List Ft):=[("heir",[.d,.n,.n]),("grant",[.d,.c,.n,.n,.a,.s]),("part",[.d,.n,.n,.n,.a]),("convey",[.d,.n,.n]),("liege",[.d,.n,.c]),("surrender",[.d,.n]),("death",[.d,.n])]
def form (k:Str):Option (List Ft):=forms.lookup k
def isI:V->Bool
 | .int _=>true
 | _=>false
def J7 (l:List Ft) (rest:List V):Prop:=∀ (i:Nat) (s:Ft) (v:V),l[i]?=some s->rest[i]?=some v->isI v=s.num
theorem Fv {k:Str}{l:List Ft} (h:form k=some l):(k,l)∈forms:=by
 unfold form at h
 revert h
 generalize forms=fs
 induction fs with
 | nil=>intro h;cases h
 | cons p r ih =>
  obtain ⟨k',l'⟩:=p;intro h;rw [A0X] at h
  by_cases e:k=k'
  ·subst e;simp at h;subst h;exact A0o
  ·have e':(k==k')=false:=by simpa using e
   rw [e'] at h;exact jT _ (ih h)
def Qg:List V:=[.str "heir",.str "grant",.str "part",.str "convey",.str "liege",.str "surrender",.str "death"]
def J8:Sp:=fun vs H Q _=>vs=[]/\∀ p,H p=none->Q (.ref p) (upd H p (.lst Qg))
theorem Ut:aP [] [] (aH Fl):=0x0
theorem Qh (F:fu K "_law_kinds" "_law_kinds" Fl f fd):aL P w K mg base bO 1 f fd [] J8:=by
 refine F.ok Ut 0x1 0x2;obtain ⟨rfl,k⟩:=h;refine ⟨_,aG (aV (cU (ak aK (ak aK (ak aK (ak aK (ak aK (ak aK (ak aK aC))))))))),?_⟩;exact ⟨small 0xA,k⟩
open PySem.Spec PySem.W
def cJ:List Str:=["heir", "grant", "part", "convey", "liege", "surrender", "death"]
def cW (k:Str):Nat:=cJ.idxOf k
structure RowD (r:List V) (k:Str) (d:Int) (rest:List V) (l:List Ft):Prop where
 e:r=.str k::.int d::rest
 f:form k=some l
 len:(V.int d::rest).length=l.length
 kept:J7 l (.int d::rest)
 flat:r.all gR=true
inductive fZ (r:List V):Prop
 | mk (k:Str) (d:Int) (rest:List V) (l:List Ft) (_:RowD r k d rest l):fZ r
def gU:List V->Int
 | _::.int d::_=>d
 | _=>0
def eZ:List V->Str
 | .str k::_=>k
 | _=>""
def eN (r s:List V):Bool:=if gU r≠gU s then decide (gU r<gU s) else if cW (eZ r)≠cW (eZ s) then decide (cW (eZ r)<cW (eZ s)) else lU r s
theorem BP:∀ {l:List Ft}{xs ys:List V},xs.length=l.length->ys.length=l.length->J7 l xs->J7 l ys->xs.all gR=true->ys.all gR=true->pW xs ys
 | [],[],[],_,_,_,_,_,_=>trivial
 | [],_::_,_,h,_,_,_,_,_=>by simp at h
 | [],[],_::_,_,h,_,_,_,_=>by simp at h
 | _::_,[],_,h,_,_,_,_,_=>by simp at h
 | _::_,_::_,[],_,h,_,_,_,_=>by simp at h
 | s::l,x::xs,y::ys,h1,h2,k1,k2,f1,f2=>by
  rw [A2k,A1b] at f1 f2;refine ⟨?_,BP (by simpa using h1) (by simpa using h2) (fun i t v a b=>k1 (i+1) t v (by simpa using a) (by simpa using b)) (fun i t v a b=>k2 (i+1) t v (by simpa using a) (by simpa using b)) f1.2 f2.2⟩;have a1:=k1 0 s x 0xA 0xA;have a2:=k2 0 s y 0xA 0xA;rw [<- a2] at a1;cases x <;> cases y <;> first | rfl | (cases a1;done) | (cases f1.1;done) | (cases f2.1;done)
theorem lK {k:Str}{l:List Ft} (h:form k=some l):k∈cJ:=by
 have:=Fv h;have e:cJ=forms.map (·.1):=by decide +kernel
 rw [e];exact A0e.mpr ⟨(k,l),this,rfl⟩
theorem BZ {k k':Str} (h:k∈cJ) (h':k'∈cJ) (e:cW k=cW k'):k=k':=by
 have a:cJ.idxOf k<cJ.length:=A3c.mpr h;have b:cJ.idxOf k'<cJ.length:=A3c.mpr h';have e1:cJ[cJ.idxOf k]=k:=A3i a;have e2:cJ[cJ.idxOf k']=k':=A3i b;unfold cW at e;rw [<- e1,<- e2];simp only [e]
theorem fZ.same {r s:List V} (hr:fZ r) (hs:fZ s) (e:cW (eZ r)=cW (eZ s)):pW r s:=by
 obtain ⟨k,d,rest,l,R⟩:=hr;obtain ⟨k',d',rest',l',S⟩:=hs;have e1:=R.e;have e2:=S.e;subst e1 e2;have ek:k=k':=BZ (lK R.f) (lK S.f) e;subst ek;have el:l=l':=by have:=R.f;rw [S.f] at this;exact (A0V this).symm
 subst el;have f1:=R.flat;have f2:=S.flat;rw [A2k,A1b] at f1 f2;exact ⟨rfl,BP R.len S.len R.kept S.kept f1.2 f2.2⟩
theorem jJ {r s t:List V} (hr:fZ r) (hs:fZ s) (ht:fZ t) (h:eN r s=true) (g:eN s t=true):eN r t=true:=by
 unfold eN at h g ⊢
 by_cases a:gU r=gU s
 ·rw [A0f (by simpa using a)] at h
  by_cases b:gU s=gU t
  ·rw [A0f (by simpa using b)] at g;rw [A0f (by simpa using a.trans b)]
   by_cases c:cW (eZ r)=cW (eZ s)
   ·rw [A0f 0x2B] at h
    by_cases d:cW (eZ s)=cW (eZ t)
    ·rw [A0f (by simpa using d)] at g;rw [A0f (by simpa using c.trans d)];exact uM (hr.same hs c) (hs.same ht d) h g
    ·rw [A0i (by simpa using d)] at g;rw [A0i (by rw [c];simpa using d),c];exact g
   ·rw [A0i 0x2B] at h;have h':=nU h
    by_cases d:cW (eZ s)=cW (eZ t)
    ·rw [<- d,A0i 0x2B];exact h
    ·rw [A0i (by simpa using d)] at g;have g':=nU g;rw [A0i 0x3];exact A0g 0x3
  ·rw [A0i (by simpa using b)] at g;rw [a,A0i (by simpa using b)];exact g
 ·rw [A0i (by simpa using a)] at h;have h':=nU h
  by_cases b:gU s=gU t
  ·rw [<- b,A0i (by simpa using a)];exact h
  ·rw [A0i (by simpa using b)] at g;have g':=nU g;rw [A0i 0x3];exact A0g 0x3
theorem rB {r s:List V} (hr:fZ r) (hs:fZ s) (hne:r≠s) (h:eN r s=false):eN s r=true:=by
 unfold eN at h ⊢
 by_cases a:gU r=gU s
 ·rw [A0f (by simpa using a)] at h;rw [A0f (by simpa using a.symm)]
  by_cases c:cW (eZ r)=cW (eZ s)
  ·rw [A0f 0x2B] at h;rw [A0f (by simpa using c.symm)];exact uN (hr.same hs c) hne h
  ·rw [A0i 0x2B] at h;have h':=A3h h;rw [A0i (fun e=>c e.symm)];exact A0g 0x3
 ·rw [A0i (by simpa using a)] at h;have h':=A3h h;rw [A0i (fun e=>a e.symm)];exact A0g 0x3
theorem Ca {r s:List V} (hr:fZ r) (hs:fZ s) (h:eN r s=true):eN s r=false:=by
 cases e:eN s r with
 | false=>rfl
 | true =>
  have:=jJ hr hs hr h e;unfold eN at this;rw [A0f 0xA,A0f 0xA] at this
  exfalso
  have irr:∀ xs:List V,lU xs xs=false:=fun xs=>by
   induction xs with
   | nil=>rfl
   | cons x xs ih=>unfold lU;rw [A0i rfl];exact ih
  rw [irr] at this;cases this
end M
namespace L2
open PySem PySem.Spec PyProof.Rows PySem.W
section
variable {M:Model}
theorem yU {rest:List Expr}{kws:List Keyword}
  (h:wpAny M A (spliced (backTo pos (starEach (e::rest) env))) (fun vs s1=>wpAny M A (evalAll ((backToKw pos (keywordEach kws env)).map (·.2))) (fun kvs s2=>wpAny M A (call (.builtin T) vs (((backToKw pos (keywordEach kws env)).filterMap (·.1)).zip kvs)) Q E s2) E s1) E s)
  (he:backTo pos (starEach (e::rest) env)=(false,eval e env)::backTo pos (starEach rest env)) (hp:(backTo pos (starEach (e::rest) env)).any (·.1)=false)
  (ha:(backToKw pos (keywordEach kws env)).all (·.1.isSome)=true) (hk:(backToKw pos (keywordEach kws env)).any (·.1.isNone)=false) :
  wpAny M A (callWith pos (.builtin T) [] (backTo pos (starEach (e::rest) env)) (backToKw pos (keywordEach kws env))) Q E s:=by
 have g:wpAny M A (evalArgs (.builtin T) true (backTo pos (starEach (e::rest) env)) (backToKw pos (keywordEach kws env))) (fun a s1=>wpAny M A (call (.builtin T) ([]++a.pos) a.kw) Q E s1) E s:=by
  rw [he] at h ⊢;exact evalArgs_kwB ha h
 unfold callWith;refine A0a (A2Z (A1p g (fun a s1 h1=>A0a (A2Y ?_)) fun _ _ z=>z));simp only [hp,hk,Bool.or_false];exact A0a (A0s (A0a (A1p h1 (fun r s2 hr=>A0a (A2Z (wpAny_point (A0s hr)))) fun _ _ z=>z)))
end
end L2
namespace M
open PySem PySem.Spec PyProof.Rows PySem.W L2
inductive sJ (vs:List V) (H:Hp) (Q:VK) (cB:XK):Prop
 | mk (p:Addr) (r:List V) (k:Str) (d:Int) (rest:List V) (l:List Ft) (_:vs=[.ref p]) (_:H p=some (.tup r)) (_:RowD r k d rest l) (_:∀ q H',Same H H'->H' q=some (.tup [.int d,.int ((cW k:Nat):Int),.ref p])->Q (.ref q) H'):sJ vs H Q cB
inductive Forms (K:W.Frag) (P:Params) (mg:Str->Option Value):Prop
 | mk (aF:Addr) (kvs:List (Prod Str V)) (_:mg "FORMS"=some (.ref aF)) (_:KD K P aF kvs) (_:kvs.map (·.1)=cJ):Forms K P mg
theorem yV {k:Str} (h:k∈cJ):cJ[cW k]?=some k/\(∀ i,i<cW k->cJ[i]?≠some k)/\cW k<7:=by
 have a:cJ.idxOf k<cJ.length:=A3c.mpr h;refine ⟨?_,fun i hi e=>?_,a⟩
 ·unfold cW;rw [jR a,A3i a]
 ·have hl:i<cJ.length:=Nat.lt_trans hi a;rw [jR hl] at e;have e':=A0V e;have nd:cJ.Nodup:=by decide +kernel
  have pw:=A1q.mp nd i (cJ.idxOf k) hl a hi;exact pw (by rw [e',A3i a])
theorem Uu:aP ["row"] ["row"] (aH Fj):=0x0
theorem Qi (F:fu K "place_in_order" "place_in_order" Fj f fd) (mo:Forms K w.params mg) (ml:mg "list"=none):aL P w K mg base bO 1 f fd ["row"] sJ:=by
 obtain ⟨aF,kvs,mF,kF,hF⟩:=mo;refine F.ok Uu 0x1 0x2;obtain ⟨p,r,k,d,rest,l,rfl,hp,R,q⟩:=h;refine ⟨_,aG (aV (cZ (ak (aN bA (pv 0) aA 0x4) (ak (iR A0H A2I A3l qK (gW (BK hr.hd) rfl ml pA (ak (cQ rfl mF rfl (v:=.ref aF)) aC)) (ak (aN bA (pv 0) aA 0x4) aC)) (ak (pv 0) aC))))),?_⟩;have e:=R.e;subst e;obtain ⟨i1,i2,i3⟩:=yV (lK R.f);have ek:(kvs.map fun e=>V.str e.1)=cJ.map V.str:=by rw [<- hF,A0Z];rfl
 have hl7:kvs.length=7:=by have:=A1R List.length hF;simpa [cJ] using this
 refine ⟨_,rfl,p,_,_,_,rfl,rfl,bZ.of hp,aJ (j:=1) rfl,?_⟩;refine ⟨aF,kvs,rfl,kF,by rw [hF];decide +kernel,by lia,fun z hz=>?_⟩;rw [ek];have s1:=aO hz (.lst (cJ.map V.str));refine ⟨.inl ⟨rfl,_,bR.of ao⟩,_,rfl,p,_,_,_,rfl,rfl,bZ.of (s1 _ _ hp),aJ (j:=0) rfl,z,cJ,k,cW k,rfl,rfl,bR.of ao,i1,i2,by lia,?_⟩;refine ⟨_,rfl,small 0xA,fun t ht=>?_⟩;exact q t _ (s1.trans (aO ht _)) ao
def gA (H:Hp) (all:List Addr) (dat:Addr->List V):Prop:=(∀ a∈all,H a=some (.tup (dat a))/\fZ (dat a))/\(all.map dat).Nodup
def zM (dat:Addr->List V) (out:List Addr):Prop:=out.Pairwise fun a b=>eN (dat a) (dat b)=true
inductive Cd (K:W.Frag) (l:Addr) (H:Hp) (Q:VK):Prop
 | mk (all:List Addr) (dat:Addr->List V) (_:bR K H l 0x2D) (_:all.length<64) (_:gA H all dat) (_:∀ D out H',Same H H'->H D=none->H' D=some (.lst (out.map V.ref))->out.Perm all->zM dat out->Q (.ref D) H'):Cd K l H Q
inductive uO (K:W.Frag) (vs:List V) (H:Hp) (Q:VK) (cB:XK):Prop
 | mk (l:Addr) (_:vs=[.ref l]) (_:Cd K l H Q):uO K vs H Q cB
def Z2 (dat:Addr->List V) (p:Addr):List V:=[.int (gU (dat p)),.int ((cW (eZ (dat p)):Nat):Int),.ref p]
theorem qL {all:List Addr} (h:gA H all dat)  (hi:i<all.length) (hj:j<all.length) (hij:i≠j):dat all[i]≠dat all[j]:=by
 have pw:=A1q.mp h.2;intro e;have li:i<(all.map dat).length:=by rw [cg];exact hi
 have lj:j<(all.map dat).length:=by rw [cg];exact hj
 rcases Nat.lt_or_gt_of_ne hij with g | g
 ·exact pw i j li lj g (by simpa using e)
 ·exact pw j i lj li g (by simpa using e.symm)
section
variable {k:Nat}
theorem Z4 {all ks:List Addr}{C:Bool->Shared->Prop} (hu:X.A.units+64<cLine) (I:Inv X pins σ H' s') (hrow:∀ a∈all,H' a=some (.tup (dat a))/\fZ (dat a)) (KA:oK H' (Z2 dat) ks all)
  (hi:i<all.length) (hj:j<all.length) (hne:dat all[i]≠dat all[j]) (hC:∀ tk,C (eN (dat all[i]) (dat all[j])) { s' with toks:=tk }) :
  wpAny 0x9 X.A.in1.in1 (keyLt' (tuples' true) ((ks.map Value.ref).getD i Value.none) ((ks.map Value.ref).getD j Value.none)) C (fun _ _=>False) s':=by
 have hi':i<ks.length:=by rw [KA.1];exact hi
 have hj':j<ks.length:=by rw [KA.1];exact hj
 rw [qJ ks i hi',qJ ks j hj'];have ki:=KA.2 i ks[i] all[i] (jR hi') (jR hi);have kj:=KA.2 j ks[j] all[j] (jR hj') (jR hj);obtain ⟨_,it1,r1,⟨o1,ho1,hc1,n1,hd1⟩⟩:=I.hok _ _ ki;obtain ⟨_,it2,r2,⟨o2,ho2,hc2,n2,hd2⟩⟩:=I.hok _ _ kj;obtain ⟨u1,r1,rfl,⟨t1,rfl⟩,r1'⟩:∃ u us,it1=u::us/\RelV (.int (gU (dat all[i]))) u/\Vals [.int ((cW (eZ (dat all[i])):Nat):Int),.ref all[i]] us:=by cases r1 with | cons a b=>exact ⟨_,_,rfl,a,b⟩
 obtain ⟨u2,r2,rfl,⟨t2,rfl⟩,r2'⟩:∃ u us,it2=u::us/\RelV (.int (gU (dat all[j]))) u/\Vals [.int ((cW (eZ (dat all[j])):Nat):Int),.ref all[j]] us:=by cases r2 with | cons a b=>exact ⟨_,_,rfl,a,b⟩
 obtain ⟨v1,w1,rfl,⟨t3,rfl⟩,rfl⟩:=vals2 r1';obtain ⟨v2,w2,rfl,⟨t4,rfl⟩,rfl⟩:=vals2 r2';obtain ⟨hpi,Qj⟩:=hrow all[i] (A0R hi);obtain ⟨hpj,Qk⟩:=hrow all[j] (A0R hj);have fl:∀ r,fZ r->r.all gR=true:=fun r ⟨_,_,_,_,R⟩=>R.flat;have g:=hC s'.toks;generalize all[i]=pi at *
 generalize all[j]=pj at *
 unfold eN at g;refine kat_lt ho1 hd1 ho2 hd2 ?_;refine kat_cons (A4n ?_)
 by_cases a:gU (dat pi)=gU (dat pj)
 ·rw [A0f (by simpa using a)] at g;rw [show (gU (dat pi)==gU (dat pj))=true by simpa using a]
  refine kat_yes (kat_cons (A4n ?_))
  by_cases c:cW (eZ (dat pi))=cW (eZ (dat pj))
  ·rw [A0f 0x2B] at g;rw [show ((((cW (eZ (dat pi)):Nat):Int))==((cW (eZ (dat pj)):Nat):Int))=true by rw [c];simp]
   have st:=Qj.same Qk c;obtain ⟨bs,rb⟩:=cM.reads I (.tup hpi (jg _ (fl _ Qj))) (u:=.ref pi) rfl;obtain ⟨cs,rc⟩:=cM.reads I (.tup hpj (jg _ (fl _ Qk))) (u:=.ref pj) rfl;have q:=A4r (.tuple ((dat pi).map fU)) (.tuple ((dat pj).map fU)) X.A.in1.in1 s' _ _ bs cs rb rc (iH _ (fl _ Qj)) (iH _ (fl _ Qk)) (by
    have h1:=kY (dat pi);have h2:PyData.depth (.tuple ((dat pi).map fU))<=3:=by show PyData.depthAll ((dat pi).map fU)+1<=3;lia
    have h3:X.A.in1.in1.units<=X.A.units+32:=by show X.A.units+1+1<=X.A.units+32;lia
    lia)
   have e:PyData.eqv (.tuple ((dat pi).map fU)) (.tuple ((dat pj).map fU))=decide (dat pi=dat pj):=jH _ _ (fl _ Qj) (fl _ Qk);rw [e,A0n hne] at q;refine kat_yes (kat_cons (q _ _ _ _ (kat_no ?_)));exact kat_one _ _ (J6 (X:=X) (by show X.A.units+1+1+9<_;lia) I.hok hpi hpj (fl _ Qj) (fl _ Qk) st hne g)
  ·rw [A0i 0x2B] at g;rw [show ((((cW (eZ (dat pi)):Nat):Int))==((cW (eZ (dat pj)):Nat):Int))=false by rw [A1v];lia]
   refine kat_no (kat_one _ _ (lt_int ?_));have e:decide (((cW (eZ (dat pi)):Nat):Int)<((cW (eZ (dat pj)):Nat):Int))=decide (cW (eZ (dat pi))<cW (eZ (dat pj))):=by rw [A1g];simp
   rw [e];exact g
 ·rw [A0i (by simpa using a)] at g;rw [show (gU (dat pi)==gU (dat pj))=false by rw [A1v];exact a]
  exact kat_no (oneLt_int g)
end
end M
namespace L2
open PySem PySem.Spec PyProof.Rows PySem.W
theorem wQ:∀ as:List Addr,Vals (as.map V.ref) (as.map Value.ref)
 | []=>.nil
 | _::r=>.cons rfl (wQ r)
end L2
namespace M
open PySem PySem.Spec PyProof.Rows PySem.W PySem.Calls L2
theorem Wv:∀ as:List Addr,(∀ a∈as,∃ o xs n k t,h.get? a=some o/\o.cls=.type "tuple"/\o.data=.seq xs n/\xs[0]?=some (Value.int k t))->∃ fs,KatTups h (as.map Value.ref) fs/\fs.length=as.length/\∀ v∈fs,∃ k t,v=Value.int k t
 | [],_=>⟨[],.nil,rfl,fun v hv=>nomatch hv⟩
 | a::as,ha=>by
  obtain ⟨fs,t,hl,hf⟩:=Wv as fun b hb=>ha b (jT _ hb);obtain ⟨o,xs,n,k,tk,e,hc,hd,hx⟩:=ha a A0o;exact ⟨.int k tk::fs,.cons e hc hd hx t,by rw [vI,hl,vI],fun v hv=>by
   rcases A0d.mp hv with rfl | hv
   ·exact ⟨k,tk,rfl⟩
   ·exact hf v hv⟩
theorem Uv {p:Array Nat} (h:Pm n p) {all:List Addr} (hn:all.length=n):(p.toList.map fun i=>all.getD i 0).Perm all:=by
 have h1:p.toList.Perm (List.range n):=by have:=A2T.mp h;simpa using this
 have h2:=h1.map fun i=>all.getD i 0;have e:(List.range n).map (fun i=>all.getD i 0)=all:=by
  apply List.ext_getElem
  ·simp [hn]
  ·intro i a b;simp only [A4q,List.getElem_range];rw [qQ,jR b];rfl
 rw [e] at h2;exact h2
theorem Fw {p:Array Nat} (h:Pm n p) {m:Nat} (hm:m<p.toList.length):p.toList[m]=pat p m/\pat p m<n:=by
 have hs:m<p.size:=by rw [<- A1w];exact hm
 refine ⟨?_,h.lt (by rw [<- h.size];exact hs)⟩;unfold pat;rw [Array.getD,dif_pos hs];simp
section
variable {k:Nat}
theorem Ql {ta:TA}{p kp kpos:Pos}{x:Str} (hg:Gl X "sorted") (hm:X.mg "sorted"=none) (ha:PA X [e] ta) (hgx:Gl X x) (hmx:X.mg x=some (.ref f)) (F:aL X.prog X.w X.K X.mg X.base bO k f fd ["row"] sJ) (hr:cH (k+2) X.A) (hb:Binds X.K fd ["row"] [])
  (hdb:0x24=false:=by decide) (hs:starEach [e] X.env=[(false,eval e X.env)]:=by rfl) :
  PE X (.Call (.Name "sorted" p) [e] [⟨some (Str.ofString "key"),.Name x kp,kpos⟩] pos) (fun σ H Q=>ta σ H fun vs H1=>∃ l,vs=[.ref l]/\Cd X.K l H1 Q):=by
 intro pins s σ H Q I h;refine A1Q (oA I hg hm jx (yU (cN (ha pos pins s σ H _ I h) fun us s1 ⟨vs,H1,I1,r1,q1⟩=>cN (Sy (cQ hgx hmx rfl hdb (v:=.ref f)) Xk pos pins s1 σ H1 (fun zs H2=>zs=[.ref f]/\∃ l,vs=[.ref l]/\Cd X.K l H2 Q) I1 ⟨rfl,q1⟩) fun ws s2 ⟨zs,H2,I2,r2,q2⟩=>?_) (by rw [hs];rfl) (by rw [hs];rfl) (by rfl) (by rfl)));obtain ⟨rfl,l,rfl,all,dat,hq,h64,RO,q⟩:=q2;obtain ⟨u,rfl,ru⟩:=vals1 r1;cases ru;obtain ⟨w,rfl,cO⟩:=vals1 r2;cases cO;obtain ⟨its,rv,pl,hz⟩:=I2.list hq;have Z5:=yQ rv;subst Z5
 show wpAny _ _ (call (.builtin "sorted") [.ref l] [(Str.ofString "key",.ref f)]) _ _ s2
 refine call_function_entry_kw kind_sorted plain_sorted entry_sorted (ksk_s1 _ _) ?_;unfold Builtin.«sorted»;refine A0a (m:=checkCount "sorted" 1 1 _) (A0s ?_);refine A0a (collect_list pl.isList ?_ (by rw [cg,A1G];lia));refine A0a (wpAny_newList ?_ (by rw [cg,A1G];lia));have hsz:((s2.heap.push (seqObj "list" #[] 0)).update s2.heap.objs.size (Obj.mapSeq (·++(0x2A).toArray))).objs.size=s2.heap.objs.size+1:=by
  rw [Heap.size_update,size_push']
 have hoL:(((s2.heap.push (seqObj "list" #[] 0)).update s2.heap.objs.size (Obj.mapSeq (·++(0x2A).toArray))).push (seqObj "list" (0x2A).toArray 0)).get? (s2.heap.objs.size+1)=some (seqObj "list" (0x2A).toArray 0):=by
  rw [<- hsz];exact A0y _ rfl
 have keep:∀ b o,s2.heap.get? b=some o->(((s2.heap.push (seqObj "list" #[] 0)).update s2.heap.objs.size (Obj.mapSeq (·++(0x2A).toArray))).push (seqObj "list" (0x2A).toArray 0)).get? b=some o:=fun b o q=>by
  have hlt:b<s2.heap.objs.size:=A0I q;rw [Heap.get?_push_ne _ _ _ (by rw [hsz];exact A0S (A4e hlt)),A1V _ _ _ _ (A0S hlt),Heap.get?_push_ne _ _ _ (A0S hlt)];exact q
 show wpAny _ _ _ _ _ { s2 with heap:=((s2.heap.push (seqObj "list" #[] 0)).update s2.heap.objs.size (Obj.mapSeq (·++(0x2A).toArray))).push (seqObj "list" (0x2A).toArray 0) }
 rw [hsz];have I3:=I2.kept (t':=s2.toks) keep;have fa:jm X pins H2 (s2.heap.objs.size+1):=I2.xG (A2t _) (I2.hok.fresh (A2t _));have hD:H2 (s2.heap.objs.size+1)=none:=I2.hok.fresh (A2t _);refine A0a (A2Z (wpAny_call_entry_kw slot_list_sort ⟨_,hoL,rfl⟩ entry_list_sort ?body (ksk_l1 _ _)))
 case body =>
  show wpAny 0x9 X.A.in1.in1 (Builtin.«list.sort» ⟨[.ref (s2.heap.objs.size+1)],[(Str.ofString "key",.ref f)]⟩) _ _ _
  rw [ksk_t1];have gD:∀ i (hi:i<all.length),all.getD i 0=all[i]:=fun i hi=>by rw [qQ,jR hi];rfl
  refine Fe (kd:=Z2 dat) (lt:=fun i j=>eN (dat (all.getD i 0)) (dat (all.getD j 0))) (κ:=tuples' true) F hr hb I3 fa hoL h64 ⟨fun i j k hi hj hk a b=>?_,fun i j hi hj hij c=>?_⟩ (fun p hp H' sm Q' kq=>?_) (fun h2 ks H' s' Q' hok sm KA hQ=>?_) (fun ks H' s' i j C I' sm KA hi hj hij hC=>?_) fun p s' H' e hP hU I' fa' sm hS=>?_
  ·rw [gD i hi,gD j hj] at a;rw [gD j hj,gD k hk] at b;rw [gD i hi,gD k hk];exact jJ (RO.1 _ (A0R hi)).2 (RO.1 _ (A0R hj)).2 (RO.1 _ (A0R hk)).2 a b
  ·rw [gD i hi,gD j hj] at c;rw [gD i hi,gD j hj];exact rB (RO.1 _ (A0R hi)).2 (RO.1 _ (A0R hj)).2 (qL RO hi hj hij) c
  ·obtain ⟨hp1,kk,d,rest,ll,R⟩:=RO.1 p hp;refine ⟨p,dat p,kk,d,rest,ll,rfl,sm _ _ hp1,R,fun q' Lf s'' hq'=>kq q' Lf s'' ?_⟩;rw [hq'];unfold Z2;rw [R.e];rfl
  ·obtain ⟨fs,t,hlf,hf⟩:=Wv (h:=s'.heap) ks fun b hb'=>by
    obtain ⟨m,hm⟩:=List.mem_iff_getElem?.mp hb';have hml:m<all.length:=by rw [<- KA.1];exact (A0j.mp hm).1
    obtain ⟨_,it1,r1,⟨o1,ho1,hc1,n1,hd1⟩⟩:=hok _ _ (KA.2 m b all[m] hm (jR hml));cases r1 with
    | cons a1 b1 =>
     obtain ⟨t1,rfl⟩:=a1;exact ⟨o1,_,n1,_,t1,ho1,hc1,hd1,rfl⟩
   have hz':0<fs.length:=by
    rw [hlf,KA.1];lia
   refine kat_kind (T:=Value.type "int") t hz' (fun w hw=>?_) (by rfl) ?_
   ·obtain ⟨k',tk',rfl⟩:=hf w hw;exact fun A Q E s _ q=>A0s q
   ·exact hQ
  ·rw [gD i hi,gD j hj] at hC;exact Z4 hr.units I' (fun a ha'=>⟨sm _ _ (RO.1 a ha').1,(RO.1 a ha').2⟩) KA hi hj (qL RO hi hj hij) hC
  ·have lp:p.toList.length=all.length:=by rw [A1w];exact hP.size
   have hout:(p.toList.map fun i=>(all.map Value.ref).getD i Value.none)=(p.toList.map fun i=>all.getD i 0).map Value.ref:=by
    rw [A0Z];refine A1K fun i hi=>?_;obtain ⟨m,hm,rfl⟩:=A1S.mp hi;obtain ⟨g1,g2⟩:=Fw hP hm;rw [g1]
    show (0x2A).getD (pat p m) Value.none=Value.ref (all.getD (pat p m) 0)
    rw [qJ all _ g2,gD _ g2]
   rw [hout] at hS;refine ⟨_,rfl,A0s ⟨_,rfl,.ref (s2.heap.objs.size+1),_,I'.track (o:=.lst ((p.toList.map fun i=>all.getD i 0).map V.ref)) fa' ⟨by rw [cg,cg,lp,A1G];lia,_,e,L2.wQ _,hS⟩,rfl,?_⟩⟩;refine q _ (p.toList.map fun i=>all.getD i 0) _ (fun b o hb'=>?_) hD ao (Uv hP rfl) ?_
   ·rw [aj (aq (sm _ _ hb') fa'.1)];exact sm _ _ hb'
   ·unfold zM;rw [A1q];intro i j hi hj hij;rw [cg] at hi hj;simp only [A4q];obtain ⟨g1,g2⟩:=Fw hP hi;obtain ⟨g3,g4⟩:=Fw hP hj;rw [g1,g3];exact hU i j hij 0x3
end
theorem Qo:aP ["rows"] ["rows"] (aH yR):=0x0
theorem Ku (F:fu K "judged_order" "judged_order" yR f fd) (ms:mg "sorted"=none)  (G1:aL P w K mg base bO 1 g1 d1 ["row"] sJ) (M1:Ms K mg "place_in_order" g1 d1 ["row"]):aL P w K mg base bO 4 f fd ["rows"] (uO K):=by
 refine F.ok Qo 0x1 0x2;obtain ⟨l,rfl,h⟩:=h;refine ⟨_,aG (aV (Ql rfl ms (ak (pv 0) aC) rfl M1.m G1 hr M1.b)),?_⟩;exact ⟨_,rfl,l,rfl,h⟩
end M
namespace L2
open PySem PySem.Spec PyProof.Rows PySem.W
def idxV (n:Nat) (lo hi st:Option Int):List Nat:=sliceRange (sliceBounds lo hi st n).1 (sliceBounds lo hi st n).2.1 (sliceBounds lo hi st n).2.2
def nq (xs:List V) (lo hi st:Option Int):List V:=(idxV xs.length lo hi st).filterMap (xs[·]?)
theorem qM (r:Vals xs us):∀ ix:List Nat,Vals (ix.filterMap (xs[·]?)) (ix.filterMap (us[·]?))
 | []=>.nil
 | i::ix=>by
  rw [A1J,A1J];cases e:xs[i]? with
  | none=>rw [r.none_of e];exact qM r ix
  | some x =>
   obtain ⟨u,eu,ru⟩:=r.get e;rw [eu];exact .cons ru (qM r ix)
inductive rSl3 (K:W.Frag) (x:V) (lo hi st:Option Int) (H:Hp) (Q:VK):Prop
 | mk (a:Addr) (xs:List V) (_:x=.ref a) (_:bR K H a xs) (_:st≠some 0) (_:(nq xs lo hi st).length<=1000) (_:∀ p,H p=none->Q (.ref p) (upd H p (.lst (nq xs lo hi st)))):rSl3 K x lo hi st H Q
def tSl3 (K:PySem.W.Frag) (te:TE) (tl th ts:TO):TE:=fun σ H Q=>te σ H fun x H1=>tl σ H1 fun l H2=>th σ H2 fun u H3=>ts σ H3 fun o H4=>rSl3 K x l u o H4 Q
theorem nJ {lo hi:Option Expr}{st:Expr}{tl th ts:TO}{p2:Pos} (he:PE X e te) (hl:PO X lo tl) (hu:PO X hi th) (ht:PO X (some st) ts):PE X (.Subscript e (.Slice lo hi (some st) p2) pos) (tSl3 X.K te tl th ts):=by
 intro pins s σ H Q I h;refine Subscript_ (cN (he pins s σ H _ I h) fun v s1 zq=>?_);obtain ⟨x,H1,I1,r1,q1⟩:=zq;refine wpAny_Slice (cN (hl pins s1 σ H1 _ I1 q1) fun vl s2 ⟨l,H2,I2,pl,q2⟩=>cN (hu pins s2 σ H2 _ I2 q2) fun vu s3 ⟨u,H3,I3,pu,q3⟩=>cN (ht pins s3 σ H3 _ I3 q3) fun vs s4 zq=>?_);obtain ⟨o,H4,I4,po,q4⟩:=zq;obtain ⟨a,xs,rfl,hx,h0,hz,q⟩:=q4;cases r1;have I5:Inv X pins σ H4 { s4 with heap:=s4.heap.push { cls:=.type "slice",data:=.fields #[vl,vu,vs] } }:=I4.kept (t':=s4.toks) fun b ob q=>A0c _ q;obtain ⟨its,r,pl',hz'⟩:=I5.list hx;have hlen:=r.length
 show wpAny 0x9 X.A (subscriptTail e (.Slice lo hi (some st) p2) (.ref a) (.ref s4.heap.objs.size)) (EP X pins σ Q) X.xe { s4 with heap:=s4.heap.push { cls:=.type "slice",data:=.fields #[vl,vu,vs] } }
 refine tail_any (ops:=[.ref a,.ref s4.heap.objs.size]) pl'.isList.typeIs A4d.lookup ?_ 0xE;refine wpAny_getItem_list_slice pl'.isList (Heap.IsSliceOf.new ..) pl pu po h0 ?_ (by rw [A0u] <;> lia);have e:slicePick its.toArray l u o=(((idxV xs.length l u o).filterMap (its[·]?))).toArray:=by
  unfold slicePick idxV;rw [A0u,<- hlen];simp
 rw [e];refine ⟨.ref _,_,I5.laid (t':=s4.toks) (o:=.lst (nq xs l u o)) (fun b ob q=>A0c _ q) (A0h _) ?_,rfl,q _ (I5.hok.fresh (A0h _))⟩;exact ⟨A0M hz (by rw [A1G];decide),_,0,qM r _,A0y _ rfl⟩
inductive J9 (K:W.Frag) (x y:V) (H:Hp) (Q:VK):Prop
 | mk (p l:Addr) (as:List Addr) (r:List V) (rows:List (List V)) (_:x=.ref p) (_:y=.ref l) (_:bR K H l (as.map V.ref)) (_:H p=some (.tup r)) (_:r.all gR=true) (_:iI H as rows) (_:(∀ q∈rows,q.all gR=true)) (_:Q (.bl (!rows.any fun q=>decide (q=r))) H):J9 K x y H Q
theorem Kv (hu:X.A.units+64<cLine):mq X (compareOp .NotIn) (J9 X.K):=by
 intro pins s σ H x y v u Q I rx ry h;obtain ⟨p,l,as,r,rows,rfl,rfl,hq,hp,hr,hR,hrs,q⟩:=h;cases rx;cases ry;obtain ⟨its,rv,pl,hz⟩:=I.list hq;have Z5:=yQ rv;subst Z5;have read:∀ (a:Addr) (z:List V),H a=some (.tup z)->z.all gR=true->∃ bs,Reads s.heap (.ref a) (.tuple (z.map fU)) bs:=fun a z ha hz=>cM.reads I (.tup ha (jg z hz)) rfl;refine SeqAt.notIn_listAt (fun u=>match u with | .ref a=>(match H a with | some (.tup q)=>decide (q=r) | _=>false) | _=>false) pl.isList (fun w hw=>?_) ⟨.bl _,H,I,rfl,?_⟩
 ·have hw':w∈as.map Value.ref:=by simpa using hw
  obtain ⟨a,ha,rfl⟩:=A0e.mp hw';obtain ⟨z,hz1,hz2⟩:=uL hR a ha;obtain ⟨bs,rb⟩:=read a z hz2 (hrs z hz1);obtain ⟨cs,rc⟩:=read p r hp hr;have g:=A4r (.tuple (z.map fU)) (.tuple (r.map fU)) X.A.in1 s _ _ bs cs rb rc (iH z (hrs z hz1)) (iH r hr) (by
   have h1:=kY z;have h2:PyData.depth (.tuple (z.map fU))<=3:=by show PyData.depthAll (z.map fU)+1<=3;lia
   have h3:X.A.in1.units<=X.A.units+32:=by show X.A.units+1<=X.A.units+32;lia
   lia)
  have e:PyData.eqv (.tuple (z.map fU)) (.tuple (r.map fU))=decide (z=r):=jH z r (hrs z hz1) hr;rw [e] at g
  show SeqAt.EqAt _ _ _ _ (match H a with | some (.tup q)=>decide (q=r) | _=>false)
  rw [hz2];exact g
 ·have e:=any_rows (r:=r) hR;have e2:((as.map Value.ref).toArray.any fun u=>match u with | .ref a=>(match H a with | some (.tup q)=>decide (q=r) | _=>false) | _=>false)=rows.any fun q=>decide (q=r):=by
   (rw [<- e,List.any_toArray]) <;> rfl
  rw [e2];exact q
end L2
namespace M
open PySem PySem.Spec PyProof.Rows PySem.W PySem.Calls L2
theorem Qp {k k':Str}{d':Int}{rest rest':List V}:eN (.str k::.int d::rest) (.str k'::.int d'::rest')=if d≠d' then decide (d<d') else if cW k≠cW k' then decide (cW k<cW k') else lU (.str k::.int d::rest) (.str k'::.int d'::rest'):=rfl
inductive yW (vs:List V) (H:Hp) (Q:VK) (cB:XK):Prop
 | mk (p q:Addr) (r s:List V) (_:vs=[.ref p,.ref q]) (_:H p=some (.tup r)) (_:H q=some (.tup s)) (_:fZ r) (_:fZ s) (_:r≠s) (_:∀ H',Same H H'->Q (.bl (eN r s)) H'):yW vs H Q cB
theorem Ja:aP ["_law_one", "_law_other", "_law_kinds_here"] A5h (aH Fp):=0x0
theorem Qq (F:fu K "_law_ahead" "_law_ahead" Fp f fd)  (G1:aL P w K mg base bO 1 g1 d1 [] J8) (M1:Ms K mg "_law_kinds" g1 d1 []):aL P w K mg base bO 2 f fd A5h yW:=by
 refine F.ok Ja 0x1 0x2;obtain ⟨p,q,r,s',rfl,hp,hq,hr',hs',hne,kk⟩:=h;have hir:=hr';have his:=hs';obtain ⟨k,d,rest,l,R⟩:=hr';obtain ⟨k',d',rest',l',S⟩:=hs';have e1:=R.e;have e2:=S.e;subst e1 e2;refine ⟨_,au (bK (aQ oU (aN bA (pv 0) aA 0x4) 0x19 (bB _))
   (aG (aV (gK tK (aN bA (pv 0) aA 0x4) 0x19 (bB _)))) aR)
  (au (aY (i:=2) Ja.nd rfl 0x8 (Mh G1 hr rfl M1.m M1.k M1.b .nil bC))
  (au (bK (aQ oU (aN bA (pv 0) aA 0x4) 0x19 (bB _))
   (aG (aV (gK tK (iR A0H A2I A3l qK (pv 2) (ak (aN bA (pv 0) aA 0x4) aC)) (iR A0H A2I A3l qK (pv 2) (ak 0x19 aC)) (bB _)))) aR)
  (aG (aV (gK (Z1 hr.units) (pv 0) 0x10 (bB _)))))),?_⟩
 have S5:=fun H' s=>by have g:=kk H' s;rw [Qp] at g;exact g
 refine ⟨_,rfl,p,_,_,_,rfl,rfl,bZ.of hp,aJ (j:=1) rfl,_,rfl,q,_,_,_,rfl,rfl,bZ.of hq,aJ (j:=1) rfl,rfl,_,rfl,?_⟩
 by_cases a:d=d'
 ·subst a;rw [A0g rfl];refine cA ?_;refine ⟨rfl,fun z hz=>?_⟩;have ek:Qg=cJ.map V.str:=rfl;rw [ek]
  apply 0o1 H z hz s1 z1 H1
  have hp1:=s1 _ _ hp;have hq1:=s1 _ _ hq;refine ⟨_,rfl,p,_,_,_,rfl,rfl,bZ.of hp1,aJ (j:=0) rfl,_,rfl,q,_,_,_,rfl,rfl,bZ.of hq1,aJ (j:=0) rfl,rfl,_,rfl,?_⟩;have g:=S5 H1 s1;rw [A0f (show ¬ (d≠d) from fun z=>z rfl)] at g
  by_cases c:k=k'
  ·subst c;rw [A0g rfl];refine cA ?_;rw [A0f (show ¬ (cW k≠cW k) from fun z=>z rfl)] at g
   exact ⟨_,rfl,_,rfl,p,q,_,_,rfl,rfl,hp1,hq1,R.flat,S.flat,hir.same his rfl,hne,g⟩
  ·rw [A0n (fun z=>c (by injection z))];refine dU ?_;have ci:cW k≠cW k':=fun z=>c (BZ (lK R.f) (lK S.f) z);rw [A0i ci] at g;obtain ⟨i1,i2,i3⟩:=yV (lK R.f);obtain ⟨j1,j2,j3⟩:=yV (lK S.f);refine ⟨_,rfl,.inl ⟨rfl,_,bR.of z1⟩,_,rfl,p,_,_,_,rfl,rfl,bZ.of hp1,aJ (j:=0) rfl,z,cJ,k,cW k,rfl,rfl,bR.of z1,i1,i2,by lia,?_⟩;refine ⟨_,rfl,.inl ⟨rfl,_,bR.of z1⟩,_,rfl,q,_,_,_,rfl,rfl,bZ.of hq1,aJ (j:=0) rfl,z,cJ,k',cW k',rfl,rfl,bR.of z1,j1,j2,by lia,?_⟩;refine ⟨_,_,rfl,rfl,?_⟩;have e:decide (((cW k:Nat):Int)<((cW k':Nat):Int))=decide (cW k<cW k'):=by rw [A1g];simp
   dsimp only;rw [e];exact g
 ·rw [A0n (fun z=>a (by injection z))];refine dU ?_;refine ⟨_,rfl,p,_,_,_,rfl,rfl,bZ.of hp,aJ (j:=1) rfl,_,rfl,q,_,_,_,rfl,rfl,bZ.of hq,aJ (j:=1) rfl,_,_,rfl,rfl,?_⟩;have g:=S5 H (Same.refl _);rw [A0i a] at g;exact g
inductive uP (K:W.Frag) (vs:List V) (H:Hp) (Q:VK) (cB:XK):Prop
 | mk (l:Addr) (_:vs=[.ref l]) (_:Cd K l H Q):uP K vs H Q cB
theorem Fx {out:List Addr}{p:Addr} (h:zM dat out) (hrow:∀ a∈p::out,fZ (dat a)) (hne:∀ a∈out,dat a≠dat p) (hj:j<=out.length) (hlo:∀ m (hm:m<out.length),m<j->eN (dat out[m]) (dat p)=true)
  (hhi:∀ (hj':j<out.length),eN (dat out[j]) (dat p)=false):zM dat (out.take j++p::out.drop j):=by
 unfold zM at h ⊢;rw [A2w];have hp:fZ (dat p):=hrow p A0o;have cO:∀ a∈out,fZ (dat a):=fun a ha=>hrow a (jT _ ha);have lo:∀ a∈out.take j,eN (dat a) (dat p)=true:=fun a ha=>by
  obtain ⟨m,hm,rfl⟩:=A1S.mp ha;rw [A0G] at hm;rw [A4i];exact hlo m 0x3 0x3
 have hi:∀ b∈out.drop j,eN (dat p) (dat b)=true:=fun b hb=>by
  obtain ⟨m,hm,rfl⟩:=A1S.mp hb;rw [A1t] at hm;rw [List.getElem_drop];have hj':j<out.length:=by lia
  have first:=rB (cO _ (A0R hj')) hp (hne _ (A0R hj')) (hhi hj')
  by_cases hm0:m=0
  ·subst hm0;exact first
  ·have pw:=A1q.mp h j (j+m) hj' 0x3 0x3;exact jJ hp (cO _ (A0R hj')) (cO _ (A0R _)) first pw
 refine ⟨h.sublist (List.take_sublist _ _),A4c.mpr ⟨hi,h.sublist (List.drop_sublist _ _)⟩,fun a ha b hb=>?_⟩;rcases A0d.mp hb with rfl | hb
 ·exact lo a ha
 ·exact jJ (cO a (A2b ha)) hp (cO b (A2S hb)) (lo a ha) (hi b hb)
theorem nu:aP ["_law_rows_here", "_law_found", "_law_row_here", "_law_at"] ["_law_rows_here"] (aH yS):=0x0
theorem Kw (F:fu K "_law_sorted" "_law_sorted" yS f fd) (mn:mg "len"=none)  (G1:aL P w K mg base bO 2 g1 d1 A5h yW) (M1:Ms K mg "_law_ahead" g1 d1 A5h):aL P w K mg base bO 3 f fd ["_law_rows_here"] (uP K):=by
 refine F.ok nu 0x1 0x2;obtain ⟨l,rfl,all,dat,hq,h64,RO,q⟩:=h;refine ⟨_,au (aY (i:=1) nu.nd rfl 0x8 (cU aC))
  (au (fM A0N rfl (cX (pv 0)) (bf (i:=2) nu.nd rfl 0x8)
   (au (aY (i:=3) nu.nd rfl 0x8 aA)
   (au (tD A0N (PW.pt (lZ (aQ tK (pv 3) (bG cI rfl mn A1m 0x26) (bB _)) (jC (dZ (bJ G1 hr rfl M1.m M1.k M1.b .nil bC (ak (aN bD 0x10 (pv 3) 0x4) (ak (pv 2) aC)))))))
    (aG (aY (i:=3) nu.nd rfl 0x8 (aX cY (pv 3) aA))))
   (aG (bV (iR A0H PySem.F.slot_list_insert PySem.F.type_list_insert Kq 0x10 (ak (pv 3) (ak (pv 2) aC))))))))
  (aG (aV 0x10))),?_⟩
 refine ⟨small 0xA,fun D hD=>?_⟩;have s1:=aO hD (.lst []);refine ⟨_,rfl,l,rfl,⟨_,s1.seq hq⟩,?_⟩;refine dX (K:=K) (a:=l) (xs:=all.map V.ref) (fun i σ Hx=>∃ (u2 u3:Option V) (out:List Addr),σ=[some (.ref l),some (.ref D),u2,u3]/\Same H Hx/\Hx D=some (.lst (out.map V.ref))/\out.Perm (all.take i)/\zM dat out) ⟨none,none,[],rfl,s1,ao,by simp,List.Pairwise.nil⟩
  (fun i σ Hx _ h=>by obtain ⟨_,_,_,_,sx,_⟩:=h;exact sx.seq hq) ?_ ?_
 ·rintro i v σ Hx hv ⟨u2,u3,out,rfl,sx,dx,hp,hu⟩;rw [jQ] at hv;obtain ⟨p,hpi,rfl⟩:=A0t.mp hv;have hil:i<all.length:=(A0j.mp hpi).1;have epi:all[i]=p:=(A0j.mp hpi).2;have mem:∀ a∈out,a∈all:=fun a ha=>A2b (hp.mem_iff.mp ha);have Z6:p∈all:=vm hpi;have lo:out.length<=64:=by rw [hp.length_eq,A0G];lia
  have ne:∀ a∈out,dat a≠dat p:=fun a ha=>by
   obtain ⟨m,hm,rfl⟩:=A1S.mp (hp.mem_iff.mp ha);rw [A0G] at hm;rw [A4i,<- epi];exact qL RO 0x3 hil 0x3
  refine ⟨fun m σ Hy=>∃ j:Nat,m=out.length - j/\j<=out.length/\σ=[some (.ref l),some (.ref D),some (.ref p),some (.int ((j:Nat):Int))]/\Same H Hy/\Hy D=some (.lst (out.map V.ref))/\∀ m (hm:m<out.length),m<j->eN (dat out[m]) (dat p)=true,⟨_,0,rfl,A1f _,rfl,sx,dx,fun m _ h=>absurd h (A4y _)⟩,?_⟩;rintro m σ Hy ⟨j,rfl,hj,rfl,sy,dy,hlo⟩;have fin:∀ Hz,Same H Hz->Hz D=some (.lst (out.map V.ref))->(∀ (hj':j<out.length),eN (dat out[j]) (dat p)=false)->∃ (u2 u3:Option V) (out':List Addr),[some (V.ref l),some (.ref D),some (.ref p),some (.int ((j:Nat):Int))]=[some (V.ref l),some (.ref D),u2,u3]/\Same H (upd Hz D (.lst ((out.map V.ref).take j++V.ref p::(out.map V.ref).drop j)))/\(upd Hz D (.lst ((out.map V.ref).take j++V.ref p::(out.map V.ref).drop j))) D=some (.lst (out'.map V.ref))/\out'.Perm (all.take (i+1))/\zM dat out':=fun Hz sz dz hhi=>by
   refine ⟨_,_,out.take j++p::out.drop j,rfl,bU sz hD,by rw [ao];simp,?_,Fx hu (fun a ha=>?_) ne hj hlo hhi⟩
   ·rw [A1a,hpi];have h1:(out.take j++p::out.drop j).Perm (p::(out.take j++out.drop j)):=List.perm_middle;rw [A3r] at h1;refine h1.trans ?_;have h2:(all.take i++[p]).Perm (p::all.take i):=by
     have:=List.perm_middle (a:=p) (l₁:=all.take i) (l₂:=[])
     simpa using this
    exact ((List.perm_cons p).mpr hp).trans h2.symm
   ·rcases A0d.mp ha with rfl | ha
    ·exact (RO.1 _ Z6).2
    ·exact (RO.1 _ (mem a ha)).2
  refine ⟨_,rfl,_,rfl,D,_,rfl,.inl (bR.of dy),_,_,rfl,rfl,_,rfl,?_⟩;rw [cg]
  by_cases hjl:j<out.length
  ·rw [A0g (show ((j:Nat):Int)<((out.length:Nat):Int) by lia)]
   refine dU ?_;have hm:=mem _ (A0R hjl);refine ⟨_,rfl,_,rfl,D,_,_,V.ref out[j],rfl,rfl,bR.of dy,aJ (by rw [jQ,jR hjl];rfl),_,rfl,out[j],p,dat out[j],dat p,rfl,sy _ _ (RO.1 _ hm).1,sy _ _ (RO.1 _ Z6).1,(RO.1 _ hm).2,(RO.1 _ Z6).2,ne _ (A0R hjl),fun Hz sz=>⟨_,rfl,?_⟩⟩;have tz:=sy.trans sz;have dz:=sz _ _ dy;cases el:eN (dat out[j]) (dat p) with
   | true =>
    refine ⟨fun σ' H'=>∃ j':Nat,out.length - j'<out.length - j/\j'<=out.length/\σ'=[some (.ref l),some (.ref D),some (.ref p),some (.int ((j':Nat):Int))]/\Same H H'/\H' D=some (.lst (out.map V.ref))/\∀ m (hm:m<out.length),m<j'->eN (dat out[m]) (dat p)=true,fun σ' H' ⟨j',a1,a2,a3,a4,a5,a6⟩=>⟨_,a1,j',rfl,a2,a3,a4,a5,a6⟩,?_⟩;refine ⟨_,rfl,_,_,rfl,rfl,j+1,by lia,by lia,?_,tz,dz,fun m hm hmj=>?_⟩
    ·rfl
    ·by_cases e:m=j
     ·subst e;exact el
     ·exact hlo m hm 0x3
   | false =>
    refine ⟨_,rfl,.inl ⟨rfl,_,bR.of dz⟩,_,rfl,_,rfl,D,_,j,_,rfl,rfl,dz,by rw [cg];exact hj,by rw [cg];lia,?_⟩;exact fin Hz tz dz fun _=>el
  ·rw [A0n (show ¬ ((j:Nat):Int)<((out.length:Nat):Int) by lia)]
   refine cA ?_;refine ⟨_,rfl,.inl ⟨rfl,_,bR.of dy⟩,_,rfl,_,rfl,D,_,j,_,rfl,rfl,dy,by rw [cg];exact hj,by rw [cg];lia,?_⟩;exact fin Hy sy dy fun h=>absurd h hjl
 ·rintro σ Hx ⟨u2,u3,out,rfl,sx,dx,hp,hu⟩;rw [cg,A1c] at hp;exact ⟨_,rfl,q D out Hx sx hD dx hp hu⟩
theorem uQ {α:Type}:∀ (bs pre:List α),(List.range' pre.length bs.length).filterMap (fun i=>(pre++bs)[i]?)=bs
 | [],pre=>rfl
 | x::bs,pre=>by
  rw [vI,List.range'_succ,A1J];have e:(pre++x::bs)[pre.length]?=some x:=by simp
  rw [e];have ih:=uQ bs (pre++[x]);rw [gZ,A0r,A1M] at ih;simp only [A1T,A1O] at ih
  show x::_=x::bs
  rw [ih]
theorem wR {bs:List Addr} (h:ix.Perm (List.range bs.length)):(ix.filterMap (bs[·]?)).Perm bs:=by
 have g:=h.filterMap (bs[·]?);have e:=uQ bs [];simp only [A1O,A4x] at e;rw [List.range_eq_range'] at g;rw [e] at g;exact g
theorem kZ (bs:List Addr):∀ ix:List Nat,ix.filterMap ((bs.map V.ref)[·]?)=(ix.filterMap (bs[·]?)).map V.ref
 | []=>rfl
 | i::ix=>by
  rw [A1J,A1J,jQ];cases bs[i]? with
  | none=>exact kZ bs ix
  | some b=>rw [A0m,<- kZ bs ix];rfl
theorem Z7:∀ n:_root_.Fin 25,(idxV n.val none none (some (-1))).isPerm (List.range n.val)=true:=by decide +kernel
theorem Z8:∀ n:_root_.Fin 25,(idxV n.val (some 1) none (some 2)++idxV n.val none none (some 2)).isPerm (List.range n.val)=true:=by decide +kernel
theorem Qs {bs:List Addr} (h:bs.length<=24):∃ cs:List Addr,nq (bs.map V.ref) none none (some (-1))=cs.map V.ref/\cs.Perm bs:=by
 unfold nq;rw [cg,kZ];exact ⟨_,rfl,wR (List.isPerm_iff.mp (Z7 ⟨bs.length,by lia⟩))⟩
theorem Qt {bs:List Addr} (h:bs.length<=24):∃ cs ds:List Addr,nq (bs.map V.ref) (some 1) none (some 2)=cs.map V.ref/\nq (bs.map V.ref) none none (some 2)=ds.map V.ref/\(cs++ds).Perm bs:=by
 unfold nq;rw [cg,kZ,kZ];refine ⟨_,_,rfl,rfl,?_⟩;rw [<- List.filterMap_append];exact wR (List.isPerm_iff.mp (Z8 ⟨bs.length,by lia⟩))
inductive yX (K:W.Frag) (vs:List V) (H:Hp) (Q:VK) (cB:XK):Prop
 | mk (l:Addr) (n:Int) (all:List Addr) (_:vs=[.ref l,.int n]) (_:vA n) (_:bR K H l 0x2D) (_:all.length<=24) (_:∀ (D:Addr) (out:List Addr) (H':Hp),Same H H'->H' D=some (.lst (out.map V.ref))->out.Perm all->Q (.ref D) H'):yX K vs H Q cB
theorem Qu {all:List Addr} (h:j<=all.length):ig 0x2D (some ((j:Nat):Int)) none=(all.drop j).map V.ref:=by
 unfold ig;have e2:HT.eO (0x2D).length (0x2D).length none=(0x2D).length:=rfl;rw [e2,HT.jD,cg,A2i h,A2K (by rw [A1t,cg];exact A0h _),List.map_drop]
theorem Z9 {all:List Addr} (h:j<=all.length):ig 0x2D none (some ((j:Nat):Int))=(all.take j).map V.ref:=by
 unfold ig;have e1:HT.eO (0x2D).length 0 none=0:=rfl;rw [e1,HT.jD,A4a,Nat.sub_zero,cg,A2i h,List.map_take]
theorem pX:aP ["_law_rows_here", "_law_number", "_law_at", "_law_turned"] A5k (aH Fq):=0x0
theorem Qw (F:fu K "_law_mixed" "_law_mixed" Fq f fd) (mn:mg "len"=none):aL P w K mg base bO 1 f fd A5k (yX K):=by
 refine F.ok pX 0x1 0x2;obtain ⟨l,n,all,rfl,on,hq,h24,q⟩:=h;refine ⟨_,au (aY (i:=2) pX.nd rfl 0x8 (aX bW 0x10 (aX cY (bG cI rfl mn A1m (ak (pv 0) aC)) aA)))
  (au (aY (i:=3) pX.nd rfl 0x8 (aX mO (eV jF (pv 0) (cD (pv 2)) fV) (eV jF (pv 0) fV (cD (pv 2)))))
  (au (bK (aQ cV (aX bW (aX jo 0x10 aA) aA) aA (bB _)) (aG (aY (i:=3) pX.nd rfl 0x8 (nJ (pv 3) fV fV (cD (zX tH aA))))) aR)
  (au (bK (aQ cV (aX bW (aX jo 0x10 aA) aA) aA (bB _)) (aG (aY (i:=3) pX.nd rfl 0x8 (aX mO (nJ (pv 3) (cD aA) fV (cD aA)) (nJ (pv 3) fV fV (cD aA))))) aR)
  (aG (aV (pv 3)))))),?_⟩
 have pos:(0:Int)<((0x2D).length:Int)+1:=by lia
 refine ⟨_,rfl,_,rfl,l,_,rfl,.inl hq,_,_,rfl,rfl,_,_,rfl,rfl,pos,?_⟩;have m0:=A0Q n (A4w pos);have m1:=A0L n pos;rw [cg] at m0 m1 ⊢;obtain ⟨j,hj⟩:∃ j:Nat,n % ((all.length:Int)+1)=((j:Nat):Int):=⟨_,(Int.toNat_of_nonneg m0).symm⟩;have hjl:j<=all.length:=by lia
 dsimp only;rw [hj];refine ⟨_,rfl,_,rfl,_,rfl,l,_,rfl,hq,fun p1 hp1=>?_⟩;rw [Qu hjl]
 apply 0o1 H p1 hp1 s1 k1 H1
 refine ⟨_,rfl,_,rfl,_,rfl,l,_,rfl,s1.seq hq,fun p2 hp2=>?_⟩;rw [Z9 hjl]
 apply 0o1 H1 p2 hp2 s2 k2 H2
 have k12:=s2 _ _ k1;have t2:=s1.trans s2;refine ⟨p1,p2,_,_,rfl,rfl,k12,k2,small (by simp;lia),fun p3 hp3=>?_⟩;rw [<- iZ]
 apply 0o1 H2 p3 hp3 s3 k3 H3
 have t3:=t2.trans s3;have pm:(all.drop j++all.take j).Perm all:=by
  have:=List.perm_append_comm (l₁:=all.drop j) (l₂:=all.take j);rw [A3r] at this;exact this
 have pl:=pm.length_eq;generalize all.drop j++all.take j=bs at k3 pm pl ⊢;have bl:bs.length<=24:=by lia
 refine 0x34
 by_cases c1:n / 7 % 3=1
 ·rw [A0g (show V.int (n / 7 % 3)=V.int 1 by rw [c1])]
  refine dU ?_;obtain ⟨cs,e1,pc⟩:=Qs bl;refine ⟨_,rfl,_,rfl,_,rfl,p3,_,rfl,bR.of k3,by decide,by rw [e1,cg,pc.length_eq];lia,fun p4 Uh=>?_⟩;rw [e1];have s4:=aO Uh (.lst (cs.map V.ref));refine 0x34
  rw [A0n (show ¬ V.int (n / 7 % 3)=V.int 2 by rw [c1];intro z;injection z with z;exact absurd z 0x6)]
  refine cA ?_;exact ⟨_,rfl,q p4 cs _ (t3.trans s4) ao (pc.trans pm)⟩
 ·rw [A0n (show ¬ V.int (n / 7 % 3)=V.int 1 from fun z=>c1 (by injection z))]
  refine cA ?_;refine 0x34
  by_cases c2:n / 7 % 3=2
  ·rw [A0g (show V.int (n / 7 % 3)=V.int 2 by rw [c2])]
   refine dU ?_;obtain ⟨cs,ds,e1,e2,pc⟩:=Qt bl;have ll:=pc.length_eq;rw [gZ] at ll;refine ⟨_,rfl,_,rfl,_,rfl,p3,_,rfl,bR.of k3,by decide,by rw [e1,cg];lia,fun p4 Uh=>?_⟩;rw [e1]
   apply 0o1 H3 p4 Uh s4 k4 H4
   have k34:=s4 _ _ k3;have t4:=t3.trans s4;refine ⟨_,rfl,_,rfl,p3,_,rfl,bR.of k34,by decide,by rw [e2,cg];lia,fun p5 Wn=>?_⟩;rw [e2]
   apply 0o1 H4 p5 Wn s5 k5 H5
   have k45:=s5 _ _ k4;have t5:=t4.trans s5;refine ⟨p4,p5,_,_,rfl,rfl,k45,k5,small (by simp;lia),fun p6 hp6=>?_⟩;rw [<- iZ];exact ⟨_,rfl,q p6 (cs++ds) _ (t5.trans (aO hp6 _)) ao (pc.trans pm)⟩
  ·rw [A0n (show ¬ V.int (n / 7 % 3)=V.int 2 from fun z=>c2 (by injection z))]
   refine cA ?_;exact ⟨_,rfl,q p3 bs _ t3 k3 pm⟩
abbrev yZ:Stmt:=top 46
structure zN where
 d:Int
 g:Addr
 rs:List Addr
def qp (gs:List zN):List 0x30:=gs.map fun x=>(Sum.inl x.d,V.ref x.g)
def Jb (H:Hp) (gs:List zN):Prop:=∀ x∈gs,H x.g=some (.lst (x.rs.map V.ref))
structure Ce (dat:Addr->List V) (gs:List zN) (out:List Addr):Prop where
 cat:(gs.map (·.rs)).flatten=out
 day:∀ x∈gs,∀ a∈x.rs,gU (dat a)=x.d
 up:gs.Pairwise fun x y=>x.d<y.d
 nd:(gs.map (·.g)).Nodup
 ne:∀ x∈gs,x.rs≠[]
theorem wU {r s:List V} (h:eN r s=true):gU r<=gU s:=by
 unfold eN at h
 by_cases e:gU r=gU s
 ·lia
 ·rw [A0i e] at h;exact Int.le_of_lt (nU h)
theorem Ce.Qx {gs:List zN}{x:zN}{o:List Addr}{p:Addr} (h:Ce dat (gs++[x]) o) (e:gU (dat p)=x.d):Ce dat (gs++[⟨x.d,x.g,x.rs++[p]⟩]) (o++[p]):=by
 have hc:=h.cat;refine ⟨?_,fun y hy a ha=>?_,?_,?_,fun y hy=>?_⟩
 ·rw [iZ,A2z] at hc ⊢;rw [<- hc];simp
 ·rcases A0l.mp hy with c | c
  ·exact h.day y (A0U _ c) a ha
  ·rw [A0b.mp c] at ha ⊢;rcases A0l.mp ha with c | c
   ·exact h.day x 0xA a c
   ·rw [A0b.mp c];exact e
 ·have:=h.up;rw [A2w] at this ⊢;exact ⟨this.1,A3k ..,fun a ha b hb=>by rw [A0b.mp hb];exact this.2.2 a ha x 0xA⟩
 ·have:=h.nd;rw [iZ] at this ⊢;exact this
 ·rcases A0l.mp hy with c | c
  ·exact h.ne y (A0U _ c)
  ·rw [A0b.mp c];simp
theorem Ce.Uw {gs:List zN}{o:List Addr}{p g:Addr} (h:Ce dat gs o) (hd:gU (dat p)=d) (lt:∀ x∈gs,x.d<d) (hg:∀ x∈gs,x.g≠g):Ce dat (gs++[⟨d,g,[p]⟩]) (o++[p]):=by
 refine ⟨?_,fun y hy a ha=>?_,?_,?_,fun y hy=>?_⟩
 ·rw [iZ,A2z,h.cat];simp
 ·rcases A0l.mp hy with c | c
  ·exact h.day y c a ha
  ·rw [A0b.mp c] at ha ⊢;rw [A0b.mp ha];exact hd
 ·rw [A2w];exact ⟨h.up,A3k ..,fun a ha b hb=>by rw [A0b.mp hb];exact lt a ha⟩
 ·rw [iZ,A2v];refine ⟨h.nd,by simp,fun a ha b hb=>?_⟩;obtain ⟨x,hx,rfl⟩:=A0e.mp ha;simp at hb;rw [hb];exact hg x hx
 ·rcases A0l.mp hy with c | c
  ·exact h.ne y c
  ·rw [A0b.mp c];simp
theorem Cg:∀ {gs:List zN}{d:Int},bI (qp gs) (.inl d)=none->∀ x∈gs,x.d≠d
 | [],_,_,x,hx=>nomatch hx
 | y::gs,d,h,x,hx=>by
  by_cases e:y.d=d
  ·unfold qp bI at h;rw [A0m,A1n (by simp [e])] at h;cases h
  ·rcases A0d.mp hx with rfl | c
   ·exact e
   ·refine Cg (gs:=gs) ?_ x c;unfold qp bI at h ⊢;rw [A0m,A1e (by simp;exact e)] at h;exact h
theorem Ci:∀ {gs:List zN}{d:Int}{v:V},bI (qp gs) (.inl d)=some v->∃ x∈gs,x.d=d/\v=.ref x.g
 | [],_,_,h=>by cases h
 | y::gs,d,v,h=>by
  by_cases e:y.d=d
  ·unfold qp bI at h;rw [A0m,A1n (by simp [e])] at h;injection h with h;exact ⟨y,A0o,e,h.symm⟩
  ·obtain ⟨x,hx,h1,h2⟩:=Ci (gs:=gs) (d:=d) (v:=v) (by
    unfold qp bI at h ⊢;rw [A0m,A1e (by simp;exact e)] at h;exact h)
   exact ⟨x,jT _ hx,h1,h2⟩
theorem Ux {gs:List zN}{g:Addr}{rs:List Addr} (h:∀ x∈gs,x.d≠d):putK (qp gs) (.inl d) (.ref g)=qp (gs++[⟨d,g,rs⟩]):=by
 have hf:(qp gs).any (fun kv=>decide (kv.1=(Sum.inl d:Key)))=false:=by
  rw [A3n];intro kv hkv;obtain ⟨a,ha,rfl⟩:=A0e.mp hkv;simp only [A2g];exact fun z=>h a ha (by injection z)
 unfold putK;rw [A0f (by rw [hf];exact A0p)];unfold qp;rw [iZ];rfl
theorem Uy {gs:List zN} (up:gs.Pairwise fun x y=>x.d<y.d) {x:zN} (hx:x∈gs) (le:∀ y∈gs,y.d<=x.d):∃ g0,gs=g0++[x]:=by
 obtain ⟨s,t,rfl⟩:=List.append_of_mem hx;have h2:=(A2w.mp up).2.1;cases t with
 | nil=>exact ⟨s,rfl⟩
 | cons y t =>
  have h3:=(A4c.mp h2).1 y 0xA;have h4:=le y 0xA;lia
inductive uR (K:W.Frag) (vs:List V) (H:Hp) (Q:VK) (cB:XK):Prop
 | mk (l:Addr) (all:List Addr) (dat:Addr->List V) (_:vs=[.ref l]) (_:bR K H l 0x2D) (_:all.length<64) (_:gA H all dat) (_:∀ D gs out H',Same H H'->H D=none->H' D=some (.dK (qp gs))->Jb H' gs->Ce dat gs out->out.Perm all->zM dat out->(∀ x∈gs,H x.g=none)->Q (.ref D) H'):uR K vs H Q cB
theorem uT:aP ["rows", "days", "row"] ["rows"] (aH yZ):=0x0
theorem Ky (F:fu K "by_days" "by_days" yZ f fd)  (G1:aL P w K mg base bO 4 g1 d1 ["rows"] (uO K)) (M1:Ms K mg "judged_order" g1 d1 ["rows"]):aL P w K mg base bO 5 f fd ["rows"] (uR K):=by
 refine F.ok uT 0x1 0x2;obtain ⟨l,all,dat,rfl,hl,h64,RO,q⟩:=h;refine ⟨_,au (aY (i:=1) uT.nd rfl 0x8 je)
  (au (fM A0N rfl (cX (bJ G1 hr rfl M1.m M1.k M1.b .nil bC (ak (pv 0) aC))) (bf (i:=2) uT.nd rfl 0x8)
   (aG (bV (iR A0H A0O A0P cT (Bu 0x10 (aN bA (pv 2) aA 0x4) (cU aC) ⟨rfl,rfl,rfl,rfl⟩) (ak (pv 2) aC)))))
  (aG (aV 0x10))),?_⟩
 intro D hD;have s1:=aO hD (.dK []);refine ⟨_,rfl,l,rfl,all,dat,s1.seq hl,h64,⟨fun a ha=>⟨s1 _ _ (RO.1 a ha).1,(RO.1 a ha).2⟩,RO.2⟩,fun S out H2 s2 hS0 hS hp hu=>⟨S,rfl,⟨_,bR.of hS⟩,?_⟩⟩;have s12:=s1.trans s2;have row:∀ a∈out,H a=some (.tup (dat a))/\fZ (dat a):=fun a ha=>RO.1 a (hp.mem_iff.mp ha);have hol:out.length<64:=by rw [hp.length_eq];exact h64
 have hS1:H S=none:=s1.free hS0;refine dX (K:=K) (a:=S) (xs:=out.map V.ref) (fun i σ Hx=>∃ (u:Option V) (gs:List zN),σ=[some (.ref l),some (.ref D),u]/\Same H Hx/\Hx S=some (.lst (out.map V.ref))/\Hx D=some (.dK (qp gs))/\Jb Hx gs/\Ce dat gs (out.take i)/\(∀ x∈gs,H x.g=none/\x.g≠S)/\gs.length<=i)
  ⟨none,[],rfl,s12,hS,s2 _ _ ao,(fun x hx=>nomatch hx),⟨rfl,(fun x hx=>nomatch hx),.nil,.nil,(fun x hx=>nomatch hx)⟩,(fun x hx=>nomatch hx),A1f _⟩ (fun i σ Hx _ h=>by obtain ⟨_,_,_,_,h,_⟩:=h;exact bR.of h) ?_ ?_
 ·rintro i v σ Hx hv ⟨u,gs,rfl,sx,Ww,sG,GA,GO,fr,hgl⟩;rw [jQ] at hv;obtain ⟨p,hpi,rfl⟩:=A0t.mp hv;have hil:i<out.length:=(A0j.mp hpi).1;have pm:p∈out:=vm hpi;have tk:out.take (i+1)=out.take i++[p]:=by rw [A1a,hpi];rfl
  obtain ⟨hpt,k0,d,rest,lf,RD⟩:=row p pm;have hpx:=sx _ _ hpt;have ed:gU (dat p)=d:=by rw [RD.e];rfl
  have a1:vq (dat p) 1=some (.int d):=aJ (j:=1) (by rw [RD.e];rfl);have le:∀ x∈gs,x.d<=d:=fun x hx=>by
   obtain ⟨a,ha⟩:=List.exists_mem_of_ne_nil _ (GO.ne x hx);have hm:a∈out.take i:=by rw [<- GO.cat];exact List.mem_flatten.mpr ⟨_,A0e.mpr ⟨x,hx,rfl⟩,ha⟩
   rw [<- GO.day x hx a ha,<- ed];obtain ⟨j,hj,rfl⟩:=A1S.mp hm;rw [A0G] at hj;rw [A4i];have:=A1q.mp hu j i 0x3 hil 0x3;rw [(A0j.mp hpi).2] at this;exact wU this
  have nDS:D≠S:=aM sG Ww 0x5;refine ⟨_,rfl,D,rfl,.inl ⟨_,.inl sG⟩,_,rfl,p,_,_,_,rfl,rfl,bZ.of hpx,a1,small 0xA,fun e he=>?_⟩;have nDe:D≠e:=aq sG he;have nSe:S≠e:=aq Ww he;have se:=aO he (.lst []);refine ⟨qp gs,.inl d,by rw [aj nDe];exact sG,rfl,bQ (by rw [show (qp gs).length=gs.length from cg ..];lia),fun v hv=>?_,fun hn=>?_⟩
  ·obtain ⟨x,hx,hxd,rfl⟩:=Ci hv;obtain ⟨g0,rfl⟩:=Uy GO.up hx (fun y hy=>by rw [hxd];exact le y hy);have gx:=se _ _ (GA x hx);have nxD:x.g≠D:=aM gx (by rw [aj nDe];exact sG) 0x5;have hdn:=GO.nd;rw [iZ,A2v] at hdn;have hln:x.rs.length<1000:=by
    have h1:((g0++[x]).map (·.rs)).flatten.length<=i:=by rw [GO.cat,A0G];lia
    rw [iZ,A2z,gZ] at h1;simp at h1;lia
   refine ⟨.inl ⟨rfl,_,bR.of gx⟩,_,rfl,x.g,_,_,rfl,rfl,gx,bQ (by rw [cg];lia),?_⟩;refine ⟨_,g0++[⟨x.d,x.g,x.rs++[p]⟩],rfl,?_,?_,?_,fun y hy=>?_,by rw [tk];exact GO.Qx (ed.trans hxd.symm),fun y hy=>?_,?_⟩
   ·exact fun c o hc=>by rw [aj (aq hc (fr x hx).1)];exact se _ _ (sx _ _ hc)
   ·rw [aj (A0k (fr x hx).2)];exact se _ _ Ww
   ·rw [aj (A0k nxD),aj nDe,sG];unfold qp;rw [iZ,iZ];rfl
   ·rcases A0l.mp hy with c | c
    ·have nyx:y.g≠x.g:=hdn.2.2 _ (A0e.mpr ⟨y,c,rfl⟩) _ 0xA;rw [aj nyx];exact se _ _ (GA y (A0U _ c))
    ·rw [A0b.mp c,ao,iZ];rfl
   ·rcases A0l.mp hy with c | c
    ·exact fr y (A0U _ c)
    ·rw [A0b.mp c];exact fr x hx
   ·rw [gZ] at hgl ⊢;simp at hgl ⊢;lia
  ·have hne:=Cg hn;have he0:H e=none:=sx.free he;have neD:e≠D:=A0k nDe;have gx:(upd (upd Hx e (.lst [])) D (.dK (putK (qp gs) (.inl d) (.ref e)))) e=some (.lst []):=by rw [aj neD,ao]
   refine ⟨.inl ⟨rfl,_,bR.of gx⟩,_,rfl,e,_,_,rfl,rfl,gx,bQ 0x6,?_⟩;refine ⟨_,gs++[⟨d,e,[p]⟩],rfl,?_,?_,?_,fun y hy=>?_,by rw [tk];exact GO.Uw ed (fun x hx=>by have:=le x hx;have:=hne x hx;lia) (fun x hx=>aq (GA x hx) he),fun y hy=>?_,?_⟩
   ·exact fun c o hc=>by rw [aj (aq hc he0),aj (aq hc hD),aj (aq hc he0)];exact sx _ _ hc
   ·rw [aj nSe,aj (A0k nDS),aj nSe];exact Ww
   ·rw [aj nDe,ao,Ux hne]
   ·rcases A0l.mp hy with c | c
    ·have n1:y.g≠e:=aq (GA y c) he;have n2:y.g≠D:=aM (GA y c) sG 0x5;rw [aj n1,aj n2,aj n1];exact GA y c
    ·rw [A0b.mp c,ao];rfl
   ·rcases A0l.mp hy with c | c
    ·exact fr y c
    ·rw [A0b.mp c];exact ⟨he0,A0k nSe⟩
   ·rw [gZ];simp;lia
 ·rintro σ Hx ⟨u,gs,rfl,sx,Ww,sG,GA,GO,fr,_⟩;rw [cg,A1c] at GO;exact ⟨_,rfl,q D gs out Hx sx hD sG GA GO hp hu fun x hx=>(fr x hx).1⟩
end M
namespace L2
open PySem PySem.Spec PyProof.Rows
inductive Wx (Q:VK) (v:V) (H1:Hp):Prop
 | mk (a:Addr) (kvs:List 0x22) (_:v=.ref a) (_:H1 a=some 0x13) (_:∀ o,Q v (upd H1 a (.iQ o 0x13))):Wx Q v H1
def tFz (t:TE):TE:=fun σ H Q=>t σ H fun v H1=>Wx Q v H1
theorem a0Z {t:TE} (he:PE X e t):PE X e (tFz t):=by
 intro pins s σ H Q I h;refine A1p (he pins s σ H _ I h) (fun v s' hq=>?_) fun _ _ y=>y;obtain ⟨x,H',I',r,a,kvs,rfl,ea,q⟩:=hq;obtain ⟨o,I1,n⟩:=I'.freeze ea;exact ⟨_,_,I1,r,q o⟩
theorem Kz {o:Obj}{D:Ends} (Pv:Nat->St->Hp->Prop) (h0:Pv 0 σ H) (hl:∀ i σ H,i<=kvs.length->Pv i σ H->H a=some (.iQ o 0x13))
  (hb:∀ i kv σ H p,kvs[i]?=some kv->Pv i σ H->H p=none->g (.ref p) σ (upd H p (.tup [kV kv.1,kv.2])) fun σ2 H2=>tb { D with nx:=Pv (i+1),ct:=Pv (i+1),bk:=D.nx } σ2 H2)
  (he:∀ σ H,Pv kvs.length σ H->D.nx σ H):∃ W:Nat->Nat->St->Hp->Prop,(∃ m,W 0 m σ H)/\∀ i m σ H,W i m σ H ->
   ((W8 a o kvs).stop i H/\D.nx σ H)\/((W8 a o kvs).go i H/\∃ N:St->Hp->Prop,(∀ σ' H',N σ' H'->∃ m',m'<m/\W (i+1) m' σ' H')/\∀ x H',(W8 a o kvs).Jr i H x H'->g x σ H' fun σ2 H2=>tb { D with nx:=N,ct:=N,bk:=D.nx } σ2 H2):=by
 refine ⟨fun i m σ H=>i+m=kvs.length/\Pv i σ H,⟨kvs.length,by lia,h0⟩,?_⟩;rintro i m σ H ⟨hm,hP⟩;have hf:=hl i σ H 0x3 hP
 by_cases hi:i<kvs.length
 ·refine .inr ⟨⟨hf,hi⟩,Pv (i+1),fun σ' H' h=>⟨m - 1,by lia,by lia,h⟩,?_⟩;rintro x H' ⟨p,kv,hkv,rfl,hp,rfl⟩;exact hb i kv σ H p hkv hP hp
 ·have e:i=kvs.length:=by lia
  subst e;exact .inl ⟨⟨hf,A0h _⟩,he σ H hP⟩
end L2
namespace M
open PySem L2 PyProof.Rows
abbrev z7:Stmt:=inClass (top 44) 1
structure lM (K:PySem.W.Frag) (CC:Addr):Prop where
 cl:Cls K CC
 n1:dN K CC "many_acres"
 n2:dN K CC "coins"
 n3:dN K CC "realm"
 n4:dN K CC "judged"
 n5:dN K CC "lands"
abbrev Cj (n b:Int) (z jl ll:Addr):List (Str×V):=[("many_acres",.int n),("coins",.int b),("realm",.ref z),("judged",.ref jl),("lands",.ref ll)]
theorem uU {H:Hp}{f:aU->V}{g:aU->PyData}:∀ {es:List aU},(∀ e∈es,cM H (f e) (g e)/\(g e).canLay0=true/\(g e).depth<=8)->vD H (kv f es) (kd g es)
 | [],_=>.nil
 | y::es,h=>.cons ⟨rfl,h y A0o⟩ (uU (es:=es) fun e he=>h e (jT _ he))
theorem Qy {es:List aU} (W:WF es):vD H (lG es) (loD es):=uU fun e he=>by
 by_cases hn:e.n=""
 ·obtain ⟨c,r,rfl,hc,hl,_⟩:=W.hd;have:e=c:=gM W.nd he A0o (hn.trans hc.symm);rw [this,hl];exact ⟨.non,rfl,by decide⟩
 ·obtain ⟨p,hp,hm,_⟩:=W.lord e he hn;obtain ⟨z,hz,rfl⟩:=fP hm;rw [hp];exact ⟨.str _,W.ok z hz,by show PyData.depth (.str _)<=8;exact A1d rfl⟩
theorem Qz {es:List aU} (M:Mn es):vD H (hoL es) (hoD es):=uU fun e he=>⟨.str _,M e he,A1d rfl⟩
theorem QB {es:List aU}:vD H (lX es) (owD es):=uU fun e he=>⟨.int _,rfl,A1d rfl⟩
theorem QC {es:List aU} (fr:∀ e∈es,jB H e.ta e.due.1 e.due.2):vD H (U3 es) (seD es):=uU fun e he=>⟨.tup (fr e he) (.cons (.int _) (.cons (.int _) .nil)),rfl,A1d rfl⟩
structure Kept (C:Addr) (H:Hp) (qk:Ad) (ek:List aU) (kk ks:List Str):Prop where
 L:Ln C qk H ek
 fr:∀ e∈ek,jB H e.ta e.due.1 e.due.2
 W:WF ek
 M:Mn ek
 o:rH ek kk
 pre:kk <+: ks
theorem Kept.same {qk:Ad}{ek:List aU}{kk:List Str} (a:Kept C H qk ek kk ks) (s:Same H H'):Kept C H' qk ek kk ks:=⟨a.L.same s,fun e he=>s _ _ (a.fr e he),a.W,a.M,a.o,a.pre⟩
theorem Kept.store {qk:Ad}{ek:List aU}{kk:List Str}{fs:List (Str×V)} (a:Kept C H qk ek kk ks) (hc:H c=some (.ins CC dc fs)) (hx:qk.x≠c):Kept C (upd H c (.ins CC dc fs')) qk ek kk ks :=
 ⟨⟨by rw [aj hx];exact a.L.o,by rw [aj (aM a.L.l1 hc 0x5)];exact a.L.l1,by rw [aj (aM a.L.l2 hc 0x5)];exact a.L.l2,by rw [aj (aM a.L.l3 hc 0x5)];exact a.L.l3,by rw [aj (aM a.L.l4 hc 0x5)];exact a.L.l4,by rw [aj (aM a.L.l5 hc 0x5)];exact a.L.l5⟩,
  fun e he=>by have h:=a.fr e he;unfold jB at h ⊢;rw [aj (aM h hc 0x5)];exact h,a.W,a.M,a.o,a.pre⟩
theorem Kept.lst {qk:Ad}{ek:List aU}{kk:List Str}{xs':List V} (a:Kept C H qk ek kk ks) (hc:H c=some (.lst xs)):Kept C (upd H c (.lst xs')) qk ek kk ks :=
 ⟨⟨by rw [aj (aM a.L.o hc 0x5)];exact a.L.o,by rw [aj (aM a.L.l1 hc 0x5)];exact a.L.l1,by rw [aj (aM a.L.l2 hc 0x5)];exact a.L.l2,by rw [aj (aM a.L.l3 hc 0x5)];exact a.L.l3,by rw [aj (aM a.L.l4 hc 0x5)];exact a.L.l4,by rw [aj (aM a.L.l5 hc 0x5)];exact a.L.l5⟩,
  fun e he=>by have h:=a.fr e he;unfold jB at h ⊢;rw [aj (aM h hc 0x5)];exact h,a.W,a.M,a.o,a.pre⟩
theorem Uz {h l:Int}{A:Prop} (h1:h=l->A) (h2:h≠l->B):if decide (V.int h=V.int l)=true then A else B:=by
 refine iy (fun c=>h1 ?_) fun c=>h2 fun z=>c (A0g (by rw [z]));have:=nU c;injection this
structure Jc (C:Addr) (H:Hp) (ll:Addr) (lN:List Addr) (qk:Ad):Prop where
 l:H ll=some (.lst (lN.map V.ref))
 all:∀ a∈lN,∃ (d:Int) (x:Addr),H a=some (.tup [.int d,.ref x])/\d<=9999
 last:∃ l0 t,∃ d:Int,lN=l0++[t]/\H t=some (.tup [.int d,.ref qk.x])
def Fk (H:Hp) (qk:Ad):Prop:=H qk.x=none/\∀ a∈[qk.a1,qk.a2,qk.a3,qk.a4,qk.a5],H a=none
inductive uV (CC CR CK C:Addr) (vs:List V) (H:Hp) (Q:VK) (cB:XK):Prop
 | mk (c dc jl ll:Addr) (m:Rm) (q:Ad) (W:M.Wo) (qk:Ad) (ek:List aU) (kk:List Str) (lN:List Addr) (n b d:Int) (_:vs=[.ref c,.int d]) (_:H c=some 0x37) (_:cL CR CK C H m q W) (_:WF W.es) (_:Mn W.es) (_:rH W.es W.ks) (_:(∀ e∈W.es,jB H e.ta e.due.1 e.due.2)) (_:bI (RZ W.es) (.inr "")=some (.int n)) (_:1<=n) (_:n<=9999) (_:d<=9999) (_:Jc C H ll lN qk) (_:Kept C H qk ek kk W.ks) (_:lN.length<=1000) (_:∀ Fy Ck wV ek' S5 H',(∀ a u,a≠c->a≠ll->H a=some u->H' a=some u)->H' c=some (.ins CC dc (Cj n b m.z jl Fy))->Jc C H' Fy Ck wV->Kept C H' wV ek' S5 W.ks->ek'.map core=W.es.map core->Ck.length<=lN.length+1->(Fy=ll\/H Fy=none)->(wV=qk\/Fk H wV)->Q .non H'):uV CC CR CK C vs H Q cB
section
variable {CR:Addr}
theorem Cm:aP ["self", "day", "ground"] ["self", "day"] (aH z7):=0x0
theorem KC (l0:List Addr) (t:Addr):vq ((l0++[t]).map V.ref) (-1)=some (.ref t):=by
 rw [iZ];exact Ae _ _
theorem KH (TC:lM K CC) (TR:iW K CR) (T:gq K C) (F:fu K "end_day" "Court.end_day" z7 f fd) 
  (G1:aL P w K mg base bO 5 g1 d1 ["self"] (pU C)) (m1:Meth K C "twin" g1) (b1:Binds K d1 ["self"] [])
  (G2:aL P w K mg base bO 1 g2 d2 ["self", "other"] (yM C)) (m2:Meth K C "same" g2) (b2:Binds K d2 ["self", "other"] []) :
  aL P w K mg base bO 6 f fd ["self", "day"] (uV CC CR CK C):=by
 refine F.ok Cm 0x1 0x2;obtain ⟨c,dc,jl,ll,m,q,W,qk,ek,kk,lN,n,b,d,rfl,hc,R,Wf,MN,OK,fr,hbr,n1,n2,hd,LA,KP,hlt,k⟩:=h;have hr1:cH 1 _:=hr.mono 0x6;refine ⟨_,au (aY (i:=2) Cm.nd rfl 0x8 (aZ 0xC rfl))
  (aG (bK (aQ cV 0x10 aA (bB _))
   (aG (dO (pv 0) (cU (ak (cZ (ak aA (ak (mH (CX:=bO) (E:=E0) (pv 2) T.cl m1 G1 hr b1 .nil bC) aC))) aC)) rfl))
   (aG (bK (iT (dZ (cj (CX:=bO) (E:=E0) (pv 2) T.cl m2 G2 hr1 b2 .nil bC (ak (aN bA (aN bD 0xC (zX tH aA) 0x4) aA 0x4) aC))))
    (aG (bV (iR A0H A0O A0P cT 0xC (ak (cZ (ak 0x10 (ak (mH (CX:=bO) (E:=E0) (pv 2) T.cl m1 G1 hr b1 .nil bC) aC))) aC)))) aR)))),?_⟩
 refine ⟨_,rfl,c,CC,dc,_,_,rfl,hc,TC.cl,TC.n3,rfl,m.z,CR,m.dz,_,_,rfl,R.o,TR.cl,TR.n1,rfl,?_⟩;have twin:∀ (Q1:VK),(∀ y H1,Same H H1->H y=none->(∃ wV,wV.x=y/\Kept C H1 wV W.es W.ks W.ks/\Fk H wV)->Q1 (.ref y) H1)->pU C [.ref q.x] H Q1 E0:=fun Q1 k1 =>
  ⟨q.x,q.dx,q.a1,q.a2,q.a3,q.a4,q.a5,_,_,_,_,_,n,rfl,R.L,hbr,n1,n2,fun y dy c1 c2 c3 c4 c5 H1 s1 L1 hy h1 h2 h3 h4 h5 _=>k1 y H1 s1 hy ⟨ZL y dy c1 c2 c3 c4 c5 n,rfl,⟨L1,fun e he=>s1 _ _ (fr e he),Wf,MN,OK,A4s _⟩,hy,fun a ha=>by
   simp only [A0d,A0w,A1k] at ha;rcases ha with z | z | z | z | z <;> (rw [z];assumption)⟩⟩
 refine ⟨_,rfl,rfl,_,rfl,Uz (fun e=>?_) (fun _=>?_)⟩
 ·refine ⟨_,rfl,q.x,q.dx,_,rfl,R.L.o,rfl,?_⟩;dsimp only [nP,List.cons_append,List.nil_append];refine twin _ fun y H1 s1 hy0 hkp=>?_;obtain ⟨wV,hqx,K1,FK⟩:=hkp;refine ⟨small 0xA,fun t ht=>⟨small 0xA,fun l' hl'=>?_⟩⟩;have st:=aO ht (.tup [V.int 0,V.ref y]);have t1:(upd H1 t (.tup [V.int 0,V.ref y])) t=some (.tup [V.int 0,V.ref y]):=ao;generalize upd H1 t (.tup [V.int 0,V.ref y])=H2 at st t1 hl' ⊢;have sl:=aO hl' (.lst [V.ref t]);have l1:(upd H2 l' (.lst [V.ref t])) l'=some (.lst [V.ref t]):=ao;have hl0:H l'=none:=(s1.trans st).free hl';generalize upd H2 l' (.lst [V.ref t])=H3 at sl l1 ⊢;have s3:=s1.trans (st.trans sl);have c3:=s3 _ _ hc;have t3:=sl _ _ t1;refine ⟨_,rfl,c,CC,dc,_,rfl,c3,TC.cl,TC.n5,A0v rfl,?_⟩;refine k l' [t] wV W.es W.ks _ (fun a u h1 _ ha=>by rw [aj h1];exact s3 _ _ ha) (by rw [ao];rfl) ⟨?_,fun a ha=>?_,[],t,0,rfl,?_⟩ ((K1.same (st.trans sl)).store c3 ?_) rfl 0xA (.inr hl0) (.inr FK)
  ·rw [aj (aM l1 c3 0x5)];exact l1
  ·rw [A0b.mp ha];exact ⟨0,y,by rw [aj (aM t3 c3 0x5)];exact t3,by decide⟩
  ·rw [hqx,aj (aM t3 c3 0x5)];exact t3
  ·rw [hqx];exact fun z=>by rw [z,hc] at hy0;cases hy0
 ·obtain ⟨l0,t,d0,hlts,ht⟩:=LA.last;refine ⟨_,rfl,q.x,q.dx,_,rfl,R.L.o,rfl,_,rfl,c,CC,dc,_,_,rfl,hc,TC.cl,TC.n5,rfl,1,rfl,ll,_,_,_,rfl,rfl,bR.of LA.l,by rw [hlts];exact KC l0 t,t,_,_,_,rfl,rfl,bZ.of ht,aJ (j:=1) rfl,?_⟩;refine ⟨q.x,q.dx,q.a1,q.a2,q.a3,q.a4,q.a5,_,_,_,_,_,qk.x,qk.dx,qk.a1,qk.a2,qk.a3,qk.a4,qk.a5,_,_,_,_,_,_,_,_,_,_,_,_,_,rfl,R.L,KP.L,Qy Wf,Qz MN,QB,QC fr,Qy KP.W,Qz KP.M,QB,QC KP.fr,_,rfl,?_⟩
  show if (!(Ip W.es ek))=true then _ else _
  cases hs:Ip W.es ek with
  | true=>exact cA (k ll lN qk ek kk H (fun a u _ _ h=>h) hc LA KP (Ke OK KP.o KP.pre Wf.nd KP.W.nd hs).symm 0x3 (.inl rfl) (.inl rfl))
  | false =>
   refine dU ⟨_,rfl,c,CC,dc,_,_,rfl,hc,TC.cl,TC.n5,rfl,.inl ⟨rfl,_,bR.of LA.l⟩,_,rfl,_,rfl,q.x,q.dx,_,rfl,R.L.o,rfl,?_⟩;dsimp only [nP,List.cons_append,List.nil_append];refine twin _ fun y H1 s1 hy0 hkp=>?_;obtain ⟨wV,hqx,K1,FK⟩:=hkp;refine ⟨small 0xA,fun t' ht'=>?_⟩;have st:=aO ht' (.tup [V.int d,V.ref y]);have t1:(upd H1 t' (.tup [V.int d,V.ref y])) t'=some (.tup [V.int d,V.ref y]):=ao;generalize upd H1 t' (.tup [V.int d,V.ref y])=H2 at st t1 ⊢;have s2:=s1.trans st;have l2:=s2 _ _ LA.l;refine ⟨ll,_,_,rfl,rfl,l2,bQ (by rw [cg];lia),?_⟩;have el:lN.map V.ref++[V.ref t']=(lN++[t']).map V.ref:=by rw [iZ];rfl
   rw [el];refine k ll (lN++[t']) wV W.es W.ks _ (fun a u _ h2 ha=>by rw [aj h2];exact s2 _ _ ha) ?_ ⟨ao,fun a ha=>?_,lN,t',d,rfl,?_⟩ ((K1.same st).lst l2) rfl (by rw [gZ];simp) (.inl rfl) (.inr FK)
   ·rw [aj (aM hc LA.l 0x5)];exact s2 _ _ hc
   ·rcases A0l.mp ha with z | z
    ·obtain ⟨d1,x1,h1,h2⟩:=LA.all a z;have h1':=s2 _ _ h1;exact ⟨d1,x1,by rw [aj (aM h1' l2 0x5)];exact h1',h2⟩
    ·rw [A0b.mp z];exact ⟨d,y,by rw [aj (aM t1 l2 0x5)];exact t1,hd⟩
   ·rw [hqx,aj (aM t1 l2 0x5)];exact t1
abbrev Fz:Stmt:=inClass (top 44) 4
abbrev z9:Stmt:=top 45
inductive za (CC:Addr) (K:W.Frag) (vs:List V) (H:Hp) (Q:VK) (cB:XK):Prop
 | mk (c dc z jl ll:Addr) (xs:List V) (n b:Int) (_:vs=[.ref c]) (_:H c=some (.ins CC dc (Cj n b z jl ll))) (_:H jl=some (.lst xs)) (_:xs.length<=1000) (_:∀ D,H D=none->Q (.ref D) (upd H D (.lst xs))):za CC K vs H Q cB
theorem UG:aP ["self"] ["self"] (aH Fz):=0x0
theorem QD (TC:lM K CC) (F:fu K "verdicts" "Court.verdicts" Fz f fd) (mli:mg "list"=none):aL P w K mg base bO 1 f fd ["self"] (za CC K):=by
 refine F.ok UG 0x1 0x2;obtain ⟨c,dc,z,jl,ll,xs,n,b,rfl,hc,hj,_,k⟩:=h;refine ⟨_,aG (aV (gW xP rfl mli pA (ak 0xC aC))),?_⟩;exact ⟨_,rfl,c,CC,dc,_,_,rfl,hc,TC.cl,TC.n4,rfl,jl,_,rfl,.inl (bR.of hj),k⟩
structure Ab (e e':aU):Prop where
 n:e.n=e'.n
 lord:e.lord=e'.lord
 man:e.man=e'.man
 own:e.own=e'.own
 br:e.br=e'.br
 due:e.due=e'.due
abbrev lV:List aU->List aU->Prop:=Paired Ab
theorem lV.nms {es es':List aU} (h:lV es es'):nms es=nms es':=by
 induction h with
 | nil=>rfl
 | @cons x y xs ys a _ ih =>
  show x.n::M.nms xs=y.n::M.nms ys
  rw [a.n,ih]
theorem lV.mem {es es':List aU} (h:lV es es'):∀ {e:aU},e∈es->∃ e'∈es',Ab e e':=by
 induction h with
 | nil=>intro e h;cases h
 | cons a _ ih =>
  intro e he;rcases A0d.mp he with rfl | h
  ·exact ⟨_,A0o,a⟩
  ·obtain ⟨e',h1,h2⟩:=ih h;exact ⟨e',jT _ h1,h2⟩
theorem lV.map {es es':List aU}{g g':aU->aU} (h:lV es es') (hg:∀ e e',Ab e e'->Ab (g e) (g' e')):lV (es.map g) (es'.map g'):=by
 induction h with
 | nil=>exact .nil
 | cons a _ ih=>exact .cons (hg _ _ a) ih
theorem lV.filter {es es':List aU}{m:Str} (h:lV es es'):lV (es.filter fun y=>decide (y.n≠m)) (es'.filter fun y=>decide (y.n≠m)):=by
 induction h with
 | nil=>exact .nil
 | @cons x y xs ys a _ ih =>
  by_cases c:x.n=m
  ·rw [A1j 0x2B,A1j (by rw [<- a.n];simpa using c)];exact ih
  ·rw [A0Y 0x2B,A0Y (by rw [<- a.n];simpa using c)];exact .cons a ih
theorem lV.mod {es es':List aU}{g g':aU->aU}{m m':Str} (h:lV es es') (hm:m=m') (hg:∀ e e',Ab e e'->Ab (g e) (g' e')):lV (mod m g es) (mod m' g' es'):=by
 subst hm;refine lV.map h fun e e' a=>?_
 by_cases c:e.n=m
 ·rw [A0i c,A0i (a.n ▸ c)];exact hg e e' a
 ·rw [A0f c,A0f (fun z=>c (a.n.trans z))];exact a
theorem lV.snoc {es es':List aU}{x x':aU} (h:lV es es') (a:Ab x x'):lV (es++[x]) (es'++[x']):=A4J h a
theorem QF {es es':List aU}{cO:Rw}{y y':aU}{t1' t2' b1' b2':Addr} (h:lV es es') (hy:Ab y y'):lV 0x38 (stp y' es' t1' t2' b1' b2' cO):=by
 cases cO with
 | grant e n m a s=>exact lV.snoc (lV.mod h hy.n fun e e' q=>⟨q.n,q.lord,q.man,by show e.own - a=e'.own - a;rw [q.own],q.br,q.due⟩) ⟨rfl,by show some y.n=some y'.n;rw [hy.n],rfl,rfl,rfl,rfl⟩
 | convey e m=>exact lV.mod h hy.n fun e e' q=>⟨q.n,q.lord,rfl,q.own,q.br,q.due⟩
 | kO e =>
  show lV (cF y.n (y.lord.getD "") y.own es) (cF y'.n (y'.lord.getD "") y'.own es')
  rw [hy.n,hy.lord,hy.own];refine lV.map (lV.filter h) fun e e' q=>⟨q.n,?_,q.man,?_,q.br,q.due⟩
  ·show (if e.lord=_ then _ else e.lord)=(if e'.lord=_ then _ else e'.lord);rw [q.lord]
  ·show (if e.n=_ then e.own+_ else e.own)=(if e'.n=_ then e'.own+_ else e'.own);rw [q.n,q.own]
structure Mix (E ek es:List aU):Prop where
 ab:lV E es
 a1:lG E=lG ek
 a2:hoL E=hoL ek
 a3:lX E=lX ek
 a4:U3 E=U3 ek
 a5:RZ E=RZ ek
 b1:lG E=lG es
 b2:hoL E=hoL es
 b3:lX E=lX es
 b4:yE E=yE es
 fa:∀ e∈E,∃ a∈ek,e.ta=a.ta/\e.due=a.due
 fb:∀ e∈E,∃ b∈es,e.tb=b.tb/\e.due=b.due
def Za (W W':Wo):Prop:=lV W.es W'.es/\W.ks=W'.ks/\W.hs=W'.hs/\W.dd=W'.dd/\W.lg=W'.lg
theorem lV.bound {es es':List aU} (h:lV es es') {m:Str} (b:Bound es m l):Bound es' m l:=by
 obtain ⟨y,hy,h1,h2,z,hz,h3,h4⟩:=b;obtain ⟨y',hy',a⟩:=h.mem hy;obtain ⟨z',hz',c⟩:=h.mem hz;exact ⟨y',hy',a.man ▸ h1,a.n ▸ h2,z',hz',by rw [<- a.lord,h3,c.n],c.man ▸ h4⟩
theorem lV.symm {es es':List aU} (h:lV es es'):lV es' es:=by
 induction h with
 | nil=>exact .nil
 | cons a _ ih=>exact .cons ⟨a.n.symm,a.lord.symm,a.man.symm,a.own.symm,a.br.symm,a.due.symm⟩ ih
theorem lV.held {es es':List aU} (h:lV es es') (m:Str):(es.filter fun y=>decide (y.man=m)).map (·.n)=(es'.filter fun y=>decide (y.man=m)).map (·.n):=by
 induction h with
 | nil=>rfl
 | @cons x y xs ys a _ ih =>
  by_cases c:x.man=m
  ·rw [A0Y 0x2B,A0Y (by rw [<- a.man];simpa using c),A0m,A0m,ih,a.n]
  ·rw [A1j 0x2B,A1j (by rw [<- a.man];simpa using c),ih]
theorem Fo.inv {es es':List aU}{L:List Str} (f:Fo r es L es'):∀ {ss:List Str}{n:Str},L=ss++[n]->∃ e1 y,Fo r es ss e1/\y∈e1/\y.n=n/\es'=stp y e1 0 0 0 0 (uF r n):=by
 cases f with
 | nil=>intro ss n e;simp at e
 | snoc f hy hn =>
  intro ss n e;obtain ⟨e1,e2⟩:=A4t e rfl;injection e2 with e2;subst e1;subst e2;exact ⟨_,_,f,hy,rfl,rfl⟩
theorem Fo.det {es es' e1:List aU} (h:lV es es') (f:Fo r es ss e1):∀ {e1':List aU},(∀ {ss' e2},Fo r es' ss' e2->(nms e2).Nodup)->Fo r es' ss e1'->lV e1 e1':=by
 induction f with
 | nil =>
  intro e1' _ f';generalize hL:([]:List Str)=L at f';cases f' with
  | nil=>exact h
  | snoc _ _ _=>exact absurd (A1R List.length hL) 0xA
 | snoc f hy hn ih =>
  intro e1' nd f';obtain ⟨e2,y',f2,hy',hn',rfl⟩:=f'.inv rfl;have a:=ih nd f2;obtain ⟨y'',hm,ay⟩:=a.mem hy;have:=gM (nd f2) hm hy' (ay.n.symm.trans hn'.symm);subst this;exact QF a ay
theorem Jo.det {W W1 W2 W3:Wo}{ro:Ro}{w w':Str} (h:Za W W1) (R:Wp W1 ls j wd) (hls:∀ n∈ls,n≠""/\PyData.strOk n=true) (J:Jo W dy ro w W2) (J':Jo W1 dy ro w' W3):w=w'/\Za W2 W3:=by
 obtain ⟨es,ks,hs,dd,lg⟩:=W;obtain ⟨es1,ks1,hs1,dd1,lg1⟩:=W1;obtain ⟨h,e1,e2,e3,e4⟩:=h;dsimp only at h e1 e2 e3 e4;subst e1;subst e2;subst e3;subst e4;have hn:=h.nms;have nd:=R.E.P.W.nd;have mm:∀ {l:List aU}{y:aU}{e:Str},y∈l->y.n=e->e∈nms l:=fun hy e=>e ▸ A0e.mpr ⟨_,hy,rfl⟩;have one:∀ {y y':aU}{e:Str},y∈es->y'∈es1->y.n=e->y'.n=e->Ab y y':=fun {y y' e} hy hy' a b=>by
  obtain ⟨z,hz,az⟩:=h.mem hy;have:=gM nd hz hy' (az.n.symm.trans (a.trans b.symm));subst this;exact az
 have old:Za ⟨es,ks,hs,dd,lg⟩ ⟨es1,ks,hs,dd,lg⟩:=⟨h,rfl,rfl,rfl,rfl⟩;cases J with
 | no q =>
  dsimp only at q;rw [hn] at q;cases J' with
  | no _=>exact ⟨rfl,old⟩
  | tk p _=>exact absurd p q
  | de p _ _=>exact absurd p q
  | ac p1 p2 _ _ _=>exact absurd (mm p1 p2) q
  | gr _ _ p1 p2 _ _ _=>exact absurd (mm p1 p2) q
 | tk q q2 =>
  dsimp only at q;rw [hn] at q;cases J' with
  | no p=>exact absurd q p
  | tk _ _=>exact ⟨rfl,old⟩
  | de _ p _=>exact absurd q2 p
  | ac _ _ p _ _=>exact absurd q2 p
  | gr _ _ _ _ p _ _=>exact absurd q2 p
 | de q q2 q3 =>
  dsimp only at q;rw [hn] at q;cases J' with
  | no p=>exact absurd q p
  | tk _ p=>exact absurd p q2
  | de _ _ _=>exact ⟨rfl,old⟩
  | ac _ _ _ p _=>exact absurd q3 p
  | gr _ _ _ _ _ p _=>exact absurd q3 p
 | ac q1 q2 q3 q4 q5 =>
  cases J' with
  | no p=>exact absurd (hn ▸ mm q1 q2) p
  | tk _ p=>exact absurd p q3
  | de _ _ p=>exact absurd p q4
  | ac _ _ _ _ _=>exact ⟨rfl,old⟩
  | gr _ _ p1 p2 _ _ p5=>have:=(one q1 p1 q2 p2).own;lia
 | @gr e n m a s y t b q1 q2 q3 q4 q5 =>
  cases J' with
  | no p=>exact absurd (hn ▸ mm q1 q2) p
  | tk _ p=>exact absurd p q3
  | de _ _ p=>exact absurd p q4
  | ac p1 p2 _ _ p5=>have:=(one q1 p1 q2 p2).own;lia
  | @gr _ _ _ _ _ y' t' b' p1 p2 _ _ p5 =>
   refine ⟨rfl,?_,rfl,rfl,rfl,rfl⟩
   show lV (stp y es t 0 b 0 (.grant e n m a s)) (stp y' es1 t' 0 b' 0 (.grant e n m a s))
   exact QF h (one q1 p1 q2 p2)
 | hd q =>
  cases J' with
  | hd _=>exact ⟨rfl,old⟩
  | hr p=>exact absurd q p
 | hr q =>
  cases J' with
  | hd p=>exact absurd p q
  | hr _=>exact ⟨rfl,h,rfl,rfl,rfl,rfl⟩
 | ld q =>
  cases J' with
  | ld _=>exact ⟨rfl,old⟩
  | lb p _=>exact absurd q p
  | lr p _=>exact absurd q p
 | lb q q2 =>
  cases J' with
  | ld p=>exact absurd p q
  | lb _ _=>exact ⟨rfl,old⟩
  | lr _ p=>exact absurd (h.symm.bound p) q2
 | lr q q2 =>
  cases J' with
  | ld p=>exact absurd p q
  | lb _ p=>exact absurd (h.bound q2) p
  | lr _ _=>exact ⟨rfl,h,rfl,rfl,rfl,rfl⟩
 | dx q =>
  cases J' with
  | dx _=>exact ⟨rfl,old⟩
  | di p _ _ _=>exact absurd q p
 | di q qt qh qf =>
  cases J' with
  | dx p=>exact absurd p q
  | di p pt ph pf =>
   have er:=qt.det pt;subst er;have es:=Ep (qh.1.trans (by rw [h.held];exact ph.1.symm)) qh.2 ph.2;subst es;refine ⟨rfl,Fo.det h qf (fun f=>(f.eo R.E (fun z e=>Tk.ok (Pr:=fun z=>PyData.strOk z=true) (fun _ _=>n6 R.hv) pt (fun z e=>n6 R.hv e) z e) hls).P.W.nd) pf,rfl,rfl,rfl,rfl⟩
inductive JL (W0:Wo):List (Int×Ro)->List Str->Wo->Prop
 | nil:JL W0 [] [] W0
 | snoc {rs:List (Int×Ro)}{ws:List Str}{W W':Wo}{dy:Int}{ro:Ro}{w:Str}:JL W0 rs ws W->Jo W dy ro w W'->JL W0 (rs++[(dy,ro)]) (ws++[w]) W'
theorem JL.inv {W0 W:Wo}{L:List (Int×Ro)} (h:JL W0 L ws W):∀ {rs:List (Int×Ro)}{dy:Int}{ro:Ro},L=rs++[(dy,ro)]->∃ ws0 w W1,ws=ws0++[w]/\JL W0 rs ws0 W1/\Jo W1 dy ro w W:=by
 cases h with
 | nil=>intro rs dy ro e;simp at e
 | snoc h J =>
  intro rs dy ro e;obtain ⟨e1,e2⟩:=A4t e rfl;injection e2 with e2;injection e2 with e3 e4;subst e1;subst e3;subst e4;exact ⟨_,_,_,rfl,h,J⟩
theorem JL.wp {W0 W:Wo}{rs:List (Int×Ro)}{n:Int} (hls:∀ n∈ls,n≠""/\PyData.strOk n=true) (R:Wp W0 ls 0 n) (J:JL W0 rs ws W):(∀ r∈rs,r.2.Ok ls/\r.2.Tx)->Wp W ls rs.length n:=by
 induction J with
 | nil=>intro _;exact R
 | snoc _ D ih =>
  intro h;have q:=h _ (A0z _ (A0b.mpr rfl));rw [gZ,A0r];exact D.wp (ih fun r hr=>h r (A0U _ hr)) q.1 q.2 hls
theorem JL.det {W0 W1 W:Wo}{rs:List (Int×Ro)}{n:Int} (hls:∀ n∈ls,n≠""/\PyData.strOk n=true) (h0:Za W0 W1) (R:Wp W1 ls 0 n) (J:JL W0 rs ws W):∀ {ws':List Str}{W':Wo},(∀ r∈rs,r.2.Ok ls/\r.2.Tx)->JL W1 rs ws' W'->ws=ws'/\Za W W':=by
 induction J with
 | nil =>
  intro ws' W' _ J';generalize hL:([]:List (Int×Ro))=L at J';cases J' with
  | nil=>exact ⟨rfl,h0⟩
  | snoc _ _=>exact absurd (A1R List.length hL) 0xA
 | snoc _ D ih =>
  intro ws' W' ho J';obtain ⟨ws0,w,W2,rfl,J1,D'⟩:=J'.inv rfl;have ho':=fun r hr=>ho r (A0U _ hr);obtain ⟨q1,q2⟩:=ih ho' J1;obtain ⟨p1,p2⟩:=D.det q2 (J1.wp hls R ho') hls D';exact ⟨by rw [q1,p1],p2⟩
abbrev zc:Stmt:=inClass (top 44) 0
structure fK (H:Hp) (jl:Addr) (ts:List Addr) (pr:List Addr) (ws:List Str):Prop where
 l:H jl=some (.lst (ts.map V.ref))
 lt:ts.length=pr.length
 lw:ws.length=pr.length
 at':∀ (i:Nat) (t r:Addr) (w:Str),ts[i]?=some t->pr[i]?=some r->ws[i]?=some w->H t=some (.tup [.ref r,.str w])
theorem fK.keep (a:fK H jl ts pr ws) (h1:H' jl=H jl) (h2:∀ c xs,H c=some 0x2E->H' c=some 0x2E):fK H' jl ts pr ws :=
 ⟨by rw [h1];exact a.l,a.lt,a.lw,fun i t r w e1 e2 e3=>h2 _ _ (a.at' i t r w e1 e2 e3)⟩
theorem fK.snoc {r:Addr}{w:Str} (a:fK H jl ts pr ws) (ht:H t=some (.tup [.ref r,.str w])):fK (upd H jl (.lst (ts.map V.ref++[V.ref t]))) jl (ts++[t]) (pr++[r]) (ws++[w]):=by
 refine ⟨by rw [ao,iZ];rfl,by rw [gZ,gZ,a.lt];rfl,by rw [gZ,gZ,a.lw];rfl,fun i t' r' w' e1 e2 e3=>?_⟩;have nt:∀ {c:Addr}{xs:List V},H c=some 0x2E->(upd H jl (.lst (ts.map V.ref++[V.ref t]))) c=some 0x2E:=fun hc=>by rw [aj (aM hc a.l 0x5)];exact hc
 by_cases hi:i<pr.length
 ·rw [A1l (by rw [a.lt];exact hi)] at e1;rw [A1l hi] at e2;rw [A1l (by rw [a.lw];exact hi)] at e3;exact nt (a.at' i t' r' w' e1 e2 e3)
 ·have hl:=(A0j.mp e2).1;rw [gZ,A0r] at hl;have:i=pr.length:=by lia
  subst this;rw [A0W (A0h _),A2W] at e2;rw [A0W (by rw [a.lt];exact A0h _),a.lt,A2W] at e1;rw [A0W (by rw [a.lw];exact A0h _),a.lw,A2W] at e3;injection e1 with e1;injection e2 with e2;injection e3 with e3;subst e1;subst e2;subst e3;exact nt ht
structure pY (CC CR CK C:Addr) (H:Hp) (c dc jl ll:Addr) (m:Rm) (q:Ad) (W:Wo) (ls:List Str) (qk:Ad) (ek:List aU) (kk:List Str) (lN ts pr:List Addr) (ws:List Str) (n b:Int):Prop where
 o:H c=some 0x37
 R:cL CR CK C H m q W
 S:Sep m q
 P:Wp W ls pr.length n
 fr:∀ e∈W.es,jB H e.ta e.due.1 e.due.2
 Ld:Jc C H ll lN qk
 K:Kept C H qk ek kk W.ks
 J:fK H jl ts pr ws
 jn:jl≠ll
 ln:lN.length<=pr.length+1
 kx:qk.x≠c
 kq:qk.x≠q.x/\∀ a∈[qk.a1,qk.a2,qk.a3,qk.a4,qk.a5],a∉jP m q
 nj:NL H m.li jl
 nl:NL H m.li ll
 mc:m.z≠c/\q.x≠c/\m.k≠c
theorem Jo.pre {W W':Wo}{ro:Ro}{w:Str} (h:Jo W dy ro w W'):W.ks <+: W'.ks:=by
 cases h <;> first | exact A4s _ | exact List.prefix_append _ _
theorem Kept.Ez {CR:Addr}{m:Rm}{q qk:Ad}{W:Wo}{ek:List aU}{kk:List Str} (K:Kept C H qk ek kk ks) (R:cL CR CK C H m q W) (kq:∀ a∈[qk.a1,qk.a2,qk.a3,qk.a4,qk.a5],a∉jP m q) (o:gH m q H H') (p:ks <+: ks'):Kept C H' qk ek kk ks' :=
 ⟨⟨R.out o 0x21 K.L.o,R.Kl o (kq _ 0xA) K.L.l1,R.Kl o (kq _ 0xA) K.L.l2,R.Kl o (kq _ 0xA) K.L.l3,R.Kl o (kq _ 0xA) K.L.l4,R.Kl o (kq _ 0xA) K.L.l5⟩,fun e he=>R.out o 0x21 (K.fr e he),K.W,K.M,K.o,K.pre.trans p⟩
theorem cL.oth {CR:Addr}{m:Rm}{q:Ad}{W:Wo} (a:cL CR CK C H m q W) (hd:∀ b kvs,H b=some 0x13->c≠b) (h1:m.z≠c) (h2:q.x≠c) (h3:m.k≠c) (G:Dc (upd H c o) m.li W.lg):cL CR CK C (upd H c o) m q W:=by
 have d:∀ {b:Addr}{kvs:List 0x30},H b=some 0x13->(upd H c o) b=some 0x13:=fun h=>by rw [aj (hd _ _ h).symm];exact h
 exact ⟨by rw [aj h1];exact a.o,⟨by rw [aj h3];exact a.K.o,d a.K.h,d a.K.g⟩,d a.U,d a.D,G,⟨by rw [aj h2];exact a.L.o,d a.L.l1,d a.L.l2,d a.L.l3,d a.L.l4,d a.L.l5⟩⟩
theorem cL.lst {CR:Addr}{m:Rm}{q:Ad}{W:Wo} (a:cL CR CK C H m q W) (hc:H c=some (.lst xs)) (n:NL H m.li c):cL CR CK C (upd H c o) m q W :=
 a.oth (fun _ _ h=>(aM h hc 0x5).symm) (aM a.o hc 0x5) (aM a.L.o hc 0x5) (aM a.K.o hc 0x5) (a.G.Wr n (fun kvs h=>by rw [aj (aM h hc 0x5)];exact h) (fun b ys hb h=>by rw [aj hb];exact h) fun b ys h=>by rw [aj (aM h hc 0x5)];exact h)
theorem cL.store {CR:Addr}{m:Rm}{q:Ad}{W:Wo}{fs:List (Str×V)} (a:cL CR CK C H m q W) (hc:H c=some (.ins CC dc fs)) (h1:m.z≠c) (h2:q.x≠c) (h3:m.k≠c):cL CR CK C (upd H c (.ins CC dc fs')) m q W :=
 a.oth (fun _ _ h=>(aM h hc 0x5).symm) h1 h2 h3 (a.G.keep (fun u h=>by obtain ⟨gs,G⟩:=a.G;rw [aj (aM G.d hc 0x5)];exact h) (fun b ys h=>by rw [aj (aM h hc 0x5)];exact h) fun b ys h=>by rw [aj (aM h hc 0x5)];exact h)
theorem pY.judge {CR:Addr}{r:Addr}{m:Rm}{q qk:Ad}{W W':Wo}{ek:List aU}{kk:List Str}{n b:Int}{ro:Ro}{w:Str} (A:pY CC CR CK C H c dc jl ll m q W ls qk ek kk lN ts pr ws n b)
  (hok:ro.Ok ls) (hx:ro.Tx) (hls:∀ n∈ls,n≠""/\PyData.strOk n=true) (J:Jo W dy ro w W') (R':cL CR CK C H1 m q W') (fr':∀ e∈W'.es,jB H1 e.ta e.due.1 e.due.2) (o:gH m q H H1) (ht:H1 t=none) :
  pY CC CR CK C (upd (upd H1 t (.tup [.ref r,.str w])) jl (.lst (ts.map V.ref++[V.ref t]))) c dc jl ll m q W' ls qk ek kk lN (ts++[t]) (pr++[r]) (ws++[w]) n b:=by
 apply 0o1 H1 t ht st t1 H2
 have oj:=A.R.Q8 o A.J.l A.nj;have ol:=A.R.Q8 o A.Ld.l A.nl;have j1:=st _ _ oj.1;have nj:=oj.2.same st;have nl:=ol.2.same st;have Zb:∀ c' xs,H c'=some 0x2E->H2 c'=some 0x2E:=fun c' xs h=>st _ _ (A.R.out o 0x21 h);have J1:fK H2 jl ts pr ws:=A.J.keep (by rw [j1,A.J.l]) Zb;have c1:=st _ _ (A.R.out o 0x21 A.o);have l1:=st _ _ ol.1;have R1:=R'.same st;have K1:=(A.K.Ez A.R A.kq.2 o J.pre).same st;have f1:∀ e∈W'.es,jB H2 e.ta e.due.1 e.due.2:=fun e he=>st _ _ (fr' e he);have nt:∀ {c':Addr}{xs:List V},H2 c'=some 0x2E->(upd H2 jl (.lst (ts.map V.ref++[V.ref t]))) c'=some 0x2E:=fun hc=>by rw [aj (aM hc j1 0x5)];exact hc
 refine ⟨by rw [aj (aM c1 j1 0x5)];exact c1,R1.lst j1 nj,A.S,?_,fun e he=>nt (f1 e he),⟨by rw [aj (A0k A.jn)];exact l1,fun a ha=>?_,?_⟩,K1.lst j1,J1.snoc t1,A.jn,by rw [gZ];have:=A.ln;lia,A.kx,A.kq,nj.Uk j1,nl.Uk j1,A.mc⟩
 ·rw [gZ];exact J.wp A.P hok hx hls
 ·obtain ⟨d,x,h1,h2⟩:=A.Ld.all a ha;exact ⟨d,x,nt (Zb _ _ h1),h2⟩
 ·obtain ⟨l0,t0,d,h1,h2⟩:=A.Ld.last;exact ⟨l0,t0,d,h1,nt (Zb _ _ h2)⟩
theorem cL.QG {CR:Addr}{m:Rm}{q:Ad}{W:Wo} (R:cL CR CK C H m q W) (hm:a∈jP m q) (h0:H a=none):False:=by
 simp only [jP,A0d,A0w,A1k] at hm;have k:=fun {b:Addr}{u:HO} (e:a=b) (h:H b=some u)=>(show False by rw [e,h] at h0;cases h0)
 obtain ⟨gs,G⟩:=R.G;rcases hm with z | z | z | z | z | z | z | z | z | z
 ·exact k z R.L.l1
 ·exact k z R.L.l2
 ·exact k z R.L.l3
 ·exact k z R.L.l4
 ·exact k z R.L.l5
 ·exact k z R.U
 ·exact k z R.K.h
 ·exact k z R.K.g
 ·exact k z R.D
 ·exact k z G.d
theorem pY.day {CR:Addr}{Fy:Addr}{m:Rm}{q qk wV:Ad}{W:Wo}{ek ek':List aU}{kk S5:List Str}{Ck:List Addr}{n b:Int} (A:pY CC CR CK C H c dc jl ll m q W ls qk ek kk lN ts pr ws n b)
  (f:∀ a u,a≠c->a≠ll->H a=some u->H' a=some u) (o:H' c=some (.ins CC dc (Cj n b m.z jl Fy))) (L':Jc C H' Fy Ck wV) (K':Kept C H' wV ek' S5 W.ks) (len:Ck.length<=pr.length+1) (hl:Fy=ll\/H Fy=none) (hq:wV=qk\/Fk H wV) :
  pY CC CR CK C H' c dc jl Fy m q W ls wV ek' S5 Ck ts pr ws n b:=by
 have d:∀ {a:Addr}{kvs:List 0x30},H a=some 0x13->H' a=some 0x13:=fun h=>f _ _ (aM h A.o 0x5) (aM h A.Ld.l 0x5) h;have i:∀ {a D dx:Addr}{fs:List (Str×V)},a≠c->H a=some (.ins D dx fs)->H' a=some (.ins D dx fs):=fun hn h=>f _ _ hn (aM h A.Ld.l 0x5) h;have t:∀ c' xs,H c'=some 0x2E->H' c'=some 0x2E:=fun c' xs h=>f _ _ (aM h A.o 0x5) (aM h A.Ld.l 0x5) h;have R:=A.R;refine ⟨o,⟨i A.mc.1 R.o,⟨i A.mc.2.2 R.K.o,d R.K.h,d R.K.g⟩,d R.U,d R.D,R.G.Wr A.nl (fun kvs h=>d h) (fun c' xs hn h=>f _ _ (aM h A.o 0x5) hn h) t,⟨i A.mc.2.1 R.L.o,d R.L.l1,d R.L.l2,d R.L.l3,d R.L.l4,d R.L.l5⟩⟩,A.S,A.P,fun e he=>t _ _ (A.fr e he),L',K',A.J.keep ?_ t,?_,len,?_,?_,A.nj.mv fun _ h=>d h,?_,A.mc⟩
 ·rw [f jl _ (aM A.J.l A.o 0x5) A.jn A.J.l,A.J.l]
 ·rcases hl with e | e
  ·rw [e];exact A.jn
  ·exact aq A.J.l e
 ·rcases hq with e | e
  ·rw [e];exact A.kx
  ·exact (aq A.o e.1).symm
 ·rcases hq with e | e
  ·rw [e];exact A.kq
  ·refine ⟨(aq R.L.o e.1).symm,fun a ha hm=>?_⟩;have h0:=e.2 a ha;exact R.QG hm h0
 ·rcases hl with e | e
  ·rw [e];exact A.nl.mv fun _ h=>d h
  ·exact (R.newN e).mv fun _ h=>d h
theorem QH (n:Int) (t:Addr) (ls:List Str) (n1:1<=n) (n2:n<=9999):Pu [BJ n t] [] ls 0 n:=by
 refine ⟨⟨by simp [nms],⟨BJ n t,[],rfl,rfl,rfl,trivial⟩,fun e he=>?_,fun e he=>?_,fun e he=>?_⟩,fun e he=>?_,fun e he hn=>?_,A0h _,A0h _,fun e he=>?_,?_⟩
 ·rw [A0b.mp he];exact ⟨by show 0<=n;lia,by show 0<=n;lia,n2⟩
 ·rw [A0b.mp he]
  show n=n+Sb [BJ n t] ""
  have:Sb [BJ n t] ""=0:=by unfold Sb;rfl
  lia
 ·rw [A0b.mp he];show PyData.strOk ("" : Str)=true;decide +kernel
 ·rw [A0b.mp he];exact ⟨by show (0:Int).natAbs<_;decide,by show (0:Int)<1;decide,by show (1:Int).natAbs<_;decide⟩
 ·rw [A0b.mp he] at hn;exact absurd rfl hn
 ·rw [A0b.mp he];exact .inl rfl
 ·show n+0=n;lia
theorem pY.same {CR:Addr}{m:Rm}{q qk:Ad}{W:Wo}{ek:List aU}{kk:List Str}{n b:Int} (A:pY CC CR CK C H c dc jl ll m q W ls qk ek kk lN ts pr ws n b) (s:Same H H'):pY CC CR CK C H' c dc jl ll m q W ls qk ek kk lN ts pr ws n b:=by
 refine ⟨s _ _ A.o,A.R.same s,A.S,A.P,fun e he=>s _ _ (A.fr e he),⟨s _ _ A.Ld.l,fun a ha=>?_,?_⟩,A.K.same s,A.J.keep (by rw [s _ _ A.J.l,A.J.l]) fun c' xs h=>s _ _ h,A.jn,A.ln,A.kx,A.kq,A.nj.same s,A.nl.same s,A.mc⟩
 ·obtain ⟨d,x,h1,h2⟩:=A.Ld.all a ha;exact ⟨d,x,s _ _ h1,h2⟩
 ·obtain ⟨l0,t,d,h1,h2⟩:=A.Ld.last;exact ⟨l0,t,d,h1,s _ _ h2⟩
theorem pZ {n:Int}{e:aU} (P:Pu [e] [] ls 0 n) (h1:e.n="") (h2:e.man="") (h3:e.br=n):Wp (W0 e) ls 0 n:=by
 have one:∀ {z:aU},z∈(W0 e).es->z=e:=fun h=>A0b.mp h;refine ⟨⟨P,fun z hz _=>by rw [one hz];exact h2,fun z hz=>by rw [one hz,h2];decide +kernel,?_,e,A0b.mpr rfl,h1,h3⟩,(fun p hp=>nomatch hp),A0h _,A0h _,A4b,A0h _⟩
 show [e.n]=_
 rw [h1];rfl
def qN (gs:List zN) (i:Nat):List Addr:=((gs.take i).map (·.rs)).flatten
theorem qO {gs:List zN}{x:zN} (h:gs[i]?=some x):qN gs (i+1)=qN gs i++x.rs:=by
 unfold qN;rw [A1a,h,iZ,A2z];simp
theorem QJ (gs:List zN):qN gs gs.length=(gs.map (·.rs)).flatten:=by unfold qN;rw [A1c]
theorem Cp {gs:List zN} (i:Nat):(qN gs i).length<=((gs.map (·.rs)).flatten).length:=by
 unfold qN;have h:gs.map (·.rs)=(gs.take i).map (·.rs)++(gs.drop i).map (·.rs):=by rw [<- iZ,A3r]
 rw [h,A2z,gZ];lia
structure UJ (H Hx:Hp) (c D:Addr) (u:HO) (gs:List zN) (jl ll li:Addr):Prop where
 old:∀ a v,a≠c->H a=some v->Hx a=some v
 fz:Hx D=some u
 g:Jb Hx gs
 gn:∀ x∈gs,x.g≠jl/\x.g≠ll
 l0:H ll=none
 gN:∀ x∈gs,NL Hx li x.g
 oN:∀ a v,a≠c->H a=some v->NL Hx li a
inductive uW (vs:List V) (H:Hp) (Q:VK) (cB:XK):Prop
 | mk (n b:Int) (_:vs=[.int n,.int b]) (_:1<=n) (_:n<=9999) (_:0<=b) (_:b<=99) (_:Q .non H):uW vs H Q cB
structure qP (dat:Addr->List V) (fQ:Addr->Int) (iY:Addr->Ro) (ls:List Str) (a:Addr):Prop where
 e:dat a=Ro.vs (fQ a) (iY a)
 ok:(iY a).Ok ls
 tx:(iY a).Tx
 d0:0<=fQ a
 d1:fQ a<=9999
inductive uX (CC CR CK C:Addr) (K:W.Frag) (vs:List V) (H:Hp) (Q:VK) (cB:XK):Prop
 | mk (c dc l:Addr) (n b:Int) (all:List Addr) (dat:Addr->List V) (fQ:Addr->Int) (iY:Addr->M.Ro) (ls:List Str) (_:vs=[.ref c,.int n,.int b,.ref l]) (_:H c=some (.ins CC dc [])) (_:1<=n) (_:n<=9999) (_:0<=b) (_:b<=99) (_:bR K H l 0x2D) (_:all.length<=30) (_:gA H all dat) (_:(∀ a∈all,qP dat fQ iY ls a)) (_:0x3B) (_:∀ jl ll m q W qk ek kk lN ts out ws t0 H',(∀ a u,a≠c->H a=some u->H' a=some u)->out.Perm all->zM dat out->JL (W0 (BJ n t0)) (out.map fun a=>(fQ a,iY a)) ws W->pY CC CR CK C H' c dc jl ll m q W ls qk ek kk lN ts out ws n b->ek.map core=W.es.map core->Q .non H'):uX CC CR CK C K vs H Q cB
theorem q8:aP ["self", "acres", "bears", "rows", "day", "judged_then", "row"] A5i (aH zc):=0x0
theorem KJ (TC:lM K CC) (TR:iW K CR) (T:gq K C) (F:fu K "__init__" "Court.__init__" zc f fd) {g0:Addr}{d0:FuncData}
  (G0:aL P w K mg base bO 3 g0 d0 ["acres", "bears"] uW) (M0:Ms K mg "check_land" g0 d0 ["acres", "bears"])
  (G1:aL P w K mg base bO 5 g1 d1 A5d (uK CR CK C)) (YH:Mk K CR g1) (mR:mg "Realm"=some (.ref CR)) (b1:Binds K d1 A5d [])
  (G2:aL P w K mg base bO 5 g2 d2 ["self"] (pU C)) (m2:Meth K C "twin" g2) (b2:Binds K d2 ["self"] [])
  (G3:aL P w K mg base bO 5 g3 d3 ["rows"] (uR K)) (M3:Ms K mg "by_days" g3 d3 ["rows"])
  (G4:aL P w K mg base bO 6 g4 d4 A4O (yP CR CK C)) (M4:Ms K mg "judge" g4 d4 A4O)
  (G5:aL P w K mg base bO 6 g5 d5 ["self", "day"] (uV CC CR CK C)) (m5:Meth K CC "end_day" g5) (b5:Binds K d5 ["self", "day"] []) :
  aL P w K mg base bO 7 f fd A5i (uX CC CR CK C K):=by
 refine F.ok q8 0x1 0x2;obtain ⟨c,dc,l,n,b,all,dat,fQ,iY,ls,rfl,hc,n1,n2,b1',b2',hl,h30,RO,RW,hls,k⟩:=h;have hr3:cH 3 _:=hr.mono 0x6;have ZP:cH 5 _:=hr.mono 0x6;refine ⟨_,au (bV (bJ G0 hr3 rfl M0.m M0.k M0.b .nil bC (ak 0x10 (ak (pv 2) aC))))
  (au (dO (pv 0) 0x10 rfl)
  (au (dO (pv 0) (pv 2) rfl)
  (au (dO (pv 0) (rK (CX:=bO) (E:=E0) YH G1 hr rfl mR b1 .nil bC 0x26) rfl)
  (au (dO (pv 0) (cU aC) rfl)
  (au (dO (pv 0) (cU (ak (cZ (ak aA (ak (mH (CX:=bO) (E:=E0) (aZ 0xC rfl) T.cl m2 G2 ZP b2 .nil bC) aC))) aC)) rfl)
  (aG (fM A0N rfl (uf (a0Z (bJ G3 ZP rfl M3.m M3.k M3.b .nil bC (ak (pv 3) aC)))) (lC rfl (bT (bf (i:=4) q8.nd rfl 0x8) (bT (bf (i:=5) q8.nd rfl 0x8) gC)))
   (au (fM A0N rfl (cX (pv 5)) (bf (i:=6) q8.nd rfl 0x8)
    (aG (bV (iR A0H A0O A0P cT 0xC (ak (cZ (ak (pv 6) (ak (bJ (CX:=bO) (E:=E0) G4 hr rfl M4.m M4.k M4.b .nil bC (ak 0xC (ak (pv 6) aC))) aC))) aC)))))
   (aG (bV (cj (CX:=bO) (E:=E0) (pv 0) TC.cl m5 G5 hr b5 .nil bC (ak (pv 4) aC)))))))))))),?_⟩
 refine ⟨_,rfl,_,rfl,n,b,rfl,n1,n2,b1',b2',?_⟩;refine ⟨_,rfl,_,rfl,c,CC,dc,_,rfl,hc,TC.cl,TC.n1,A0v rfl,?_⟩;generalize hH1:upd _ c _=H1;have c1:H1 c=some (.ins CC dc [("many_acres",.int n)]):=by rw [<- hH1,ao];rfl
 have f1:∀ a u,a≠c->H a=some u->H1 a=some u:=fun a u h1 h2=>by rw [<- hH1,aj h1];exact h2
 clear hH1;refine ⟨_,rfl,_,rfl,c,CC,dc,_,rfl,c1,TC.cl,TC.n2,A0v rfl,?_⟩;generalize hH2:upd _ c _=H2;have c2:H2 c=some (.ins CC dc [("many_acres",.int n),("coins",.int b)]):=by rw [<- hH2,ao];rfl
 have f2:∀ a u,a≠c->H a=some u->H2 a=some u:=fun a u h1 h2=>by rw [<- hH2,aj h1];exact f1 a u h1 h2
 clear hH2 f1 c1;have nc:∀ {a:Addr},H2 a=none->a≠c:=fun h z=>by rw [z,c2] at h;cases h
 refine ⟨_,rfl,fun z dz hz0 hdz0 hnz=>⟨z,dz,n,rfl,ao,n1,n2,fun m q t0 H3 hmz hmd hwd kx RM SP FR fr0=>⟨rfl,?_⟩⟩⟩;subst hmz;subst hmd;have s3:Same H2 H3:=fun a u ha=>kx a u (aq ha hz0) (by rw [aj (aq ha hz0),aj (aq ha hdz0)];exact ha);have qo:=fun a ha=>Uo (FR a ha);have qx0:=qo q.x 0xA;have qk0:=qo m.k 0xA;clear kx FR;have c3:=s3 _ _ c2;refine ⟨_,rfl,c,CC,dc,_,rfl,c3,TC.cl,TC.n3,A0v rfl,?_⟩;have R4:=RM.store (fs':=[("many_acres",.int n),("coins",.int b),("realm",.ref m.z)]) c3 (nc hz0) (nc qx0) (nc qk0);generalize wC:upd _ c _=H4;have eH4:upd H3 c (.ins CC dc [("many_acres",.int n),("coins",.int b),("realm",.ref m.z)])=H4:=wC;rw [eH4] at R4;have c4:H4 c=some (.ins CC dc [("many_acres",.int n),("coins",.int b),("realm",.ref m.z)]):=by rw [<- wC,ao];rfl
 have f4:∀ a u,a≠c->H3 a=some u->H4 a=some u:=fun a u h1 h2=>by rw [<- wC,aj h1];exact h2
 have t4:jB H4 t0 0 1:=f4 _ _ (aM fr0 c3 0x5) fr0;clear wC eH4 RM;refine ⟨small 0xA,fun jl hjl=>?_⟩
 apply 0o1 H4 jl hjl sj j5 H5
 have c5:=sj _ _ c4;refine ⟨_,rfl,c,CC,dc,_,rfl,c5,TC.cl,TC.n4,A0v rfl,?_⟩;have R6:=(R4.same sj).store (fs':=[("many_acres",.int n),("coins",.int b),("realm",.ref m.z),("judged",.ref jl)]) c5 (nc hz0) (nc qx0) (nc qk0);generalize Ur:upd _ c _=H6;have eH6:upd H5 c (.ins CC dc [("many_acres",.int n),("coins",.int b),("realm",.ref m.z),("judged",.ref jl)])=H6:=Ur;rw [eH6] at R6;have c6:H6 c=some (.ins CC dc [("many_acres",.int n),("coins",.int b),("realm",.ref m.z),("judged",.ref jl)]):=by rw [<- Ur,ao];rfl
 have f6:∀ a u,a≠c->H5 a=some u->H6 a=some u:=fun a u h1 h2=>by rw [<- Ur,aj h1];exact h2
 have j6:H6 jl=some (.lst []):=f6 _ _ (aM j5 c5 0x5) j5;have t6:jB H6 t0 0 1:=f6 _ _ (aM (sj _ _ t4) c5 0x5) (sj _ _ t4);have f26:∀ a u,a≠c->H2 a=some u->H6 a=some u:=fun a u h1 h2=>f6 a u h1 (sj _ _ (f4 a u h1 (s3 _ _ h2)));have jl0:H2 jl=none:=by
  cases hq:H2 jl with
  | none=>rfl
  | some u =>
   by_cases e:jl=c
   ·rw [e,c4] at hjl;cases hjl
   ·rw [f4 jl u e (s3 _ _ hq)] at hjl;cases hjl
 clear Ur eH6 R4 c5 j5 t4 sj hjl;have PU0:=pZ (QH n t0 ls n1 n2) rfl rfl rfl;have fr6:∀ e∈[BJ n t0],jB H6 e.ta e.due.1 e.due.2:=fun e he=>by rw [A0b.mp he];exact t6
 refine ⟨_,rfl,c,CC,dc,_,_,rfl,c6,TC.cl,TC.n3,rfl,m.z,CR,m.dz,_,_,rfl,R6.o,TR.cl,TR.n1,rfl,q.x,q.dx,_,rfl,R6.L.o,rfl,?_⟩;dsimp only [nP,List.cons_append,List.nil_append];refine ⟨q.x,q.dx,q.a1,q.a2,q.a3,q.a4,q.a5,_,_,_,_,_,n,rfl,R6.L,rfl,n1,n2,fun y dy y1 y2 y3 y4 y5 H7 s7 L7 hy0 hy1 hy2 hy3 hy4 hy5 _=>⟨small 0xA,fun t ht=>⟨small 0xA,fun ll hll=>?_⟩⟩⟩;have st:=aO ht (.tup [V.int 0,V.ref y]);have t7:(upd H7 t (.tup [V.int 0,V.ref y])) t=some (.tup [V.int 0,V.ref y]):=ao;generalize upd H7 t (.tup [V.int 0,V.ref y])=H8 at st t7 hll ⊢
 apply 0o1 H8 ll hll sl l9 H9
 have QK:H6 ll=none:=(s7.trans st).free hll;have s9:Same H6 H9:=s7.trans (st.trans sl);have c9:=s9 _ _ c6;have t9:=sl _ _ t7;refine ⟨_,rfl,c,CC,dc,_,rfl,c9,TC.cl,TC.n5,A0v rfl,?_⟩;have nyc:y≠c:=fun z=>by rw [z,c6] at hy0;cases hy0
 have R10:=(R6.same s9).store (fs':=Cj n b m.z jl ll) c9 (nc hz0) (nc qx0) (nc qk0);have K10:Kept C _ (ZL y dy y1 y2 y3 y4 y5 n) [BJ n t0] [] []:=Kept.store (fs':=Cj n b m.z jl ll) ⟨L7.same (st.trans sl),fun e he=>s9 _ _ (fr6 e he),PU0.E.P.W,PU0.E.M,PU0.E.O,A4s _⟩ c9 nyc;have A0:pY CC CR CK C (upd H9 c 0x37) c dc jl ll m q (W0 (BJ n t0)) ls (ZL y dy y1 y2 y3 y4 y5 n) [BJ n t0] [] [t] [] [] [] n b:=by
  have tk:∀ {a:Addr}{xs:List V},H9 a=some 0x2E->(upd H9 c 0x37) a=some 0x2E:=fun h=>by rw [aj (aM h c9 0x5)];exact h
  have lk:∀ {a:Addr}{xs:List V},H9 a=some (.lst xs)->(upd H9 c 0x37) a=some (.lst xs):=fun h=>by rw [aj (aM h c9 0x5)];exact h
  refine ⟨ao,R10,SP,PU0,fun e he=>tk (s9 _ _ (fr6 e he)),⟨lk l9,fun a ha=>?_,[],t,0,rfl,tk t9⟩,K10,⟨lk (s9 _ _ j6),rfl,rfl,fun i t' r' w' e1 _ _=>by simp at e1⟩,aq j6 QK,A0h _,nyc,⟨(aq R6.L.o hy0).symm,fun a ha hm=>?_⟩,R10.noN rfl,R10.noN rfl,nc hz0,nc qx0,nc qk0⟩
  ·rw [A0b.mp ha];exact ⟨0,y,tk t9,by decide⟩
  ·have h0:H6 a=none:=by
    simp only [ZL,A0d,A0w,A1k] at ha;rcases ha with z | z | z | z | z <;> (rw [z];assumption)
   exact R6.QG hm h0
 have S6:∀ a u,a≠c->H a=some u->(upd H9 c 0x37) a=some u:=fun a u h1 h2=>by rw [aj h1];exact s9 _ _ (f26 a u h1 (f2 a u h1 h2))
 have hd:upd H9 c (.ins CC dc (mG "lands" (.ref ll) [("many_acres",.int n),("coins",.int b),("realm",.ref m.z),("judged",.ref jl)]))=upd H9 c 0x37:=rfl;rw [hd];have ll2:H2 ll=none:=by
  cases hq:H2 ll with
  | none=>rfl
  | some u =>
   by_cases e:ll=c
   ·rw [e,c6] at QK;cases QK
   ·rw [f26 ll u e hq] at QK;cases QK
 generalize upd H9 c 0x37=HA at A0 S6 R10 K10 ⊢;clear c9 t9 l9 s9 sl st t7 s7 L7 R6 c6 j6 t6 f26 fr6 K10 R10 hd f6 f4 c4 c3 s3;have fH:∀ {a:Addr},H2 a=none->H a=none:=fun {a} h=>by
  cases hq:H a with
  | none=>rfl
  | some u =>
   by_cases e:a=c
   ·rw [e,c2] at h;cases h
   ·rw [f2 a u e hq] at h;cases h
 replace jl0:=fH jl0
 replace ll2:=fH ll2
 replace qo:∀ a∈jP m q,H a=none:=fun a ha=>fH (qo a (jT _ (jT _ ha)))
 have hlA:bR K HA l 0x2D:=by
  rcases hl with (h | ⟨o,h⟩) | h
  ·exact .inl (.inl (S6 _ _ (aM h hc 0x5) h))
  ·exact .inl (.inr ⟨o,S6 _ _ (aM h hc 0x5) h⟩)
  ·exact .inr h
 have ROA:gA HA all dat:=⟨fun a ha=>⟨S6 _ _ (aM (RO.1 a ha).1 hc 0x5) (RO.1 a ha).1,(RO.1 a ha).2⟩,RO.2⟩;refine ⟨_,rfl,l,all,dat,rfl,hlA,by lia,ROA,fun D gs out HB sB pP hDB GA GO hp hu fg=>⟨D,_,rfl,hDB,fun oD=>⟨D,oD,_,rfl,ao,?_⟩⟩⟩;have nDA:∀ {a:Addr}{u:HO},HA a=some u->a≠D:=fun h=>aq h pP;have sF:Same HA (upd HB D (.iQ oD (.dK (qp gs)))):=fun a u h=>by rw [aj (nDA h)];exact sB _ _ h
 have GF:Jb (upd HB D (.iQ oD (.dK (qp gs)))) gs:=fun x hx=>by rw [aj (aM (GA x hx) hDB 0x5)];exact GA x hx
 have DF:(upd HB D (.iQ oD (.dK (qp gs)))) D=some (.iQ oD (.dK (qp gs))):=ao;generalize upd HB D (.iQ oD (.dK (qp gs)))=HF at sF GF DF ⊢;have AF:=A0.same sF;have S0:UJ H HF c D (.iQ oD (.dK (qp gs))) gs jl ll m.li:=⟨fun a v h1 h2=>sF _ _ (S6 a v h1 h2),DF,GF,fun x hx=>⟨fun z=>(by have:=fg x hx;rw [z,A0.J.l] at this;cases this),fun z=>(by have:=fg x hx;rw [z,A0.Ld.l] at this;cases this)⟩,ll2,fun x hx=>AF.R.noN rfl,fun a v _ _=>AF.R.noN rfl⟩;have UL:∀ r∈out,H r=some (.tup (dat r))/\qP dat fQ iY ls r:=fun r hr=>⟨(RO.1 r (hp.mem_iff.mp hr)).1,RW r (hp.mem_iff.mp hr)⟩;have ol:out.length<=30:=by rw [hp.length_eq];exact h30
 have cat:=GO.cat;have gm:∀ x∈gs,∀ r∈x.rs,r∈out:=fun x hx r hr=>by rw [<- cat];exact List.mem_flatten.mpr ⟨_,A0e.mpr ⟨x,hx,rfl⟩,hr⟩
 clear sF GF DF A0 S6 nDA GA sB hDB hlA ROA fg pP;refine Kz (a:=D) (o:=oD) (kvs:=qp gs) (fun i σ Hx=>∃ (u4 u5 u6:Option V) (ll:Addr) (W:Wo) (ek:List aU) (kk ws:List Str) (qk:Ad) (lN ts:List Addr),σ=[some (.ref c),some (.int n),some (.int b),some (.ref l),u4,u5,u6]/\UJ H Hx c D (.iQ oD (.dK (qp gs))) gs jl ll m.li /\
   pY CC CR CK C Hx c dc jl ll m q W ls qk ek kk lN ts (qN gs i) ws n b/\JL (W0 (BJ n t0)) ((qN gs i).map fun a=>(fQ a,iY a)) ws W/\ek.map core=W.es.map core)
  ⟨none,none,none,ll,_,_,_,_,_,_,_,rfl,S0,AF,.nil,rfl⟩ (fun i σ Hx _ h=>by obtain ⟨_,_,_,_,_,_,_,_,_,_,_,_,h,_⟩:=h;exact h.fz) ?_ ?_
 ·rintro i kv σ Hx p hkv ⟨u4,u5,u6,ll,W,ek,kk,ws,qk,lN,ts,rfl,SX,AX,JX,_⟩ hp0;unfold qp at hkv;rw [jQ] at hkv;obtain ⟨x,hx,rfl⟩:=A0t.mp hkv;have UW:=vm hx;have sp:=aO hp0 (.tup [V.int x.d,V.ref x.g]);have hpt:(upd Hx p (.tup [V.int x.d,V.ref x.g])) p=some (.tup [V.int x.d,V.ref x.g]):=ao;refine ⟨p,_,rfl,bZ.of hpt,rfl,_,_,rfl,_,_,rfl,rfl,?_⟩;have SY:UJ H (upd Hx p (.tup [V.int x.d,V.ref x.g])) c D (.iQ oD (.dK (qp gs))) gs jl ll m.li:=⟨fun a v h1 h2=>sp _ _ (SX.old a v h1 h2),sp _ _ SX.fz,fun y hy=>sp _ _ (SX.g y hy),SX.gn,SX.l0,fun y hy=>(SX.gN y hy).same sp,fun a v h1 h2=>(SX.oN a v h1 h2).same sp⟩;have AY:=AX.same sp
  show Lq _ _ _ _ (upd Hx p (.tup [V.int x.d,V.ref x.g]))
  generalize upd Hx p (.tup [V.int x.d,V.ref x.g])=HY at SY AY ⊢;clear sp hpt hp0 SX AX;refine ⟨_,rfl,x.g,rfl,⟨_,bR.of (SY.g x UW)⟩,?_⟩;refine dX (K:=K) (a:=x.g) (xs:=x.rs.map V.ref) (fun j σ Hz=>∃ (u6:Option V) (W:Wo) (ws:List Str) (ts:List Addr),σ=[some (.ref c),some (.int n),some (.int b),some (.ref l),some (.int x.d),some (.ref x.g),u6]/\UJ H Hz c D (.iQ oD (.dK (qp gs))) gs jl ll m.li /\
    pY CC CR CK C Hz c dc jl ll m q W ls qk ek kk lN ts (qN gs i++x.rs.take j) ws n b/\JL (W0 (BJ n t0)) ((qN gs i++x.rs.take j).map fun a=>(fQ a,iY a)) ws W)
   ⟨_,W,ws,ts,rfl,SY,by rw [List.take_zero,A0K];exact AY,by rw [List.take_zero,A0K];exact JX⟩ (fun j σ Hz _ h=>by obtain ⟨_,_,_,_,_,h,_⟩:=h;exact bR.of (h.g x UW)) ?_ ?_
  ·rintro j v σ Hz hv ⟨u6,W,ws,ts,rfl,SZ,AZ,JZ⟩;rw [jQ] at hv;obtain ⟨r,hr,rfl⟩:=A0t.mp hv;obtain ⟨ZQ,S7⟩:=UL r (gm x UW r (vm hr));rw [S7.e] at ZQ;have hrz:=SZ.old r _ (aM ZQ hc 0x5) ZQ;have tk:x.rs.take (j+1)=x.rs.take j++[r]:=by rw [A1a,hr];rfl
   have plen:(qN gs i++x.rs.take j).length<=30:=by
    have h1:=Cp (gs:=gs) (i+1);rw [qO hx,cat,gZ] at h1;rw [gZ,A0G];lia
   refine ⟨_,rfl,c,CC,dc,_,_,rfl,AZ.o,TC.cl,TC.n4,rfl,.inl ⟨rfl,_,bR.of AZ.J.l⟩,_,rfl,_,rfl,c,CC,dc,_,_,rfl,AZ.o,TC.cl,TC.n3,rfl,_,rfl,?_⟩;refine ⟨m,q,W,ls,_,r,iY r,fQ r,n,rfl,AZ.R,AZ.S,AZ.P,AZ.fr,S7.ok,S7.tx,hls,by lia,hrz,fun w' W' H' J R' fr' o=>⟨small 0xA,fun t ht=>?_⟩⟩;have nt:=aO ht (.tup [V.ref r,V.str w']);have jt:=nt _ _ (AZ.R.Q8 o AZ.J.l AZ.nj).1;have oo:=fun (a:Addr) (v:HO) (h1:a≠c) (h2:H a=some v)=>o a v (fun hm=>by rw [qo a hm] at h2;cases h2) (SZ.oN a v h1 h2) (SZ.old a v h1 h2);refine ⟨jl,_,_,rfl,rfl,jt,bQ (by rw [cg,AZ.J.lt];lia),?_⟩;refine ⟨_,W',ws++[w'],ts++[t],rfl,⟨fun a v h1 h2=>?_,?_,fun y hy=>?_,SZ.gn,SZ.l0,fun y hy=>((AZ.R.Q8 o (SZ.g y hy) (SZ.gN y hy)).2.same nt).Uk jt,fun a v h1 h2=>((oo a v h1 h2).2.same nt).Uk jt⟩,?_,?_⟩
   ·rw [aj (aq h2 jl0)];exact nt _ _ (oo a v h1 h2).1
   ·have R:=AZ.R;have h:=SZ.fz;rw [aj (aM h AZ.J.l 0x5)];exact nt _ _ (R.out o 0x21 h)
   ·rw [aj (SZ.gn y hy).1];exact nt _ _ (AZ.R.Q8 o (SZ.g y hy) (SZ.gN y hy)).1
   ·rw [tk,<- A1M];exact AZ.judge S7.ok S7.tx hls J R' fr' o ht
   ·rw [tk,<- A1M,iZ];exact .snoc JZ J
  ·rintro σ Hz ⟨u6,W,ws,ts,rfl,SZ,AZ,JZ⟩;rw [cg,A1c,<- qO hx] at AZ JZ;have hday:x.d<=9999:=by
    obtain ⟨a,ha⟩:=List.exists_mem_of_ne_nil _ (GO.ne x UW);have h1:=GO.day x UW a ha;obtain ⟨_,RWa⟩:=UL a (gm x UW a ha);rw [RWa.e] at h1;have h2:gU (Ro.vs (fQ a) (iY a))=fQ a:=by cases iY a <;> rfl
    rw [h2] at h1;rw [<- h1];exact RWa.d1
   have ln1:lN.length+1<=(qN gs (i+1)).length+1:=by
    have h1:=AY.ln;have h2:0<x.rs.length:=List.length_pos_iff.mpr (GO.ne x UW);rw [qO hx,gZ];lia
   have pl2:=Cp (gs:=gs) (i+1);rw [cat] at pl2;refine ⟨_,rfl,c,dc,_,rfl,AZ.o,rfl,_,rfl,?_⟩;refine ⟨c,dc,jl,ll,m,q,W,qk,ek,kk,lN,n,b,x.d,rfl,AZ.o,AZ.R,AZ.P.E.P.W,AZ.P.E.M,AZ.P.E.O,AZ.fr,AZ.P.E.B.val AZ.P.E.P.W.nd,n1,n2,hday,AZ.Ld,AZ.K,by lia,fun Fy Ck wV ek' S5 H' fr o' L' K' ec len hl' hq'=>?_⟩;have md:∀ kvs,Hz m.li=some 0x13->H' m.li=some 0x13:=fun kvs h=>fr _ _ (aM h AZ.o 0x5) (aM h AZ.Ld.l 0x5) h;refine ⟨_,_,_,Fy,W,ek',S5,ws,wV,Ck,ts,rfl,⟨fun a v h1 h2=>fr a v h1 (aq h2 SZ.l0) (SZ.old a v h1 h2),fr _ _ (aM SZ.fz AZ.o 0x5) (aM SZ.fz AZ.Ld.l 0x5) SZ.fz,fun y hy=>fr _ _ (aM (SZ.g y hy) AZ.o 0x5) (SZ.gn y hy).2 (SZ.g y hy),fun y hy=>⟨(SZ.gn y hy).1,?_⟩,?_,fun y hy=>(SZ.gN y hy).mv md,fun a v h1 h2=>(SZ.oN a v h1 h2).mv md⟩,AZ.day fr o' L' K' 0x3 hl' hq',JZ,ec⟩
   ·rcases hl' with e | e
    ·rw [e];exact (SZ.gn y hy).2
    ·exact aq (SZ.g y hy) e
   ·rcases hl' with e | e
    ·rw [e];exact SZ.l0
    ·cases hq2:H Fy with
     | none=>rfl
     | some v =>
      by_cases ec2:Fy=c
      ·rw [ec2,AZ.o] at e;cases e
      ·rw [SZ.old Fy v ec2 hq2] at e;cases e
 ·rintro σ Hx ⟨u4,u5,u6,ll,W,ek,kk,ws,qk,lN,ts,rfl,SX,AX,JX,EC⟩;have e:(qp gs).length=gs.length:=cg ..;rw [e,QJ,cat] at AX JX;exact k jl ll m q W qk ek kk lN ts out ws t0 Hx SX.old hp hu JX AX EC
abbrev QL:Stmt:=inClass (top 44) 5
structure ModB (K:PySem.W.Frag) (P:Params) (mg:Str->Option Value):Prop where
 bounds:∃ a b1 b2 b3 b4 b5 b6 b7,mg "BOUNDS"=some (.ref a)/\KD K P a [("day",.ref b1),("acres",.ref b2),("service",.ref b3),("bears",.ref b4),("edge",.ref b5),("number",.ref b6),("entry",.ref b7)]/\KTp K b4 [.int 0,.int 99]
inductive FJ (vs:List V) (H:Hp) (Q:VK) (cB:XK):Prop
 | mk (n:Int) (_:vs=[.str "bears",.int n]) (_:0<=n) (_:n<=99) (_:Q (.bl true) H):FJ vs H Q cB
theorem V0 {p r:Addr}{Q:VK} (hp:H p=some 0x2E) (hr:H r=some (.tup ys)) (fx:xs.all gR=true) (fy:ys.all gR=true) (k:Q (.bl (decide (xs=ys))) H):XF (.ref p) (.ref r) H Q:=by
 refine ⟨.tuple (xs.map fU),.tuple (ys.map fU),.tup hp (jg xs fx),.tup hr (jg ys fy),iH xs fx,iH ys fy,?_,?_⟩
 ·have:=kY xs
  show PyData.depthAll (xs.map fU)+1<=8
  lia
 ·show Q (.bl (PyData.eqvAll (xs.map fU) (ys.map fU))) H
  rw [jH xs ys fx fy];exact k
inductive FN (CC:Addr) (vs:List V) (H:Hp) (Q:VK) (cB:XK):Prop
 | mk (c dc z jl ll:Addr) (n b:Int) (ts pr:List Addr) (ws:List Str) (dat:Addr->List V) (i:Nat) (r:Addr) (w:Str) (_:vs=[.ref c,.ref r]) (_:H c=some (.ins CC dc (Cj n b z jl ll))) (_:fK H jl ts pr ws) (_:(∀ a∈pr,H a=some (.tup (dat a))/\(dat a).all gR=true)) (_:(pr.map dat).Nodup) (_:pr[i]?=some r) (_:ws[i]?=some w) (_:Q (.str w) H):FN CC vs H Q cB
theorem QM (F:fu K "fits" "fits" Ib f fd) (mo:ModB K w.params mg):aL P w K mg base bO 1 f fd ["sort", "piece"] FJ:=by
 obtain ⟨aB,b1,b2,b3,b4,b5,b6,b7,mB,kB,t2⟩:=mo.bounds;refine F.ok qG 0x1 0x2;obtain ⟨n,rfl,h1,h2,k⟩:=h;refine ⟨_,au (bK (aQ Hs (pv 0) (cQ rfl mB rfl (v:=.ref aB)) 0xE)
   (au (tu (aN Ht (cQ rfl mB rfl (v:=.ref aB)) (pv 0) 0x4) (lC rfl (bT (bf (i:=2) qG.nd rfl 0x8) (bT (bf (i:=3) qG.nd rfl 0x8) gC))))
   (aG (aV (zZ tL tL (pv 2) 0x10 (pv 3))))) aR) dM,?_⟩
 refine ⟨_,rfl,_,aB,_,rfl,rfl,kB,_,rfl,dU ?_⟩;refine ⟨_,rfl,aB,_,_,_,rfl,rfl,kB,rfl,?_⟩;refine ⟨b4,_,rfl,t2.sq _,rfl,_,_,rfl,_,_,rfl,rfl,?_⟩;refine ⟨_,rfl,_,rfl,_,_,rfl,rfl,_,rfl,?_⟩;rw [A0g h1];refine dU ⟨_,rfl,_,_,rfl,rfl,?_⟩
 show Q (.bl (decide (n<=99))) H
 rw [A0g h2];exact k
theorem QS:aP ["acres", "bears"] ["acres", "bears"] (aH z9):=0x0
theorem KN (F:fu K "check_land" "check_land" z9 f fd)  (G1:aL P w K mg base bO 2 g1 d1 ["acres"] Ie) (M1:Ms K mg "check_acres" g1 d1 ["acres"])
  (G2:aL P w K mg base bO 1 g2 d2 ["sort", "piece"] FJ) (M2:Ms K mg "fits" g2 d2 ["sort", "piece"]):aL P w K mg base bO 3 f fd ["acres", "bears"] uW:=by
 refine F.ok QS 0x1 0x2;obtain ⟨n,b,rfl,n1,n2,b1,b2,k⟩:=h;have hr1:cH 1 _:=hr.mono 0x6;refine ⟨_,au (bV (bJ G1 hr rfl M1.m M1.k M1.b .nil bC (ak (pv 0) aC)))
  (aG (bK (iT (dZ (bJ G2 hr1 rfl M2.m M2.k M2.b .nil bC (ak aK 0x26)))) dM aR)),?_⟩
 exact ⟨_,rfl,n,rfl,n1,n2,_,rfl,b,rfl,b1,b2,_,rfl,cA k⟩
theorem FP:aP ["self", "row", "charter", "word"] ["self", "row"] (aH QL):=0x0
theorem V1 (TC:lM K CC) (F:fu K "verdict" "Court.verdict" QL f fd):aL P w K mg base bO 2 f fd ["self", "row"] (FN CC):=by
 refine F.ok FP 0x1 0x2;obtain ⟨c,dc,z,jl,ll,n,b,ts,pr,ws,dat,i,r,w0,rfl,hc,J,hd,nd,hi,hw,k⟩:=h;refine ⟨_,au (fM A0N rfl (cX 0xC) (lC rfl (bT (bf (i:=2) FP.nd rfl 0x8) (bT (bf (i:=3) FP.nd rfl 0x8) gC)))
  (aG (bK (aQ (XH (u64 hr)) (pv 2) 0x10 (bB _)) (aG (aV (pv 3))) aR))) dM,?_⟩
 have hil:=(A0j.mp hi).1;have rm:=vm hi;refine ⟨_,rfl,c,CC,dc,_,_,rfl,hc,TC.cl,TC.n4,rfl,jl,rfl,⟨_,bR.of J.l⟩,?_⟩;refine dX (K:=K) (a:=jl) (xs:=ts.map V.ref) (fun j σ Hx=>∃ (u2 u3:Option V),σ=[some (.ref c),some (.ref r),u2,u3]/\Hx=H/\j<=i)
  ⟨none,none,rfl,rfl,A1f _⟩ (fun j σ Hx _ h=>by obtain ⟨_,_,_,h,_⟩:=h;rw [h];exact bR.of J.l) ?_ ?_
 ·rintro j v σ Hx hv ⟨u2,u3,rfl,rfl,hji⟩;rw [jQ] at hv;obtain ⟨t,ht,rfl⟩:=A0t.mp hv;obtain ⟨p,hp⟩:∃ p,pr[j]?=some p:=⟨_,jR 0x3⟩;obtain ⟨w1,hw1⟩:∃ w1,ws[j]?=some w1:=⟨_,jR (by rw [J.lw];lia)⟩;have tt:=J.at' j t p w1 ht hp hw1;have pm:=vm hp;refine ⟨t,_,rfl,bZ.of tt,rfl,_,_,rfl,_,_,rfl,rfl,?_⟩;refine ⟨_,rfl,_,rfl,V0 (hd p pm).1 (hd r rm).1 (hd p pm).2 (hd r rm).2 ⟨_,rfl,iy (fun e=>?_) (fun e=>?_)⟩⟩
  ·have ed:dat p=dat r:=nU e;have a:(pr.map dat)[j]?=some (dat r):=by rw [jQ,hp,<- ed];rfl
   have a2:(pr.map dat)[i]?=some (dat r):=by rw [jQ,hi];rfl
   have hl:j<(pr.map dat).length:=by rw [cg];lia
   have eij:=(List.getElem?_inj hl nd).mp (a.trans a2.symm);subst eij;rw [hw] at hw1;injection hw1 with hw1;subst hw1;exact ⟨_,rfl,k⟩
  ·refine ⟨_,_,rfl,rfl,?_⟩
   by_cases eij:j=i
   ·subst eij;rw [hi] at hp;injection hp with hp;subst hp;exact absurd (A0g rfl) e
   ·lia
 ·rintro σ Hx ⟨u2,u3,rfl,rfl,hji⟩;rw [cg,J.lt] at hji;exact absurd hil 0x3
end
abbrev Zc:Stmt:=top 57
theorem lO (h:Str) (l:List Str):inV (V.str h) (l.map V.str)=decide (h∈l):=by
 unfold inV
 induction l with
 | nil=>rfl
 | cons x r ih =>
  rw [A0m,A2l,ih]
  show ((x==h)||decide (h∈r))=_
  rw [A1g,Bool.or_eq_true,A1H,A1H,A0d,A3s]
  constructor
  ·rintro (e | e)
   ·exact .inl e.symm
   ·exact .inr e
  ·rintro (e | e)
   ·exact .inl e.symm
   ·exact .inr e
theorem gY (l:List Str):(l.map V.str).all oY=true:=by
 rw [List.all_map];exact A1u.mpr fun x _=>rfl
theorem nA {k:Str}{b:Bool}{A:Prop} (h:decide (k∈ls)=b) (g:if b=true then A else B):if (if (false:Bool)=true then !inV (V.str k) (ls.map V.str) else inV (V.str k) (ls.map V.str))=true then A else B:=by
 rw [A0f A0p,lO,h];exact g
theorem oM {k:Str}{b:Bool}{A:Prop} (h:decide (k=l)=b) (g:if b=true then A else B):if decide (V.str k=V.str l)=true then A else B:=by
 rw [iu,h];exact g
theorem QT {k:Str}{b:Bool}{A:Prop} (h:decide (k=l)=b) (g:if (!b)=true then A else B):if (!decide (V.str k=V.str l))=true then A else B:=by
 rw [iu,h];exact g
theorem zf {h:Str}{l:List Str}{A:Prop} (h1:h∈l->A) (h2:h∉l->B):if (if (false:Bool)=true then !inV (V.str h) (l.map V.str) else inV (V.str h) (l.map V.str))=true then A else B:=by
 rw [A0f A0p,lO];exact iy (fun c=>h1 (nU c)) fun c=>h2 fun z=>c (A0g z)
abbrev Bx (q:Ad) (H:Hp) (W:Wo):Prop:=BxL H q.kvs q.he q.dd q.lg W.hs (Iv W.lg) W.gone
inductive QV (vs:List V) (H:Hp) (Q:VK) (cB:XK):Prop
 | mk (q:Ad) (W:M.Wo) (r:Addr) (ro:M.Ro) (dy:Int) (_:vs=[.ref q.B,.ref r]) (_:Ap q) (_:Bk q H W.es W.ks) (_:Bx q H W) (_:WF W.es) (_:W.es.length<64) (_:H r=some (.tup (Ro.vs dy ro))) (_:∀ (z:Str) (H':Hp),Same H H'->Wd2 W dy ro z->Q (.str z) H'):QV vs H Q cB
theorem Cq:aP ["_law_book_here", "_law_row_here", "_law_kind", "_law_man"] A4P (aH Zc):=0x0
theorem Zd (F:fu K "_law_why" "_law_why" Zc f fd)  (G1:aL P w K mg base bO 2 g1 d1 A4N Ik) (M1:Ms K mg "_law_bound_to" g1 d1 A4N):aL P w K mg base bO 3 f fd A4P QV:=by
 refine F.ok Cq 0x1 0x2;obtain ⟨q,W,r,ro,dy,rfl,ap,b0,x0,Wf,h64,hx,k⟩:=h;have nd:=Wf.nd;refine ⟨_,(au (aY (i:=2) Cq.nd rfl 0x8 0x19)
  (au (bK (PW.pt (lZ (aQ gF (pv 2) (cZ (ak aK (ak aK (ak aK (ak aK aC))))) 0xE) (jC (xu (JG (u1 hr) 0x19 0x1B) 0xE)))) (aG (aV aK)) aR)
  (au (bK (PW.pt (lZ (aQ gF (pv 2) (cZ (ak aK (ak aK aC))) 0xE) (jC (aQ gF 0x19 0x1B 0xE)))) (aG (aV aK)) aR)
  (au (aY (i:=3) Cq.nd rfl 0x8 0x19)
  (au (bK (aQ gF (pv 2) (cZ (ak aK (ak aK aC))) 0xE) (aG (aY (i:=3) Cq.nd rfl 0x8 0x19)) aR)
  (au (bK (aQ cV (pv 2) aK (bB _)) (aG (aY (i:=3) Cq.nd rfl 0x8 0x19)) aR)
  (au (bK (PW.pt (lZ (aQ oU (pv 2) aK (bB _)) (jC (aQ gF (pv 3) 0x1B 0xE)))) (aG (aV aK)) aR)
  (au (bK (PW.pt (lZ (aQ gF (pv 2) (cZ (ak aK (ak aK aC))) 0xE) (jC (aQ Lz 0x19 (bH (u1 hr) 0x1B 0x19 0x4) (bB _))))) (aG (aV aK)) aR)
  (au (bK (PW.pt (lZ (aQ cV (pv 2) aK (bB _)) (jC (aQ lD 0x19 (bJ G1 hr rfl M1.m M1.k M1.b .nil bC (ak (pv 0) (ak (pv 3) aC))) 0xE)))) (aG (aV aK)) aR)
  (aG (aV aK))))))))))),?_⟩
 by_cases hg:Ey ro=true
 ·cases ro with
  | heir _ _=>cases hg
  | liege _ _=>cases hg
  | death _=>cases hg
  | grant e n m a s =>
  refine ⟨_,rfl,r,_,_,_,rfl,rfl,bZ.of hx,aJ (j:=0) rfl,?_⟩;refine ⟨_,rfl,small 0xA,fun t1 ht1=>⟨t1,_,rfl,.inr (bZ.of ao),rfl,rfl,_,rfl,nA (k:="grant") (ls:=["grant", "part", "convey", "surrender"]) (b:=true) 0x1A ?_⟩⟩
  apply 0o1 H t1 ht1 s1 hk0 H1
  have b1:=b0.same s1;have x1:=s1 _ _ hx;refine dU ?_;refine ⟨_,rfl,r,_,_,_,rfl,rfl,bZ.of x1,aJ (j:=2) rfl,_,rfl,q.B,_,rfl,b1.gl,q.l,_,rfl,dj.k (k:=.inr e) b1.l,_,rfl,?_⟩;rw [kJ]
  by_cases he:e∈nms W.es
  rotate_left
  ·rw [A0n he];exact dU (k _ _ s1 (.inl ⟨by decide +kernel,.no he⟩))
  rw [A0g he];refine cA ?_;obtain ⟨y,hy,rfl⟩:=fP he;refine ⟨_,rfl,small 0xA,fun t2 ht2=>⟨t2,_,rfl,.inr (bZ.of ao),rfl,rfl,_,rfl,nA (k:="grant") (ls:=["grant", "part"]) (b:=true) 0x1A ?_⟩⟩
  apply 0o1 H1 t2 ht2 n2 hk0 H2
  have s2:=s1.trans n2;have b2:=b1.same n2;have x2:=n2 _ _ x1;refine dU ?_;refine ⟨_,rfl,r,_,_,_,rfl,rfl,bZ.of x2,aJ (j:=3) rfl,_,rfl,q.B,_,rfl,b2.gk,q.kn,_,rfl,.inl (bR.of b2.k),rfl,gY _,_,rfl,zf (fun hk=>?_) (fun hn=>?_)⟩
  ·exact k _ _ s2 (.inl ⟨by decide +kernel,.tk he hk⟩)
  refine ⟨_,rfl,r,_,_,_,rfl,rfl,bZ.of x2,aJ (j:=2) rfl,?_⟩;refine ⟨_,rfl,small 0xA,fun t3 ht3=>⟨t3,_,rfl,.inr (bZ.of ao),rfl,rfl,_,rfl,nA (k:="grant") (ls:=["grant", "part"]) (b:=true) 0x1A ?_⟩⟩
  apply 0o1 H2 t3 ht3 n3 hk0 H3
  have s3:=s2.trans n3;have b3:=b2.same n3;have x3:=n3 _ _ x2;refine dU ?_;refine ⟨_,rfl,r,_,_,_,rfl,rfl,bZ.of x3,aJ (j:=4) rfl,?_⟩;refine ⟨_,rfl,rfl,_,rfl,oM (b:=false) 0x1A (cA ?_)⟩;refine ⟨_,rfl,rfl,_,rfl,QT (b:=false) 0x1A ?_⟩;refine dU ⟨_,rfl,_,rfl,q.B,_,rfl,b3.gx,q.dd,_,rfl,.inl (bR.of (x0.same s3).x),rfl,gY _,_,rfl,zf (fun hd=>?_) (fun hd=>?_)⟩
  ·exact k _ _ s3 (.inl ⟨by decide +kernel,.de he hn hd⟩)
  refine ⟨_,rfl,small 0xA,fun t4 ht4=>⟨t4,_,rfl,.inr (bZ.of ao),rfl,rfl,_,rfl,nA (k:="grant") (ls:=["grant", "part"]) (b:=true) 0x1A ?_⟩⟩
  apply 0o1 H3 t4 ht4 n4 hk0 H4
  have s4:=s3.trans n4;have b4:=b3.same n4;have x4:=n4 _ _ x3;refine dU ?_;refine ⟨_,rfl,r,_,_,_,rfl,rfl,bZ.of x4,aJ (j:=5) rfl,_,rfl,q.B,_,rfl,b4.go,_,rfl,r,_,_,_,rfl,rfl,bZ.of x4,aJ (j:=2) rfl,q.o,_,rfl,gkv b4.o nd hy,_,_,rfl,rfl,_,rfl,?_⟩;refine iy (fun hgt=>?_) (fun hle=>?_)
  ·exact k _ _ s4 (.inl ⟨by decide +kernel,.ac hy rfl hn hd (by have h:=hgt;simp only [A2g] at h;exact h)⟩)
  refine ⟨_,rfl,rfl,_,rfl,oM (b:=false) 0x1A (cA (cA ?_))⟩;exact k _ _ s4 (.inr ⟨rfl,y,hy,rfl,hn,hd,by have h:=hle;simp only [A2g] at h;lia⟩)
 ·obtain ⟨kd,z,h0,h2,e1,e2,e3,e4,hv,hs⟩:∃ kd z:Str,(Ro.vs dy ro)[0]?=some (.str kd)/\(Ro.vs dy ro)[2]?=some (.str z)/\decide (kd∈(["grant", "part", "convey", "surrender"]:List Str))=false/\decide (kd∈(["grant", "part"]:List Str))=false/\decide (kd="convey")=false/\decide (kd="surrender")=false/\(z∈W.gone->Jo W dy ro "dead" W)/\(z∉W.gone->(decide (kd="liege")=false/\St W ro)\/∃ l,kd="liege"/\ro=.liege z l):=by
   cases ro with
   | grant _ _ _ _ _=>exact absurd rfl hg
   | heir a b=>exact ⟨"heir",a,rfl,rfl,by decide +kernel,by decide +kernel,by decide +kernel,by decide +kernel,.hd,fun h=>.inl ⟨by decide +kernel,h⟩⟩
   | liege a b=>exact ⟨"liege",a,rfl,rfl,by decide +kernel,by decide +kernel,by decide +kernel,by decide +kernel,.ld,fun h=>.inr ⟨b,rfl,rfl⟩⟩
   | death a=>exact ⟨"death",a,rfl,rfl,by decide +kernel,by decide +kernel,by decide +kernel,by decide +kernel,.dx,fun h=>.inl ⟨by decide +kernel,h⟩⟩
  refine ⟨_,rfl,r,_,_,_,rfl,rfl,bZ.of hx,aJ (j:=0) h0,?_⟩;refine ⟨_,rfl,small 0xA,fun t1 ht1=>⟨t1,_,rfl,.inr (bZ.of ao),rfl,rfl,_,rfl,nA (k:=kd) (ls:=["grant", "part", "convey", "surrender"]) e1 (cA (cA ?_))⟩⟩
  apply 0o1 H t1 ht1 s1 hk0 H1
  refine ⟨_,rfl,small 0xA,fun t2 ht2=>⟨t2,_,rfl,.inr (bZ.of ao),rfl,rfl,_,rfl,nA (k:=kd) (ls:=["grant", "part"]) e2 (cA (cA ?_))⟩⟩;have s2:=s1.trans (aO ht2 (.tup [.str "grant",.str "part"]));generalize upd H1 t2 (.tup [.str "grant",.str "part"])=H2 at s2 ⊢;refine ⟨_,rfl,r,_,_,_,rfl,rfl,bZ.of (s2 _ _ hx),aJ (j:=2) h2,?_⟩;refine ⟨_,rfl,small 0xA,fun t3 ht3=>⟨t3,_,rfl,.inr (bZ.of ao),rfl,rfl,_,rfl,nA (k:=kd) (ls:=["grant", "part"]) e2 (cA ?_)⟩⟩;have s3:=s2.trans (aO ht3 (.tup [.str "grant",.str "part"]));generalize upd H2 t3 (.tup [.str "grant",.str "part"])=H3 at s3 ⊢;refine ⟨_,rfl,rfl,_,rfl,oM e3 (cA ?_)⟩;refine ⟨_,rfl,rfl,_,rfl,QT e4 ?_⟩;refine dU ⟨_,rfl,_,rfl,q.B,_,rfl,(b0.same s3).gx,q.dd,_,rfl,.inl (bR.of (x0.same s3).x),rfl,gY _,_,rfl,zf (fun hd=>?_) (fun hd=>?_)⟩
  ·exact k _ _ s3 (.inl ⟨by decide +kernel,hv hd⟩)
  refine ⟨_,rfl,small 0xA,fun t4 ht4=>⟨t4,_,rfl,.inr (bZ.of ao),rfl,rfl,_,rfl,nA (k:=kd) (ls:=["grant", "part"]) e2 (cA (cA ?_))⟩⟩;have s4:=s3.trans (aO ht4 (.tup [.str "grant",.str "part"]));generalize upd H3 t4 (.tup [.str "grant",.str "part"])=H4 at s4 ⊢;rcases hs hd with ⟨e5,hs⟩ | ⟨l,e5,rfl⟩
  ·refine ⟨_,rfl,rfl,_,rfl,oM e5 (cA (cA ?_))⟩;exact k _ _ s4 (.inr ⟨rfl,hs⟩)
  ·refine ⟨_,rfl,rfl,_,rfl,oM (b:=true) (A0g e5) (dU ?_)⟩;refine ⟨_,rfl,r,_,_,_,rfl,rfl,bZ.of (s4 _ _ hx),aJ (j:=3) rfl,_,rfl,_,rfl,q,W.es,W.ks,z,rfl,ap,b0.same s4,Wf,h64,fun R ss H5 s5 hR0 hR hl hm=>⟨R,_,rfl,.inl (bR.of hR),rfl,gY _,_,rfl,?_⟩⟩;rw [A0i rfl,lO]
   by_cases c:l∈ss
   ·rw [A0g c];exact cA (k _ _ (s4.trans s5) (.inr ⟨rfl,hd,(hm l).mp c⟩))
   ·rw [A0n c];exact dU (k _ _ (s4.trans s5) (.inl ⟨by decide +kernel,.lb hd fun b=>c ((hm l).mpr b)⟩))
abbrev zj:Stmt:=top 59
structure uY (H:Hp) (B h d:Addr) (kvs hs:List 0x30) (bd:List Str):Prop where
 o:H B=some 0x13
 vh:bI kvs (.inr "heirs")=some (.ref h)
 vd:bI kvs (.inr "dead")=some (.ref d)
 h:H h=some (.dK hs)
 d:H d=some (.lst (bd.map V.str))
 len:kvs.length<=20
theorem uY.same {B h d:Addr}{bd:List Str} (k:uY H B h d kvs hs bd) (s:Same H H'):uY H' B h d kvs hs bd:=⟨s _ _ k.o,k.vh,k.vd,s _ _ k.h,s _ _ k.d,k.len⟩
inductive Ze (K:W.Frag) (vs:List V) (H:Hp) (Q:VK) (cB:XK):Prop
 | mk (B h d:Addr) (kvs hs:List 0x22) (bd:List Str) (hv:Str->Option Str) (gv:Str->Bool) (man:Str) (_:vs=[.ref B,.str man]) (_:uY H B h d kvs hs bd) (_:HV hs hv) (_:(∀ m,decide (m∈bd)=gv m)) (_:hs.length<=900) (_:∀ r H',Same H H'->Tk hv gv [man] (hv man) r->Q (mZ r) H'):Ze K vs H Q cB
theorem Zf:aP ["_law_book_here", "_law_man", "_law_met", "_law_one"] A4N (aH zj):=0x0
theorem a00 (F:fu K "_law_taker" "_law_taker" zj f fd):aL P w K mg base bO 1 f fd A4N (Ze K):=by
 refine F.ok Zf 0x1 0x2;obtain ⟨B,hA,d,kvs,hs,bd,hv,gv,man,rfl,bk,hH,hG,hl,k⟩:=h;refine ⟨_,au (aY (i:=2) Zf.nd rfl 0x8 (cU 0x26))
  (au (tD A0N (xu (tZ (u1 hr) (aN bD (pv 2) (zX tH aA) 0x4) 0x1B) 0xE)
   (au (aY (i:=3) Zf.nd rfl 0x8 (bH (u1 hr) 0x1B (aN bD (pv 2) (zX tH aA) 0x4) 0x4))
   (au (bK (aQ gF (pv 3) (pv 2) 0xE) (aG (aV lB)) aR)
   (au (bK (aQ lD (pv 3) 0x1B 0xE) (aG (aV (pv 3))) aR)
   (aG (bV (iR A0H A0O A0P cT (pv 2) (ak (pv 3) aC))))))))
  (aG (aV lB))),?_⟩
 refine ⟨_,rfl,small 0xA,fun t ht=>?_⟩;have s1:=aO ht (.lst [V.str man]);refine ⟨fun m σ Hx=>∃ (l0:List Str) (y:Str) (u3:Option V),m=hs.length+1 - l0.length/\σ=[some (.ref B),some (.str man),some (.ref t),u3]/\Same H Hx/\Hx t=some (.lst ((l0++[y]).map V.str))/\(l0++[y]).Nodup/\(∀ z∈l0,(hv z).isSome=true) /\
   ∀ r,Tk hv gv (l0++[y]) (hv y) r->Tk hv gv [man] (hv man) r,⟨_,[],man,none,rfl,rfl,s1,ao,by simp,(fun z hz=>nomatch hz),fun r h=>h⟩,?_⟩
 rintro m σ Hx ⟨l0,y,u3,rfl,rfl,sx,tx,nd,ha,hk⟩;have bx:=bk.same sx;have gh:dj Hx B (V.str "heirs") (some (.ref hA)):=by
  have:=dj.k (k:=.inr "heirs") bx.o;rw [bx.vh] at this;exact this
 have gd:dj Hx B (V.str "dead") (some (.ref d)):=by
  have:=dj.k (k:=.inr "dead") bx.o;rw [bx.vd] at this;exact this
 refine ⟨_,rfl,_,rfl,t,_,_,_,rfl,rfl,bR.of tx,Il l0 y,_,rfl,B,_,rfl,gh,hA,_,rfl,dj.k (k:=.inr y) bx.h,_,rfl,?_⟩;have eq:bI hs (.inr y)=(hv y).map V.str:=hH y;cases hy:hv y with
 | none =>
  rw [hy] at eq;rw [eq];refine cA ?_;exact k none Hx sx (hk none (by rw [hy];exact .none))
 | some h =>
  rw [hy] at eq;rw [eq];have gy:dj Hx hA (V.str y) (some (V.str h)):=by
   have:=dj.k (k:=.inr y) bx.h;rw [eq] at this;exact this
  refine dU ⟨fun σ' H'=>∃ (CZ:List Str) (y':Str) (u3:Option V),hs.length+1 - CZ.length<hs.length+1 - l0.length/\σ'=[some (.ref B),some (.str man),some (.ref t),u3]/\Same H H'/\H' t=some (.lst ((CZ++[y']).map V.str))/\(CZ++[y']).Nodup/\(∀ z∈CZ,(hv z).isSome=true) /\
    ∀ r,Tk hv gv (CZ++[y']) (hv y') r->Tk hv gv [man] (hv man) r,fun σ' H' ⟨CZ,y',u3,q1,q⟩=>⟨_,q1,CZ,y',u3,rfl,q⟩,?_⟩
  refine ⟨_,rfl,B,_,rfl,gh,_,rfl,_,rfl,t,_,_,_,rfl,rfl,bR.of tx,Il l0 y,hA,_,rfl,gy,?_⟩;refine ⟨_,rfl,_,rfl,t,_,rfl,.inl (bR.of tx),rfl,gY _,_,rfl,?_⟩
  show if inV (V.str h) ((l0++[y]).map V.str)=true then _ else _
  rw [lO];refine iy (fun hm=>?_) (fun hm=>?_)
  ·exact k none Hx sx (hk none (by rw [hy];exact .met (nU hm)))
  ·have hm':¬ h∈l0++[y]:=fun e=>hm (A0g e);refine ⟨_,rfl,_,rfl,B,_,rfl,gd,d,_,rfl,.inl (bR.of bx.d),rfl,gY _,_,rfl,?_⟩
   show if (!inV (V.str h) (bd.map V.str))=true then _ else _
   rw [lO,hG];have all1:∀ z∈l0++[y],(hv z).isSome=true:=fun z hz=>by
    rcases A0l.mp hz with q | q
    ·exact ha z q
    ·rw [A0b.mp q,hy];rfl
   have hfew:=few hH nd all1;rw [gZ,A0r] at hfew;cases hg:gv h with
   | false =>
    refine dU ⟨_,rfl,?_⟩;exact k (some h) Hx sx (hk (some h) (by rw [hy];exact .alive hm' hg))
   | true =>
    refine cA ?_;refine ⟨_,rfl,.inl ⟨rfl,_,bR.of tx⟩,_,rfl,t,_,_,rfl,rfl,tx,(by rw [cg,gZ,A0r];exact bQ 0x3),?_⟩;refine ⟨l0++[y],h,_,by rw [gZ,A0r];lia,rfl,bU sx ht,?_,uD nd hm',all1,fun r q=>hk r (by rw [hy];exact .step hm' hg q)⟩;rw [ao,iZ (l₂:=[h])];rfl
abbrev sDo:Stmt:=top 61
theorem gj {k:Str}{A:Prop} (h:decide (k=l)=false) (g:B):if decide (V.str k=V.str l)=true then A else B:=oM h (cA g)
theorem Jd {k:Str}{A:Prop} (h:decide (k=l)=true) (g:A):if decide (V.str k=V.str l)=true then A else B:=oM h (dU g)
def iJ (q:Ad):List Addr:=[q.l,q.h,q.o,q.d,q.kn,q.he,q.dd,q.lg]
def ji (q:Ad) (H H':Hp):Prop:=∀ c u,c∉iJ q->H c=some u->H' c=some u
theorem ji.trans {q:Ad} (a:ji q H H1) (b:ji q H1 H2):ji q H H2:=fun c u h e=>b c u h (a c u h e)
theorem ji.same {q:Ad} (s:Same H H'):ji q H H':=fun c u _ e=>s c u e
theorem ji.put {q:Ad} (h:a∈iJ q):ji q H (upd H a o):=fun c u hc e=>by rw [aj fun z=>hc (by rw [z];exact h)];exact e
theorem fj.x {q:Ad} (o:fj q H H'):ji q H H':=fun c u h e=>by
 simp only [iJ,A0d,A0w,A1k,A4v] at h;exact o c u h.1 h.2.1 h.2.2.1 h.2.2.2.1 h.2.2.2.2.1 e
theorem uZ {q:Ad}{W:Wo}{es:List aU} (b:Bk q H es ks) (x:Bx q H W) (o:ji q H H')  (h:H c=some (.tup ys)):H' c=some (.tup ys):=by
 refine o c _ ?_ h;simp only [iJ,A0d,A0w,A1k,A4v];exact ⟨aM h b.l 0x5,aM h b.h 0x5,aM h b.o 0x5,aM h b.d 0x5,aM h b.k 0x5,aM h x.h 0x5,aM h x.x 0x5,aM h x.g 0x5⟩
theorem QW {q:Ad}{W:Wo} (ap:Ap q) (x:Bx q H W) (o:fj q H H'):Bx q H' W:=by
 have g:=fun {c:Addr}{u:HO} (j:Nat) (hj:[q.a1,q.a2,q.a3,q.a4,q.a5,q.B,q.l,q.h,q.o,q.d,q.kn,q.dd,q.he,q.lg][j]?=some c) (h:10<j) (e:H c=some u)=>o c u (bN ap j 6 hj rfl 0x3) (bN ap j 7 hj rfl 0x3) (bN ap j 8 hj rfl 0x3) (bN ap j 9 hj rfl 0x3) (bN ap j 10 hj rfl 0x3) e;exact ⟨x.vh,x.vg,g 12 rfl 0x6 x.h,g 13 rfl 0x6 x.g,g 11 rfl 0x6 x.x⟩
theorem FQ {q:Ad}{es:List aU} (ap:Ap q) (b:Bk q H es ks) (j:Nat) (hj:[q.a1,q.a2,q.a3,q.a4,q.a5,q.B,q.l,q.h,q.o,q.d,q.kn,q.dd,q.he,q.lg][j]?=some c) (h:10<j):Bk q (upd H c o) es ks:=by
 have g:=fun {a:Addr}{u:HO} (i:Nat) (hi:[q.a1,q.a2,q.a3,q.a4,q.a5,q.B,q.l,q.h,q.o,q.d,q.kn,q.dd,q.he,q.lg][i]?=some a) (hl:i<=10) (e:H a=some u)=>(show (upd H c o) a=some u by rw [aj (bN ap i j hi hj 0x3)];exact e)
 exact ⟨g 5 rfl 0x6 b.b,b.vl,b.vh,b.vo,b.vd,b.vk,b.vx,g 6 rfl 0x6 b.l,g 7 rfl 0x6 b.h,g 8 rfl 0x6 b.o,g 9 rfl 0x6 b.d,g 10 rfl 0x6 b.k,b.len⟩
theorem V2 {q:Ad}{es:List aU}{y:aU}{m:Str} (ap:Ap q) (b:Bk q H es ks) (W:WF es) (hy:y∈es):Bk q (upd H q.h (.dK (putK (hoL es) (.inr y.n) (.str m)))) 0x18 ks:=by
 have b1:=fJ.uh (l':=putK (hoL es) (.inr y.n) (.str m)) ap b;have e2:hoL 0x18=putK (hoL es) (.inr y.n) (.str m):=rW (g:=lY m) 0xF W.nd hy;have e1:lG 0x18=lG es:=fY (g:=lY m) 0xF 0xF es;have e3:lX 0x18=lX es:=fY (g:=lY m) 0xF 0xF es;have e4:yE 0x18=yE es:=fY (g:=lY m) 0xF 0xF es
 show BQ q _ (lG 0x18) (hoL 0x18) (lX 0x18) (yE 0x18) ks
 rw [e1,e2,e3,e4];exact b1
inductive Zg (K:W.Frag) (vs:List V) (H:Hp) (Q:VK) (cB:XK):Prop
 | mk (q:Ad) (W:M.Wo) (ls:List Str) (j:Nat) (r:Addr) (ro:M.Ro) (dy wd:Int) (_:vs=[.ref q.B,.ref r]) (_:Ap q) (_:Bk q H W.es W.ks) (_:Bx q H W) (_:Wp W ls j wd) (_:(∀ e∈W.es,jB H e.tb e.due.1 e.due.2)) (_:St W ro) (_:Ro.Ok ls ro) (_:0x3B) (_:j<=17) (_:H r=some (.tup (Ro.vs dy ro))) (_:∀ W' H',Jo W dy ro "stands" W'->Bk q H' W'.es W'.ks->Bx q H' W'->(∀ e∈W'.es,jB H' e.tb e.due.1 e.due.2)->ji q H H'->Q .non H'):Zg K vs H Q cB
theorem QX {q:Ad}{es:List aU}{y:aU}{n m:Str}{a s:Int} (W:WF es) (hy:y∈es) (hnn:n∉nms es) (b':BQ q H' (putK (lG es) 0x2C (.str y.n)) (putK (hoL es) 0x2C (.str m)) (putK (putK (lX es) 0x2C (.int a)) (.inr y.n) (.int (y.own - a))) (putK (yE es) 0x2C (.ref t)) (ks++[n])):Bk q H' (stp y es 0 0 t 0 (.grant y.n n m a s)) (ks++[n]):=by
 have Wj:y.n∈nms es:=A0e.mpr ⟨y,hy,rfl⟩;rw [P0 Wj hnn] at b';have e1:lG (stp y es 0 0 t 0 (.grant y.n n m a s))=putK (lG es) 0x2C (.str y.n):=by
  show kv _ (mod y.n (nR a) es++[rG y.n n m a s 0 t])=_
  rw [iD (g:=nR a) (x:=rG y.n n m a s 0 t) 0xF hnn,fY (g:=nR a) 0xF 0xF];rfl
 have e2:hoL (stp y es 0 0 t 0 (.grant y.n n m a s))=putK (hoL es) 0x2C (.str m):=by
  show kv _ (mod y.n (nR a) es++[rG y.n n m a s 0 t])=_
  rw [iD (g:=nR a) (x:=rG y.n n m a s 0 t) 0xF hnn,fY (g:=nR a) 0xF 0xF];rfl
 have e3:lX (stp y es 0 0 t 0 (.grant y.n n m a s))=putK (putK (lX es) (.inr y.n) (.int (y.own - a))) 0x2C (.int a):=by
  show kv _ (mod y.n (nR a) es++[rG y.n n m a s 0 t])=_
  rw [iD (g:=nR a) (x:=rG y.n n m a s 0 t) 0xF hnn,rW (g:=nR a) 0xF W.nd hy];rfl
 have e4:yE (stp y es 0 0 t 0 (.grant y.n n m a s))=putK (yE es) 0x2C (.ref t):=by
  show kv _ (mod y.n (nR a) es++[rG y.n n m a s 0 t])=_
  rw [iD (g:=nR a) (x:=rG y.n n m a s 0 t) 0xF hnn,fY (g:=nR a) 0xF 0xF];rfl
 show BQ q H' _ _ _ _ (ks++[n])
 rw [e1,e2,e3,e4];exact b'
theorem Zh:aP ["_law_book_here", "_law_row_here", "_law_whole", "_law_wide", "_law_taker_here", "_law_estate"] A4P (aH sDo):=0x0
theorem a01 (F:fu K "_law_do" "_law_do" sDo f fd) 
  (G1:aL P w K mg base bO 1 g1 d1 A4U OD) (M1:Ms K mg "_law_new" g1 d1 A4U)
  (G2:aL P w K mg base bO 1 g2 d2 A4N (Ze K)) (M2:Ms K mg "_law_taker" g2 d2 A4N)
  (G3:aL P w K mg base bO 1 g3 d3 A4N Ij) (M3:Ms K mg "_law_held" g3 d3 A4N)
  (G4:aL P w K mg base bO 2 g4 d4 A4R Yv) (M4:Ms K mg "_law_fall" g4 d4 A4R) :
  aL P w K mg base bO 3 f fd A4P (Zg K):=by
 refine F.ok Zh 0x1 0x2;obtain ⟨q,W,ls,j,r,ro,dy,wd,rfl,ap,bk,bx,WP,fr,hst,hok,hls,hj,hx,k⟩:=h;have G1:=aL.mono (k:=2) G1 0x3;have G2:=aL.mono (k:=2) G2 0x3;have G3:=aL.mono (k:=2) G3 0x3;refine ⟨_,(au (bK (aQ cV 0x19 aK (bB _)) (aG (bV (bJ G1 hr rfl M1.m M1.k M1.b .nil bC (ak (pv 0) (ak 0x10 (ak 0x19 (ak (cZ (ak 0x19 (ak aA aC))) aC))))))) aR)
  (au (bK (aQ cV 0x19 aK (bB _)) dM aR)
  (au (bK (aQ cV 0x19 aK (bB _)) dM aR)
  (au (bK (aQ cV 0x19 aK (bB _)) dM aR)
  (au (bK (aQ cV 0x19 aK (bB _)) (aG (dw (u1 hr) 0x1B 0x19 0x19 rfl)) aR)
  (au (bK (aQ cV 0x19 aK (bB _)) (aG (dw (u1 hr) 0x1B 0x19 0x19 rfl)) aR)
  (aG (bK (aQ cV 0x19 aK (bB _))
   (au (bV (iR A0H A0O A0P cT 0x1B (ak 0x19 aC)))
   (au (aY (i:=4) Zh.nd rfl 0x8 (bJ G2 hr rfl M2.m M2.k M2.b .nil bC (ak (pv 0) (ak 0x19 aC))))
   (aG (fM A0N rfl (cX (bJ G3 hr rfl M3.m M3.k M3.b .nil bC (ak (pv 0) (ak 0x19 aC)))) (bf (i:=5) Zh.nd rfl 0x8)
    (aG (bK (aQ LC (pv 4) lB (bB _)) (aG (bV (bJ G4 hr rfl M4.m M4.k M4.b .nil bC (ak (pv 0) (ak (pv 5) aC))))) (aG (dw (u1 hr) 0x1B (pv 5) (pv 4) rfl)))))))) aR)))))))),?_⟩
 have PU:=WP.E.P;have W0:=PU.W;have ln:=PU.ln;have lk:=PU.lk;have kl:∀ {f:aU->V},(kv f W.es).length<=800:=by intro f;rw [jz];lia
 cases ro with
 | grant e n m a s =>
  obtain ⟨y,hy,rfl,hn,hm,ha⟩:=hst;have hnn:=PU.new hn (hls n hok.1).1;refine 0x32;refine ⟨_,rfl,_,rfl,_,rfl,r,_,_,_,rfl,rfl,bZ.of hx,aJ (j:=2) rfl,_,rfl,r,_,_,_,rfl,rfl,bZ.of hx,aJ (j:=6) rfl,small 0xA,fun t ht=>?_⟩
  apply 0o1 H t ht s1 ht1 H1
  have b1:=bk.same s1;have x1:=s1 _ _ hx;refine ⟨q,_,_,_,_,W.ks,r,_,y.n,n,m,y.n,t,a,y.own,rfl,ap,b1,x1,rfl,rfl,rfl,rfl,?_,kl,kl,kl,kl,by lia,fun H' b' o'=>?_⟩
  ·rw [bF,A0f (fun z=>hnn (by rw [<- key_eq.mp z];exact A0e.mpr ⟨y,hy,rfl⟩))];exact eG W0.nd hy
  have x2:=lJ b1 o' x1;refine 0x12;refine 0x12;refine 0x12;refine 0x12;refine 0x12;refine 0x12;have ox:ji q H H':=(ji.same s1).trans o'.x;refine k _ H' (.gr 0 t hy rfl hn hm ha) (QX W0 hy hnn b') (QW ap (bx.same s1) o') ?_ ox;have hS:gP W.es W.ks y (.grant y.n n m a s):=⟨hy,rfl,hn,ha⟩;exact pQ (u1:=t) (u2:=0) (t1:=0) (t2:=0) (b1:=t) (b2:=0) (·.tb) W0.nd hS (fun e he=>uZ bk bx ox (fr e he)) (lJ b1 o' ht1) 0x4 0x4 (fun _ _ _ _=>rfl) (fun _ _ _ _ _=>rfl)
 | heir a b =>
  refine 0x7;refine 0x7;refine 0x7;refine 0x7;refine 0x32;have hl:=WP.hl;refine ⟨_,rfl,r,_,_,_,rfl,rfl,bZ.of hx,aJ (j:=3) rfl,_,rfl,q.B,_,rfl,iM bk.b bx.vh,_,rfl,r,_,_,_,rfl,rfl,bZ.of hx,aJ (j:=2) rfl,q.he,_,rfl,iK.k (k:=.inr a) bx.h (bQ 0x3),?_⟩;have o1:ji q H (upd H q.he (.dK (putK W.hs (.inr a) (.str b)))):=ji.put (by simp [iJ]);have b1:=FQ (o:=.dK (putK W.hs (.inr a) (.str b))) ap bk 12 rfl 0x6;have x1:=uZ bk bx o1 hx;have Lg:Bx q (upd H q.he (.dK (putK W.hs (.inr a) (.str b)))) { W with hs:=putK W.hs (.inr a) (.str b) }:=⟨bx.vh,bx.vg,ao,by rw [aj (bN ap 13 12 rfl rfl 0x6)];exact bx.g,by rw [aj (bN ap 11 12 rfl rfl 0x6)];exact bx.x⟩;have Ef:=fun e he=>uZ bk bx o1 (fr e he);generalize upd H q.he (.dK (putK W.hs (.inr a) (.str b)))=H1 at o1 b1 x1 Lg Ef ⊢;refine ⟨_,rfl,r,_,_,_,rfl,rfl,bZ.of x1,aJ (j:=0) rfl,rfl,_,rfl,gj 0x1A ?_⟩;refine ⟨_,rfl,r,_,_,_,rfl,rfl,bZ.of x1,aJ (j:=0) rfl,rfl,_,rfl,gj 0x1A ?_⟩;exact k _ H1 (.hr hst) b1 Lg Ef o1
 | liege a b =>
  refine 0x7;refine 0x7;refine 0x7;refine 0x7;refine 0x7;refine 0x32;have gl:=WP.gl;have ll:=Ui W.lg;refine ⟨_,rfl,r,_,_,_,rfl,rfl,bZ.of hx,aJ (j:=3) rfl,_,rfl,q.B,_,rfl,iM bk.b bx.vg,_,rfl,r,_,_,_,rfl,rfl,bZ.of hx,aJ (j:=2) rfl,q.lg,_,rfl,iK.k (k:=.inr a) bx.g (bQ 0x3),?_⟩;have ep:putK (Iv W.lg) (.inr a) (.str b)=Iv (W.lg++[(a,dy,b)]):=(uJ W.lg (a,dy,b)).symm;rw [ep];have o1:ji q H (upd H q.lg (.dK (Iv (W.lg++[(a,dy,b)])))):=ji.put (by simp [iJ]);have b1:=FQ (o:=.dK (Iv (W.lg++[(a,dy,b)]))) ap bk 13 rfl 0x6;have x1:=uZ bk bx o1 hx;have Lg:Bx q (upd H q.lg (.dK (Iv (W.lg++[(a,dy,b)])))) { W with lg:=W.lg++[(a,dy,b)] }:=⟨bx.vh,bx.vg,by rw [aj (bN ap 12 13 rfl rfl 0x6)];exact bx.h,ao,by rw [aj (bN ap 11 13 rfl rfl 0x6)];exact bx.x⟩;have Ef:=fun e he=>uZ bk bx o1 (fr e he);generalize upd H q.lg (.dK (Iv (W.lg++[(a,dy,b)])))=H1 at o1 b1 x1 Lg Ef ⊢;refine ⟨_,rfl,r,_,_,_,rfl,rfl,bZ.of x1,aJ (j:=0) rfl,rfl,_,rfl,gj 0x1A ?_⟩;exact k _ H1 (.lr hst.1 hst.2) b1 Lg Ef o1
 | death a =>
  refine 0x7;refine 0x7;refine 0x7;refine 0x7;refine 0x7;refine 0x7;refine 0x32;have dl:=WP.dl;have hl:=WP.hl;have gl:W.gone.length=W.dd.length:=cg ..;refine ⟨_,rfl,q.B,_,rfl,iM bk.b bk.vx,.inl ⟨rfl,_,bR.of bx.x⟩,_,rfl,r,_,_,_,rfl,rfl,bZ.of hx,aJ (j:=2) rfl,q.dd,_,_,rfl,rfl,bx.x,(by rw [cg];exact bQ 0x3),?_⟩;have eg:(0x31).gone=W.gone++[a]:=by show (W.dd++[(a,dy)]).map _=_;rw [iZ];rfl
  have ex:W.gone.map V.str++[V.str a]=(0x31).gone.map V.str:=by rw [eg,iZ];rfl
  rw [ex];have o1:ji q H (upd H q.dd (.lst ((0x31).gone.map V.str))):=ji.put (by simp [iJ]);have b1:=FQ (o:=.lst ((0x31).gone.map V.str)) ap bk 11 rfl 0x6;have x1:=uZ bk bx o1 hx;have Lg:Bx q (upd H q.dd (.lst ((0x31).gone.map V.str))) ⟨W.es,W.ks,W.hs,W.dd++[(a,dy)],W.lg⟩:=⟨bx.vh,bx.vg,by rw [aj (bN ap 12 11 rfl rfl 0x6)];exact bx.h,by rw [aj (bN ap 13 11 rfl rfl 0x6)];exact bx.g,ao⟩;have Ef:=fun e he=>uZ bk bx o1 (fr e he);generalize upd H q.dd (.lst ((0x31).gone.map V.str))=H1 at o1 b1 x1 Lg Ef ⊢;have bkA:uY H1 q.B q.he q.dd q.kvs W.hs (W.gone++[a]):=⟨b1.b,Lg.vh,b1.vx,Lg.h,by rw [<- eg];exact Lg.x,b1.len⟩;refine ⟨_,rfl,_,rfl,r,_,_,_,rfl,rfl,bZ.of x1,aJ (j:=2) rfl,q.B,q.he,q.dd,q.kvs,W.hs,W.gone++[a],Wk W.hs,(fun z=>decide (z∈W.gone++[a])),a,rfl,bkA,PB WP.hv,0xF,by lia,fun t H2 s2 tk=>?_⟩;refine ⟨_,rfl,_,rfl,r,_,_,_,rfl,rfl,bZ.of (s2 _ _ x1),aJ (j:=2) rfl,q,W.es,W.ks,a,rfl,ap,b1.same s2,W0.nd,by lia,fun D ss H3 s3 pP hD hp hs=>?_⟩;have hb:uG W.es a ss:=⟨hp,hs⟩;have b2:=b1.same s2;have bx2:=Lg.same s2;have hDn:D∉iJ q:=fun z=>by
   simp only [iJ,A0d,A0w,A1k] at z;rcases z with e | e | e | e | e | e | e | e <;> rw [e] at pP
   ·rw [b2.l] at pP;cases pP
   ·rw [b2.h] at pP;cases pP
   ·rw [b2.o] at pP;cases pP
   ·rw [b2.d] at pP;cases pP
   ·rw [b2.k] at pP;cases pP
   ·rw [bx2.h] at pP;cases pP
   ·rw [bx2.x] at pP;cases pP
   ·rw [bx2.g] at pP;cases pP
  have V3:=s2.trans s3;have tr:∀ h,t=some h->PyData.strOk h=true:=fun h e=>Tk.ok (Pr:=fun z=>PyData.strOk z=true) (fun _ _=>n6 WP.hv) tk (fun z e=>n6 WP.hv e) h e;refine ⟨D,rfl,⟨_,bR.of hD⟩,dX (K:=K) (a:=D) (xs:=ss.map V.str) (fun i σ Hx=>∃ (u5:Option V) (e1:List aU),σ=[some (.ref q.B),some (.ref r),none,none,some (mZ t),u5]/\Hx D=some (.lst (ss.map V.str))/\Bk q Hx e1 W.ks/\Bx q Hx ⟨e1,W.ks,W.hs,W.dd++[(a,dy)],W.lg⟩/\Fo t W.es (ss.take i) e1/\(∀ e∈e1,jB Hx e.tb e.due.1 e.due.2)/\ji q H Hx)
   ⟨none,W.es,rfl,hD,b1.same V3,Lg.same V3,.nil,fun e he=>V3 _ _ (Ef e he),o1.trans (ji.same V3)⟩ (fun i σ Hx _ h=>by obtain ⟨_,_,_,h,_⟩:=h;exact bR.of h) ?_ ?_⟩
  ·rintro i v σ Hx hv ⟨u5,e1,rfl,sG,Wy,bxx,fo,fx,ox⟩;rw [jQ] at hv;obtain ⟨n,hn,rfl⟩:=A0t.mp hv;obtain ⟨hne,y,hy,rfl⟩:=Fo.next hb W0.nd WP.E.cr hok fo hn;have PU1:=(fo.eo WP.E tr hls).P;have ln1:=PU1.ln;have tk':ss.take (i+1)=ss.take i++[y.n]:=by rw [A1a,hn];rfl
   have fin:∀ H',Bk q H' (stp y e1 0 0 0 0 (uF t y.n)) W.ks->fj q Hx H'->∃ (u5:Option V) (e2:List aU),[some (.ref q.B),some (.ref r),none,none,some (mZ t),some (V.str y.n)]=[some (V.ref q.B),some (.ref r),none,none,some (mZ t),u5]/\H' D=some (.lst (ss.map V.str))/\Bk q H' e2 W.ks/\Bx q H' ⟨e2,W.ks,W.hs,W.dd++[(a,dy)],W.lg⟩/\Fo t W.es (ss.take (i+1)) e2/\(∀ e∈e2,jB H' e.tb e.due.1 e.due.2)/\ji q H H':=fun H' b' o'=>by
    refine ⟨_,_,rfl,o'.x _ _ hDn sG,b',QW ap bxx o',by rw [tk'];exact .snoc fo hy hne,?_,ox.trans o'.x⟩;exact pQ (u1:=0) (u2:=0) (·.tb) PU1.W.nd (Iw (ks:=W.ks) hy) (fun e he=>uZ Wy bxx o'.x (fx e he)) ZG.die 0x4 0x4 (fun _ _ _ _=>rfl) fun _ _ _ _ _=>by cases t <;> rfl
   refine ⟨_,rfl,rfl,_,rfl,?_⟩;rw [Bw];cases t with
   | none =>
    refine dU ?_;obtain ⟨p,hp1,_,_⟩:=PU1.W.lord y hy hne;refine ⟨_,rfl,_,rfl,q,e1,W.ks,y,p,rfl,ap,Wy,PU1.W,hy,hne,hp1,by lia,fun H' b' o'=>?_⟩;refine fin H' ?_ o'
    show Bk q H' (cF y.n (y.lord.getD "") y.own e1) W.ks
    rw [hp1];exact b'
   | some h =>
    refine cA ?_;refine ⟨_,rfl,_,rfl,q.B,_,rfl,iM Wy.b Wy.vh,_,rfl,q.h,_,rfl,iK.k (k:=.inr y.n) Wy.h (bQ (by rw [jz];lia)),?_⟩;exact fin _ (V2 ap Wy PU1.W hy) fj.uh
  ·rintro σ Hx ⟨u5,e1,rfl,sG,Wy,bxx,fo,fx,ox⟩;rw [cg,A1c] at fo;exact k _ _ (.di hst tk hb fo) Wy bxx fx ox
abbrev FT:Stmt:=top 62
inductive sS (vs:List V) (H:Hp) (Q:VK) (cB:XK):Prop
 | mk (q:Ad) (W:M.Wo) (ls:List Str) (j:Nat) (r:Addr) (ro:M.Ro) (dy wd:Int) (_:vs=[.ref q.B,.ref r]) (_:Ap q) (_:Bk q H W.es W.ks) (_:Bx q H W) (_:Wp W ls j wd) (_:(∀ e∈W.es,jB H e.tb e.due.1 e.due.2)) (_:Ro.Ok ls ro) (_:0x3B) (_:j<=17) (_:H r=some (.tup (Ro.vs dy ro))) (_:∀ w W' H',Jo W dy ro w W'->Bk q H' W'.es W'.ks->Bx q H' W'->(∀ e∈W'.es,jB H' e.tb e.due.1 e.due.2)->ji q H H'->Q (.str w) H'):sS vs H Q cB
theorem Je:aP ["_law_book_here", "_law_row_here", "_law_word_here"] A4P (aH FT):=0x0
theorem QZ (F:fu K "_law_word" "_law_word" FT f fd)  (G1:aL P w K mg base bO 3 g1 d1 A4P QV) (M1:Ms K mg "_law_why" g1 d1 A4P)
  (G2:aL P w K mg base bO 3 g2 d2 A4P (Zg K)) (M2:Ms K mg "_law_do" g2 d2 A4P):aL P w K mg base bO 4 f fd A4P sS:=by
 refine F.ok Je 0x1 0x2;obtain ⟨q,W,ls,j,r,ro,dy,wd,rfl,ap,bk,bx,WP,fr,hok,hls,hj,hx,k⟩:=h;refine ⟨_,au (aY (i:=2) Je.nd rfl 0x8 (bJ G1 hr rfl M1.m M1.k M1.b .nil bC (ak (pv 0) 0x26)))
  (au (bK (aQ cV (pv 2) aK (bB _)) (aG (bV (bJ G2 hr rfl M2.m M2.k M2.b .nil bC (ak (pv 0) 0x26)))) aR)
  (aG (aV (pv 2)))),?_⟩
 refine ⟨_,rfl,_,rfl,q,W,r,ro,dy,rfl,ap,bk,bx,WP.E.P.W,(by have:=WP.E.P.ln;lia),hx,fun z H1 s1 hw=>?_⟩;have b1:=bk.same s1;have x1:=bx.same s1;have f1:=fun e he=>s1 _ _ (fr e he);refine ⟨_,rfl,rfl,_,rfl,Iz (fun e=>?_) (fun ne=>?_)⟩
 ·subst e;have hst:St W ro:=by
   rcases hw with h | h
   ·exact absurd rfl h.1
   ·exact h.2
  exact ⟨_,rfl,_,rfl,q,W,ls,j,r,ro,dy,wd,rfl,ap,b1,x1,WP,f1,hst,hok,hls,hj,s1 _ _ hx,fun W' H2 J b2 x2 f2 o=>⟨_,rfl,k _ W' H2 J b2 x2 f2 ((ji.same s1).trans o)⟩⟩
 ·rcases hw with h | h
  ·exact ⟨_,rfl,k z W H1 h.2 b1 x1 f1 (ji.same s1)⟩
  ·exact absurd h.1 ne
abbrev zm:Stmt:=top 66
def vG (n:Int) (t b:Addr):aU:=⟨"",none, "",n,n,(0,1),t,b⟩
theorem R0 (n:Int) (t b:Addr) (ls:List Str) (n1:1<=n) (n2:n<=9999):Pu [vG n t b] [] ls 0 n:=by
 refine ⟨⟨by simp [nms],⟨vG n t b,[],rfl,rfl,rfl,trivial⟩,fun e he=>?_,fun e he=>?_,fun e he=>?_⟩,fun e he=>?_,fun e he hn=>?_,A0h _,A0h _,fun e he=>?_,?_⟩
 ·rw [A0b.mp he];exact ⟨by show 0<=n;lia,by show 0<=n;lia,n2⟩
 ·rw [A0b.mp he]
  show n=n+Sb [vG n t b] ""
  have:Sb [vG n t b] ""=0:=by unfold Sb;rfl
  lia
 ·rw [A0b.mp he];show PyData.strOk ("" : Str)=true;decide +kernel
 ·rw [A0b.mp he];exact ⟨by show (0:Int).natAbs<_;decide,by show (0:Int)<1;decide,by show (1:Int).natAbs<_;decide⟩
 ·rw [A0b.mp he] at hn;exact absurd rfl hn
 ·rw [A0b.mp he];exact .inl rfl
 ·show n+0=n;lia
theorem R5:∀ {l:List Nat}{x:Nat},x∈l->x<=l.sum
 | y::l,x,h=>by
  rw [A2y];rcases A0d.mp h with e | e
  ·lia
  ·have:=R5 e;lia
theorem five {l:List Nat} (h:l.Nodup):([l.sum+1,l.sum+2,l.sum+3,l.sum+4,l.sum+5]++l).Nodup:=by
 rw [A2v];refine ⟨by simp,h,fun a ha b hb e=>?_⟩;have:=R5 hb;simp only [A0d,A0w,A1k] at ha;lia
theorem q9 {q:Ad}{es:List aU}{W:Wo} (b:Bk q H es ks) (x:Bx q H W) (h:H c=none):c∉iJ q:=fun z=>by
 simp only [iJ,A0d,A0w,A1k] at z;rcases z with e | e | e | e | e | e | e | e <;> rw [e] at h
 ·rw [b.l] at h;cases h
 ·rw [b.h] at h;cases h
 ·rw [b.o] at h;cases h
 ·rw [b.d] at h;cases h
 ·rw [b.k] at h;cases h
 ·rw [x.h] at h;cases h
 ·rw [x.x] at h;cases h
 ·rw [x.g] at h;cases h
theorem Jf {q:Ad}{es:List aU} (b:Bk q H es ks) (n1:c≠q.B) (n:c∉iJ q):Bk q (upd H c o) es ks:=by
 have g:∀ {a:Addr}{u:HO},a∈q.B::iJ q->H a=some u->(upd H c o) a=some u:=fun {a u} ha e=>by
  rw [aj]
  ·exact e
  ·intro z;rcases A0d.mp ha with h | h
   ·exact n1 (by rw [<- z,h])
   ·exact n (by rw [<- z];exact h)
 exact ⟨g 0xA b.b,b.vl,b.vh,b.vo,b.vd,b.vk,b.vx,g (by simp [iJ]) b.l,g (by simp [iJ]) b.h,g (by simp [iJ]) b.o,g (by simp [iJ]) b.d,g (by simp [iJ]) b.k,b.len⟩
theorem Jg {q:Ad}{W:Wo} (b:Bx q H W) (n1:c≠q.lg) (n:c∉iJ q):Bx q (upd H c o) W:=by
 have g:∀ {a:Addr}{u:HO},a∈q.lg::iJ q->H a=some u->(upd H c o) a=some u:=fun {a u} ha e=>by
  rw [aj]
  ·exact e
  ·intro z;rcases A0d.mp ha with h | h
   ·exact n1 (by rw [<- z,h])
   ·exact n (by rw [<- z];exact h)
 exact ⟨b.vh,b.vg,g (by simp [iJ]) b.h,g 0xA b.g,g (by simp [iJ]) b.x⟩
inductive qb (K:W.Frag) (vs:List V) (H:Hp) (Q:VK) (cB:XK):Prop
 | mk (l:Addr) (n:Int) (all:List Addr) (dat:Addr->List V) (fQ:Addr->Int) (iY:Addr->M.Ro) (ls:List Str) (_:vs=[.int n,.ref l]) (_:1<=n) (_:n<=9999) (_:bR K H l 0x2D) (_:all.length<=17) (_:gA H all dat) (_:(∀ a∈all,qP dat fQ iY ls a)) (_:0x3B) (_:∀ T wl q W ts out ws b0 H',Same H H'->H' T=some (.tup [.ref q.B,.ref wl])->H wl=none->(∀ a∈[q.B,q.l,q.h,q.o,q.d,q.kn,q.dd,q.he,q.lg],H a=none)->Ap q->Bk q H' W.es W.ks->Bx q H' W->Wp W ls out.length n->(∀ e∈W.es,jB H' e.tb e.due.1 e.due.2)->fK H' wl ts out ws->out.Perm all->zM dat out->JL (W0 (vG n 0 b0)) (out.map fun a=>(fQ a,iY a)) ws W->Q (.ref T) H'):qb K vs H Q cB
theorem qd:aP ["_law_acres", "_law_rows_here", "_law_book_here", "_law_words", "_law_row_here"] A5f (aH zm):=0x0
theorem KQ (F:fu K "_law_books" "_law_books" zm f fd)  (G1:aL P w K mg base bO 1 g1 d1 ["_law_acres"] yD) (M1:Ms K mg "_law_book" g1 d1 ["_law_acres"])
  (G2:aL P w K mg base bO 3 g2 d2 ["_law_rows_here"] (uP K)) (M2:Ms K mg "_law_sorted" g2 d2 ["_law_rows_here"])
  (G3:aL P w K mg base bO 4 g3 d3 A4P sS) (M3:Ms K mg "_law_word" g3 d3 A4P):aL P w K mg base bO 5 f fd A5f (qb K):=by
 refine F.ok qd 0x1 0x2;obtain ⟨l,n,all,dat,fQ,iY,ls,rfl,n1,n2,hl,h17,RO,RW,hls,k⟩:=h;have hr1:cH 1 _:=hr.mono 0x6;have hr3:cH 3 _:=hr.mono 0x6;refine ⟨_,au (aY (i:=2) qd.nd rfl 0x8 (bJ G1 hr1 rfl M1.m M1.k M1.b .nil bC (ak (pv 0) aC)))
  (au (aY (i:=3) qd.nd rfl 0x8 (cU aC))
  (au (fM A0N rfl (cX (bJ G2 hr3 rfl M2.m M2.k M2.b .nil bC 0x26)) (bf (i:=4) qd.nd rfl 0x8)
   (aG (bV (iR A0H A0O A0P cT (pv 3) (ak (cZ (ak (pv 4) (ak (bJ G3 hr rfl M3.m M3.k M3.b .nil bC (ak (pv 2) (ak (pv 4) aC))) aC))) aC)))))
  (aG (aV (cZ (ak (pv 2) (ak (pv 3) aC))))))),?_⟩
 refine ⟨_,rfl,n,rfl,fun B bl bh bo bd FW FZ Ga Gb b0 kvs H1 s1 hfree ndl BL BXL Ef=>⟨small 0xA,fun wl hwl=>?_⟩⟩;have V4:H wl=none:=s1.free hwl;obtain ⟨q,hq,apq⟩:∃ q:Ad,(q.B=B/\q.l=bl/\q.h=bh/\q.o=bo/\q.d=bd/\q.kn=FW/\q.dd=FZ/\q.he=Ga/\q.lg=Gb/\q.kvs=kvs)/\Ap q :=
  ⟨⟨0,0,[B,bl,bh,bo,bd,FW,FZ,Ga,Gb].sum+1,[B,bl,bh,bo,bd,FW,FZ,Ga,Gb].sum+2,[B,bl,bh,bo,bd,FW,FZ,Ga,Gb].sum+3,[B,bl,bh,bo,bd,FW,FZ,Ga,Gb].sum+4,[B,bl,bh,bo,bd,FW,FZ,Ga,Gb].sum+5,B,bl,bh,bo,bd,FW,FZ,Ga,Gb,kvs,n⟩,⟨rfl,rfl,rfl,rfl,rfl,rfl,rfl,rfl,rfl,rfl⟩,five ndl⟩
 obtain ⟨rfl,rfl,rfl,rfl,rfl,rfl,rfl,rfl,rfl,rfl⟩:=hq;have B1:Bk q H1 [vG n 0 b0] []:=BL;have X1:Bx q H1 (W0 (vG n 0 b0)):=BXL;have wlo:wl∉iJ q:=q9 B1 X1 hwl;have wlB:wl≠q.B:=fun z=>by rw [z,B1.b] at hwl;cases hwl
 have wlG:wl≠q.lg:=fun z=>by rw [z,X1.g] at hwl;cases hwl
 apply 0o1 H1 wl hwl sw w2 H2
 have s2:=s1.trans sw;have B2:Bk q H2 [vG n 0 b0] []:=B1.same sw;have X2:Bx q H2 (W0 (vG n 0 b0)):=X1.same sw;have fr2:∀ e∈[vG n 0 b0],jB H2 e.tb e.due.1 e.due.2:=fun e he=>by rw [A0b.mp he];exact sw _ _ Ef
 have RO2:gA H2 all dat:=⟨fun a ha=>⟨s2 _ _ (RO.1 a ha).1,(RO.1 a ha).2⟩,RO.2⟩;have Zi:∀ {c:Addr}{u:HO},H c=some u->c∉iJ q:=fun {c u} hc z=>by
  have:H c=none:=hfree c (by simp only [iJ,A0d,A0w,A1k] at z ⊢;rcases z with e | e | e | e | e | e | e | e <;> simp [e]);rw [this] at hc;cases hc
 refine ⟨_,rfl,l,rfl,all,dat,s2.seq hl,by lia,RO2,fun S out H3 s3 hS0 hS hp hu=>⟨S,rfl,⟨_,bR.of hS⟩,?_⟩⟩;have ol:out.length<=17:=by rw [hp.length_eq];exact h17
 have So:S∉iJ q:=q9 B2 X2 hS0;have nSw:S≠wl:=fun z=>by rw [z,w2] at hS0;cases hS0
 have UL:∀ r∈out,H r=some (.tup (dat r))/\qP dat fQ iY ls r:=fun r hr=>⟨(RO.1 r (hp.mem_iff.mp hr)).1,RW r (hp.mem_iff.mp hr)⟩;refine dX (K:=K) (a:=S) (xs:=out.map V.ref) (fun i σ Hx=>∃ (u4:Option V) (W:Wo) (ws:List Str) (ts:List Addr),σ=[some (.int n),some (.ref l),some (.ref q.B),some (.ref wl),u4]/\Same H Hx/\Hx S=some (.lst (out.map V.ref))/\Bk q Hx W.es W.ks/\Bx q Hx W/\Wp W ls (out.take i).length n/\(∀ e∈W.es,jB Hx e.tb e.due.1 e.due.2)/\fK Hx wl ts (out.take i) ws/\JL (W0 (vG n 0 b0)) ((out.take i).map fun a=>(fQ a,iY a)) ws W)
  ⟨none,W0 (vG n 0 b0),[],[],rfl,s2.trans s3,hS,B2.same s3,X2.same s3,pZ (R0 n 0 b0 ls n1 n2) rfl rfl rfl,fun e he=>s3 _ _ (fr2 e he),⟨s3 _ _ w2,rfl,rfl,fun i t r w e1 _ _=>by simp at e1⟩,.nil⟩ (fun i σ Hx _ h=>by obtain ⟨_,_,_,_,_,_,h,_⟩:=h;exact bR.of h) ?_ ?_
 ·rintro i v σ Hx hv ⟨u4,W,ws,ts,rfl,sx,Ww,BX,XX,PX,fX,JX,LX⟩;rw [jQ] at hv;obtain ⟨r,hr,rfl⟩:=A0t.mp hv;obtain ⟨ZQ,S7⟩:=UL r (vm hr);rw [S7.e] at ZQ;have hrx:=sx _ _ ZQ;have tk:out.take (i+1)=out.take i++[r]:=by rw [A1a,hr];rfl
  have tl:(out.take i).length<=17:=by rw [A0G];lia
  refine ⟨_,rfl,.inl ⟨rfl,_,bR.of JX.l⟩,_,rfl,_,rfl,_,rfl,q,W,ls,_,r,iY r,fQ r,n,rfl,apq,BX,XX,PX,fX,S7.ok,hls,tl,hrx,fun w' W' H' J B' X' f' o=>⟨small 0xA,fun t ht=>?_⟩⟩;have nt:=aO ht (.tup [V.ref r,V.str w']);have wt:=nt _ _ (o _ _ wlo JX.l);have St:=nt _ _ (o _ _ So Ww);have tt:(upd H' t (.tup [V.ref r,V.str w'])) t=some (.tup [V.ref r,V.str w']):=ao;have J2:fK (upd H' t (.tup [V.ref r,V.str w'])) wl ts (out.take i) ws:=JX.keep (by rw [wt,JX.l]) fun c xs h=>nt _ _ (uZ BX XX o h);have B2:=B'.same nt;have X2:=X'.same nt;have ft:=fun e he=>nt _ _ (f' e he);have old:Same H (upd H' t (.tup [V.ref r,V.str w'])):=fun c u hc=>nt _ _ (o c u (Zi hc) (sx _ _ hc));generalize upd H' t (.tup [V.ref r,V.str w'])=H4 at nt wt St tt J2 B2 X2 ft old ⊢;refine ⟨wl,_,_,rfl,rfl,wt,bQ (by rw [cg,JX.lt];lia),?_⟩;refine ⟨_,W',ws++[w'],ts++[t],rfl,fun c u hc=>?_,?_,Jf B2 wlB wlo,Jg X2 wlG wlo,?_,fun e he=>?_,?_,?_⟩
  ·rw [aj (aq hc V4)];exact old c u hc
  ·rw [aj nSw];exact St
  ·rw [tk,gZ];exact J.wp PX S7.ok S7.tx hls
  ·rw [jB,aj (aM (ft e he) wt 0x5)];exact ft e he
  ·rw [tk];exact J2.snoc tt
  ·rw [tk,iZ];exact .snoc LX J
 ·rintro σ Hx ⟨u4,W,ws,ts,rfl,sx,Ww,BX,XX,PX,fX,JX,LX⟩;rw [cg,A1c] at PX JX LX;refine ⟨_,rfl,_,rfl,small 0xA,fun T hT=>?_⟩;have sT:=aO hT (.tup [V.ref q.B,V.ref wl]);exact k T wl q W ts out ws b0 _ (sx.trans sT) ao V4 (fun a ha=>hfree a (by simp only [A0d,A0w,A1k] at ha ⊢;rcases ha with h | h | h | h | h | h | h | h | h <;> simp [h])) apq (BX.same sT) (XX.same sT) PX (fun e he=>sT _ _ (fX e he)) (JX.keep (by rw [sT _ _ JX.l,JX.l]) fun c xs h=>sT _ _ h) hp hu LX
abbrev zp:Stmt:=top 51
def az:Str:="abcdefghijklmnopqrstuvwxyz"
def low (c:Nat):Bool:=decide (97<=c)&&decide (c<=122)
def nameB (l:List Nat):Bool:=l.all low&&(decide (1<=l.length)&&decide (l.length<=8))
theorem jK {α:Type}{xs:List α}{i:Int} (h0:0<=i) (h1:i<xs.length):∃ v,vq xs i=some v/\v∈xs:=by
 have hi:i.toNat<xs.length:=by lia
 have e:i=((i.toNat:Nat):Int):=by lia
 refine ⟨xs[i.toNat],?_,A0R hi⟩;have q:vq xs ((i.toNat:Nat):Int)=some xs[i.toNat]:=aJ (by simp [hi]);rw [<- e] at q;exact q
theorem Gd (cs:List Nat):(Txt.join (Str.ofString "") (cs.map fun c=>lW [c]))=lW cs:=by
 have e:(Str.ofString "").cps=#[]:=by decide +kernel
 have fo:∀ (ds:List Nat) (acc:Array Nat),(ds.map fun c=>lW [c]).foldl (fun acc p=>acc++(Str.ofString "").cps++p.cps) acc=acc++ds.toArray:=by
  intro ds
  induction ds with
  | nil=>intro acc;simp
  | cons d r ih =>
   intro acc;rw [A0m,A1h,ih,e];simp
 show Builtin.Str.glued (Str.ofString "") (cs.map fun c=>lW [c])=_
 cases cs with
 | nil=>rfl
 | cons c r =>
  unfold Builtin.Str.glued;rw [A0m,List.drop_one,List.tail_cons,fo,List.headD_cons];simp [lW]
theorem V5 {cs:List Nat} (h:cs.length<=1000):JoinOk (Str.ofString "") (cs.map fun c=>lW [c])=true:=by
 have e:(Str.ofString "").length=0:=by decide +kernel
 have fo:∀ (ds:List Nat) (n:Nat),(ds.map fun c=>lW [c]).foldl (fun a p=>a+p.length+(Str.ofString "").length) n=n+ds.length:=by
  intro ds
  induction ds with
  | nil=>intro n;simp
  | cons d r ih =>
   intro n;rw [A0m,A1h,ih,e,jq];simp;lia
 unfold JoinOk;rw [List.foldl_toArray',fo]
 ·unfold Builtin.Str.tooLong;have:=small (n:=cs.length) 0x3;simp;lia
 ·rfl
theorem app_list (x y:Str):(x++y).cps.toList=x.cps.toList++y.cps.toList:=by
 show (x.cps++y.cps).toList=_
 simp
theorem V6 (x y:Str):(x++y).length=x.length+y.length:=by
 have e:∀ z:Str,z.length=z.cps.toList.length:=fun z=>by simp [Str.length]
 rw [e,e,e,app_list,gZ]
theorem gJ {fs:List Int} (h:∀ v∈fs,vA v) {i:Int} (h0:0<=i) (h1:i<fs.length):∃ v:Int,vq (fs.map V.int) i=some (.int v)/\vA v:=by
 obtain ⟨x,e,m⟩:=jK (xs:=fs.map V.int) h0 (by rw [cg];exact h1);obtain ⟨v,hv,rfl⟩:=A0e.mp m;exact ⟨v,e,h v hv⟩
theorem a02:∀ i:_root_.Fin 26,az.cps.toList[i.val]?=some (97+i.val):=by decide +kernel
theorem R7 {i:Int} (h0:0<=i) (h1:i<26):vq az.cps.toList i=some (97+i.toNat):=by
 have e:i=((i.toNat:Nat):Int):=by lia
 have q:vq az.cps.toList ((i.toNat:Nat):Int)=some (97+i.toNat):=aJ (a02 ⟨i.toNat,by lia⟩);rw [<- e] at q;exact q
theorem R8 (h:i<26):low (97+i)=true:=by simp [low];lia
theorem rep1 (n c:Nat):pD n [c]=List.replicate n c:=by
 unfold pD
 induction n with
 | zero=>rfl
 | succ n ih=>rw [A1y,A2u,ih];rfl
theorem V7 {α:Type}{xs:List α} (h:j<=xs.length):rF xs none (some (j:Int))=xs.take j:=by
 unfold rF;have e1:HT.eO xs.length 0 none=0:=rfl;rw [e1,HT.jD,A4a,Nat.sub_zero,A2i h]
theorem KR {α:Type}{xs:List α} (h:j<=xs.length):rF xs (some (j:Int)) none=xs.drop j:=by
 unfold rF;have e2:HT.eO xs.length xs.length none=xs.length:=rfl;rw [e2,HT.jD,A2i h,A2K (by rw [A1t];exact A0h _)]
def Told (p:Nat) (e:Int) (zs:List Str):Prop:=∀ (j:Nat) (z:Str),zs[j]?=some z->z.cps.toList[p]?=some (97+((e+7 * (j:Int)) % 26).toNat)/\nameB z.cps.toList=true
theorem Told.nodup {p:Nat}{e:Int} (h:Told p e zs) (hl:zs.length<=26):zs.Nodup:=by
 unfold List.Nodup;rw [A1q];intro i j hi hj hij he;have h1:=(h i _ (jR hi)).1;have h2:=(h j _ (jR hj)).1;rw [he,h2] at h1;have h3:=A0V h1;lia
theorem Told.snoc {p:Nat}{e:Int}{z:Str} (h:Told p e zs) (h1:z.cps.toList[p]?=some (97+((e+7 * (zs.length:Int)) % 26).toNat)) (h2:nameB z.cps.toList=true):Told p e (zs++[z]):=by
 intro j y hj
 by_cases hlt:j<zs.length
 ·rw [A1l hlt] at hj;exact h j y hj
 ·have hj':j<(zs++[z]).length:=(A0j.mp hj).1;have e:j=zs.length:=by rw [gZ,A0r] at hj';lia
  subst e;rw [A0W (A0h _),A2W] at hj;have:z=y:=by simpa using hj
  subst this;exact ⟨h1,h2⟩
theorem Cr {l:List Nat} (h:∀ c∈l,low c=true) (h1:1<=l.length) (h2:l.length<=8):nameB l=true:=by
 unfold nameB;rw [A1u.mpr h,A0g h1,A0g h2];rfl
inductive zu (K:W.Frag) (vs:List V) (H:Hp) (Q:VK) (cB:XK):Prop
 | mk (a:Addr) (ds:List Int) (many:Int) (_:vs=[.ref a,.int many]) (_:bR K H a (ds.map V.int)) (_:4<=ds.length) (_:(∀ v∈ds,vA v)) (_:0<=many) (_:many<=26) (_:∀ (r:Addr) (H':Hp) (zs:List Str),Same H H'->H r=none->H' r=some (.lst (zs.map V.str))->zs.length=many.toNat->(∀ z∈zs,nameB z.cps.toList=true)->zs.Nodup->Q (.ref r) H'):zu K vs H Q cB
theorem ju:aP A5e ["_law_d", "_law_many"] (aH zp):=0x0
def scN1:Scope:={ kind:=.function,names:=[(".0",.local),("_law_k",.local),("_law_d",.free),("_law_letters",.free)],isGenerator:=false,isCoroutine:=false }
theorem csN1:gO A5e (aH zp) scN1 ["_law_k"] ["_law_d", "_law_letters"] [0,2]:=0xB
theorem ndN1:((["_law_k"]:List Str)++(["_law_d", "_law_letters"]:List Str)).Nodup:=by decide +kernel
theorem R9 (F:fu K "_law_names" "_law_names" zp f fd) (ml:mg "len"=none) (mr:mg "range"=none):aL P w K mg base bO 1 f fd ["_law_d", "_law_many"] (zu K):=by
 refine F.ok ju 0x1 0x2;obtain ⟨a,ds,many,rfl,hS,hlen,hok,m0,m1,k⟩:=h;refine ⟨_,au (aY (i:=2) ju.nd rfl (Or.inr rfl) aK)
  (au (aY (i:=4) ju.nd rfl 0x8 (iR PySem.F.plainAttrs_str PySem.F.slot_str_join PySem.F.type_str_join T3 aK (ak
    (j9 rfl csN1
     (jV rfl mr (ak (aX bW 0x2F aA) aC))
     (fun s H fp C=>⟨bf (i:=0) ndN1 rfl 0x8,rM,aN Mp (pv 2) (aX bW (aX cY (aN (Aj (K:=K)) 0x10 aA 0x4)
      (aX jM (aX cY (pv 0) aA) (aX jo (aN (Aj (K:=K)) 0x10 aA 0x4) aA))) aA) 0x4⟩)) aC)))
  (au (aY (i:=5) ju.nd rfl 0x8 (aX bW 0x2F (aX cY (bG xO rfl ml A1m (ak (pv 4) aC)) aA)))
  (au (aY (i:=6) ju.nd rfl 0x8 (cU aC))
  (au (fM A0N rfl (jV rfl mr 0x26) (bf (i:=3) ju.nd rfl 0x8)
   (au (aY (i:=7) ju.nd rfl 0x8 (aN Mp (pv 2) (aX bW (aX cY 0x2F (aX jM aA (pv 3))) aA) 0x4))
   (au (aY (i:=8) ju.nd rfl 0x8 (aX tO (aX tO (eV MK (pv 4) fV (cD (pv 5))) (pv 7)) (eV MK (pv 4) (cD (pv 5)) fV)))
   (au (bK (aQ cV (aX bW (aX jo 0x2F aA) aA) aA (bB _))
    (aG (aY (i:=8) ju.nd rfl 0x8 (aX DN (pv 7) (aX cY aA (aX bW (aX cY 0x2F (aX jM aA (pv 3))) aA))))) aR)
   (aG (bV (iR A0H A0O A0P cT (pv 6) (ak (pv 8) aC))))))))
  (aG (aV (pv 6))))))),?_⟩
 obtain ⟨d0,e0,o0⟩:=gJ hok (i:=0) 0x6 0x3;obtain ⟨d1,e1,o1⟩:=gJ hok (i:=1) 0x6 0x3;obtain ⟨d2,e2,o2⟩:=gJ hok (i:=2) 0x6 0x3;obtain ⟨d3,e3,o3⟩:=gJ hok (i:=3) 0x6 0x3;obtain ⟨o0a,o0b⟩:=o0;obtain ⟨o1a,o1b⟩:=o1;obtain ⟨o2a,o2b⟩:=o2;obtain ⟨o3a,o3b⟩:=o3;refine ⟨rfl,_,rfl,a,_,_,_,rfl,rfl,hS,e1,_,_,rfl,rfl,(by show (0:Int)<8;decide),d1 % 8,rfl,by lia,by lia,fun D hD=>?_⟩
 refine Du (lo:=0) (n:=(d1 % 8).toNat) (fun i ys H2=>∃ cs:List Nat,ys=cs.map (fun c=>V.str (lW [c]))/\cs.length=i/\(∀ c∈cs,low c=true)/\Same H H2/\H2 D=some (.lst ys))
  ⟨[],rfl,rfl,(fun c hc=>nomatch hc),aO hD _,ao⟩ (fun i ys H2 ⟨cs,_,_,_,_,h⟩=>h) ?_ ?_
 ·rintro i ys H2 hi ⟨cs,rfl,hl,hc,s2,h2⟩;have S2:=s2.seq hS;refine ⟨Kp.set rfl (Kp.refl _),?_⟩;refine pq ?_;have hm0:=A0Q (d0+(0+(i:Int)+1) * (d1 / 8)) (show (26:Int)≠0 by decide)
  have hm1:=A0L (d0+(0+(i:Int)+1) * (d1 / 8)) (show (0:Int)<26 by decide)
  have hT:((d0+(0+(i:Int)+1) * (d1 / 8)) % 26).toNat<26:=by
   generalize (d0+(0+(i:Int)+1) * (d1 / 8)) % 26=T at hm0 hm1 ⊢;lia
  refine ⟨_,rfl,_,rfl,a,_,_,_,rfl,rfl,S2,e0,_,rfl,_,_,rfl,rfl,_,rfl,a,_,_,_,rfl,rfl,S2,e1,_,_,rfl,rfl,⟨by decide,by decide⟩,_,_,rfl,rfl,.inl ⟨by lia,by lia⟩,_,_,rfl,rfl,_,_,rfl,rfl,(by show (0:Int)<26;decide),
   _,_,_,rfl,rfl,(by show az.length<=sizeLine;decide +kernel),R7 hm0 hm1,h2,?_,?_⟩
  ·rw [cg];exact bQ 0x3
  ·exact ⟨cs++[97+((d0+(0+(i:Int)+1) * (d1 / 8)) % 26).toNat],by rw [iZ];rfl,by simp [hl],(fun d hd=>by
    rcases A0l.mp hd with z | z
    ·exact hc d z
    ·rw [A0b.mp z];exact R8 hT),bU s2 hD,ao⟩
 ·rintro ys H2 ⟨cs,rfl,hl,hc,s2,h2⟩;have hm:cs.map (fun c=>V.str (lW [c]))=(cs.map (fun c=>lW [c])).map V.str:=by simp
  refine ⟨_,D,cs.map (fun c=>lW [c]),rfl,rfl,bR.of (by rw [<- hm];exact h2),V5 0x3,?_⟩;rw [Gd];have S2:=s2.seq hS;have lc:(lW cs).length=cs.length:=jq cs;refine ⟨_,rfl,a,_,_,_,rfl,rfl,S2,e2,_,rfl,_,rfl,(by rw [lc];exact small 0x3),_,_,rfl,rfl,_,_,rfl,rfl,(by rw [lc];lia),?_⟩;rw [lc];have q0:0<=d2 % ((cs.length:Int)+1):=A0Q _ 0x3;have q1:d2 % ((cs.length:Int)+1)<(cs.length:Int)+1:=A0L _ 0x3;obtain ⟨at_,hat⟩:∃ n:Nat,d2 % ((cs.length:Int)+1)=(n:Int):=⟨(d2 % ((cs.length:Int)+1)).toNat,by lia⟩;rw [hat] at q0 q1;refine ⟨small 0xA,fun l hl0=>?_⟩;have hl1:H l=none:=s2.free hl0;refine ⟨_,rfl,many,rfl,by lia,by lia,?_⟩;refine jW (lo:=0) (n:=many.toNat) (fun j σ H4=>∃ (zs:List Str) (u1 u2 u3:Option V),σ=[some (.ref a),some (.int many),some (.str az),u1,some (.str (lW cs)),some (.int (at_:Int)),some (.ref l),u2,u3]/\Same H H4/\H4 l=some (.lst (zs.map V.str))/\zs.length=j/\Told (if d2 / 8 % 2=1 then 0 else at_) d3 zs)
   ⟨[],none,none,none,(by rw [<- hat];rfl),bU s2 hl1,ao,rfl,fun j z h=>by simp at h⟩ ?_ ?_
  ·rintro j σ H4 hj ⟨zs,u1,u2,u3,rfl,s4,hL,hz,ht⟩;have S4:=s4.seq hS;have hm0:=A0Q (d3+7 * (0+(j:Int))) (show (26:Int)≠0 by decide)
   have hm1:=A0L (d3+7 * (0+(j:Int))) (show (0:Int)<26 by decide)
   refine ⟨_,rfl,_,rfl,a,_,_,_,rfl,rfl,S4,e3,_,rfl,_,_,rfl,rfl,.inl ⟨by decide,by decide⟩,_,_,rfl,rfl,_,_,rfl,rfl,(by show (0:Int)<26;decide),_,_,_,rfl,rfl,(by show az.length<=sizeLine;decide +kernel),R7 hm0 hm1,?_⟩
   have hc0:low (97+((d3+7 * (0+(j:Int))) % 26).toNat)=true:=R8 0x3;have hcj:97+((d3+7 * (0+(j:Int))) % 26).toNat=97+((d3+7 * (zs.length:Int)) % 26).toNat:=by rw [hz,Int.zero_add]
   generalize 97+((d3+7 * (0+(j:Int))) % 26).toNat=c at hc0 hcj ⊢;refine ⟨_,rfl,_,rfl,_,rfl,_,rfl,(by rw [lc];exact small 0x3),_,rfl,?_⟩;have f1:rF (lW cs).cps.toList none (some (at_:Int))=cs.take at_:=V7 (by show at_<=cs.length;lia)
   have f2:rF (lW cs).cps.toList (some (at_:Int)) none=cs.drop at_:=KR (by show at_<=cs.length;lia)
   rw [f1];have l1:(lW (cs.take at_)++lW [c]).length=at_+1:=by rw [V6,jq,jq,A0G,A2i 0x3];rfl
   refine ⟨_,_,rfl,rfl,(by rw [jq,jq,A0G];exact small (by simp;lia)),?_⟩;refine ⟨_,rfl,_,rfl,_,rfl,_,rfl,(by rw [lc];exact small 0x3),?_⟩;rw [f2];refine ⟨_,_,rfl,rfl,(by rw [l1,jq,A1t];exact small 0x3),?_⟩;have en:(lW (cs.take at_)++lW [c]++lW (cs.drop at_)).cps.toList=cs.take at_++[c]++cs.drop at_:=by rw [app_list,app_list]
   refine ⟨_,rfl,a,_,_,_,rfl,rfl,S4,e2,_,_,rfl,rfl,⟨by decide,by decide⟩,_,_,rfl,rfl,(by show (0:Int)<2;decide),rfl,_,rfl,?_⟩
   refine iy (fun hb=>?_) (fun hb=>?_)
   ·have hb1:d2 / 8 % 2=1:=by
     have:=nU hb;injection this
    rw [A0i hb1] at ht ⊢;refine ⟨_,rfl,_,rfl,a,_,_,_,rfl,rfl,S4,e0,_,rfl,_,_,rfl,rfl,.inl ⟨by decide,by decide⟩,_,_,rfl,rfl,_,_,rfl,rfl,(by show (0:Int)<8;decide),_,_,rfl,rfl,?_⟩
    have r0:=A0Q (d0+3 * (0+(j:Int))) (show (8:Int)≠0 by decide)
    have r1:=A0L (d0+3 * (0+(j:Int))) (show (0:Int)<8 by decide)
    refine ⟨_,_,rfl,rfl,by lia,by lia,(by show (lW [c]).length<=1000;rw [jq];simp),?_⟩
    have ec:(lW [c]).cps.toList=[c]:=rfl;rw [ec,rep1];refine ⟨_,rfl,.inl ⟨rfl,_,bR.of hL⟩,_,rfl,l,_,_,rfl,rfl,hL,(by rw [cg];exact bQ 0x3),?_⟩;refine ⟨zs++[lW (List.replicate (1+(d0+3 * (0+(j:Int))) % 8).toNat c)],_,_,_,rfl,bU s4 hl1,by rw [ao,iZ];rfl,by rw [gZ,A0r,hz],ht.snoc ?_ ?_⟩
    ·rw [<- hcj]
     show (List.replicate _ c)[0]?=some c
     rw [A3j,A0i 0x3]
    ·refine Cr (fun x hx=>?_) ?_ ?_
     ·have:=(List.mem_replicate.mp hx).2;rw [this];exact hc0
     ·show 1<=(List.replicate _ c).length
      rw [A1N];lia
     ·show (List.replicate _ c).length<=8
      rw [A1N];lia
   ·have hb1:¬ d2 / 8 % 2=1:=fun e=>hb (by show decide (V.int (d2 / 8 % 2)=V.int 1)=true;rw [e];rfl)
    rw [A0f hb1] at ht ⊢;refine ⟨_,rfl,.inl ⟨rfl,_,bR.of hL⟩,_,rfl,l,_,_,rfl,rfl,hL,(by rw [cg];exact bQ 0x3),?_⟩;refine ⟨zs++[lW (cs.take at_)++lW [c]++lW (cs.drop at_)],_,_,_,rfl,bU s4 hl1,by rw [ao,iZ];rfl,by rw [gZ,A0r,hz],ht.snoc ?_ ?_⟩
    ·rw [en,<- hcj,A1M,A0W (by rw [A0G];lia),A0G,A2i 0x3,A2W];rfl
    ·rw [en];refine Cr (fun x hx=>?_) ?_ ?_
     ·rcases A0l.mp hx with z | z
      ·rcases A0l.mp z with z | z
       ·exact hc x (A2b z)
       ·rw [A0b.mp z];exact hc0
      ·exact hc x (A2S z)
     ·rw [gZ,gZ,A0r];lia
     ·rw [gZ,gZ,A0G,A1t,A0r];lia
  ·rintro σ H4 ⟨zs,u1,u2,u3,rfl,s4,hL,hz,ht⟩;refine ⟨_,rfl,k l H4 zs s4 hl1 hL hz (fun z hzm=>?_) (ht.nodup 0x3)⟩;obtain ⟨i,hi,rfl⟩:=A1S.mp hzm;exact (ht i _ (jR hi)).2
abbrev Ge:Stmt:=top 68
abbrev sLf:Stmt:=top 69
theorem v7 {fs:List Int} (h:i<=j) (hj:j<=fs.length):ig (fs.map V.int) (some (i:Int)) (some (j:Int))=((fs.drop i).take (j - i)).map V.int:=by
 unfold ig;rw [HT.jD,HT.jD,cg,A2i hj,A2i (A0M h hj),List.map_take,List.map_drop]
theorem Gf {fs:List Int} (h:∀ v∈fs,vA v):∀ v∈(fs.drop i).take n,vA v:=fun v hv=>h v (A2S (A2b hv))
def Nm (z:Str):Prop:=nameB z.cps.toList=true
theorem Nm.ne {z:Str} (h:Nm z):z≠""/\PyData.strOk z=true:=by
 unfold Nm nameB at h;rw [A1b,A1b] at h
 constructor
 ·intro e;rw [e] at h;have:=nU h.2.1;exact absurd this 0x1A
 ·unfold PyData.strOk;rw [<- Array.all_toList,A1u];intro c hc;have:=A1u.mp h.1 c hc;unfold low at this;simp at this ⊢;lia
structure Cu (H:Hp) (r m la:Addr) (ms ls:List Str) (wd:Int):Prop where
 r:H r=some (.tup [.ref m,.ref la,.int wd])
 m:H m=some (.lst (ms.map V.str))
 la:H la=some (.lst (ls.map V.str))
 lm:ms.length=6
 ll:ls.length=9
 nm:ms.Nodup
 om:∀ z∈ms,Nm z
 ol:∀ z∈ls,Nm z
 w1:1<=wd
 w2:wd<=9999
theorem Cu.same {r m la:Addr}{ms:List Str} (p:Cu H r m la ms ls wd) (s:Same H H'):Cu H' r m la ms ls wd:=⟨s _ _ p.r,s _ _ p.m,s _ _ p.la,p.lm,p.ll,p.nm,p.om,p.ol,p.w1,p.w2⟩
inductive zx (K:W.Frag) (vs:List V) (H:Hp) (Q:VK) (cB:XK):Prop
 | mk (a:Addr) (fs:List Int) (_:vs=[.ref a]) (_:bR K H a (fs.map V.int)) (_:20<=fs.length) (_:(∀ v∈fs,vA v)) (_:∀ r m la ms ls wd H',Same H H'->Cu H' r m la ms ls wd->Q (.ref r) H'):zx K vs H Q cB
theorem idx9:idxV 9 (some 8) (some 2) (some (-1))=[8,7,6,5,4,3]:=by decide +kernel
theorem nine (h:ls.length=9):∃ a b c d e f g i j,ls=[a,b,c,d,e,f,g,i,j]:=by
 match ls,h with
 | [a,b,c,d,e,f,g,i,j],_=>exact ⟨a,b,c,d,e,f,g,i,j,rfl⟩
inductive Zj (K:W.Frag) (vs:List V) (H:Hp) (Q:VK) (cB:XK):Prop
 | mk (q:Ad) (es:List aU) (ks:List Str) (me:Addr) (ms:List Str) (m:Str) (n:Int) (_:vs=[.ref q.B,.ref me,.str m,.int n]) (_:Ap q) (_:Bk q H es ks) (_:WF es) (_:es.length<64) (_:H me=some (.lst (ms.map V.str))) (_:ms.length<=20) (_:m≠"") (_:∀ (z:Str) (H':Hp),Same H H'->(z=""\/z∈ms\/∃ e∈es,e.man=z)->Q (.str z) H'):Zj K vs H Q cB
theorem zy:aP ["_law_feed_here", "_law_wide", "_law_lands"] ["_law_feed_here"] (aH Ge):=0x0
theorem Ra (F:fu K "_law_pools" "_law_pools" Ge f fd)  (G1:aL P w K mg base bO 1 g1 d1 ["_law_d", "_law_many"] (zu K)) (M1:Ms K mg "_law_names" g1 d1 ["_law_d", "_law_many"]):aL P w K mg base bO 2 f fd ["_law_feed_here"] (zx K):=by
 refine F.ok zy 0x1 0x2;obtain ⟨a,fs,rfl,hS,hlen,hok,k⟩:=h;refine ⟨_,(au (aY (i:=1) zy.nd rfl 0x8 (aN bD (cU (ak (aX cY aA (aX bW 0x2F aA)) (ak (aX cY aA (aX bW 0x2F aA)) (ak (aX tG aA (aX bW 0x2F aA)) (ak aA aC))))) (aX bW 0x2F aA) 0x4))
  (au (aY (i:=2) zy.nd rfl 0x8 (bJ G1 hr rfl M1.m M1.k M1.b .nil bC (ak (eV jF (pv 0) (cD aA) (cD aA)) (ak aA aC))))
  (au (bK (aQ cV (aX bW (aX jo 0x2F aA) aA) aA (bB _)) (aG (aV (cZ (ak (nJ (pv 2) (cD aA) (cD aA) (cD (zX tH aA))) (ak (pv 2) 0x26))))) aR)
  (aG (aV (cZ (ak (bJ G1 hr rfl M1.m M1.k M1.b .nil bC (ak (eV jF (pv 0) (cD aA) (cD aA)) (ak aA aC))) (ak (pv 2) 0x26)))))))),?_⟩
 obtain ⟨d12,ZJ,o12⟩:=gJ hok (i:=12) 0x6 0x3;obtain ⟨d13,e13,o13⟩:=gJ hok (i:=13) 0x6 0x3;obtain ⟨o12a,o12b⟩:=o12;obtain ⟨o13a,o13b⟩:=o13;refine ⟨_,rfl,a,_,_,_,rfl,rfl,hS,ZJ,_,_,rfl,rfl,(by show (0:Int)<200;decide),_,_,rfl,rfl,_,rfl,a,_,_,_,rfl,rfl,hS,ZJ,_,_,rfl,rfl,(by show (0:Int)<9;decide),_,_,rfl,rfl,_,rfl,a,_,_,_,rfl,rfl,hS,ZJ,_,_,rfl,rfl,(by show (0:Int)<50;decide),_,_,rfl,rfl,small 0xA,fun l hl=>?_⟩
 apply 0o1 H l hl s1 k1 H1
 have S1:=s1.seq hS;obtain ⟨x,hx,hm⟩:=jK (xs:=[V.int (7+d12 % 200),.int (1+d12 % 9),.int (9999 - d12 % 50),.int 40]) (i:=d13 % 4) 0x3 (by simp;lia);obtain ⟨wd,rfl,w1,w2⟩:∃ wd:Int,x=.int wd/\1<=wd/\wd<=9999:=by
  simp only [A0d,A0w,A1k] at hm;rcases hm with rfl | rfl | rfl | rfl
  ·exact ⟨_,rfl,by lia,by lia⟩
  ·exact ⟨_,rfl,by lia,by lia⟩
  ·exact ⟨_,rfl,by lia,by lia⟩
  ·exact ⟨_,rfl,by lia,by lia⟩
 refine ⟨_,rfl,a,_,_,_,rfl,rfl,S1,e13,_,_,rfl,rfl,(by show (0:Int)<4;decide),l,_,_,_,rfl,rfl,bR.of k1,hx,?_⟩
 refine ⟨_,rfl,_,rfl,_,rfl,a,_,rfl,S1,fun p1 hp1=>?_⟩;have c1:ig (fs.map V.int) (some 8) (some 12)=((fs.drop 8).take 4).map V.int:=v7 (i:=8) (j:=12) 0x6 0x3;rw [c1];have s2:=s1.trans (aO hp1 (.lst (((fs.drop 8).take 4).map V.int)));refine ⟨p1,_,9,rfl,bR.of ao,by rw [A0G,A1t];lia,Gf hok,by decide,by decide,fun la H2 ls s12 hla hla' hll hln hnd=>?_⟩;have s02:=s2.trans s12;have S2:=s02.seq hS;refine ⟨_,rfl,a,_,_,_,rfl,rfl,S2,e13,_,_,rfl,rfl,⟨by decide,by decide⟩,_,_,rfl,rfl,(by show (0:Int)<4;decide),rfl,_,rfl,?_⟩
 refine iy (fun _=>?_) (fun _=>?_)
 ·refine ⟨_,rfl,_,rfl,_,rfl,_,rfl,_,rfl,la,_,rfl,bR.of hla',by decide,?_,fun p2 hp2=>?_⟩
  ·unfold nq;rw [cg,show ls.length=9 from hll,idx9]
   exact A0M (List.length_filterMap_le _ _) 0x6
  have ep:nq (ls.map V.str) (some 8) (some 2) (some (-1))=([8,7,6,5,4,3].filterMap (ls[·]?)).map V.str:=by
   unfold nq;rw [cg,show ls.length=9 from hll,idx9]
   obtain ⟨a,b,c,d,e,f,g,i,j,rfl⟩:=nine (show ls.length=9 from hll)
   rfl
  rw [ep];have s3:=aO hp2 (.lst (([8,7,6,5,4,3].filterMap (ls[·]?)).map V.str));refine ⟨_,rfl,_,rfl,small 0xA,fun r hr0=>?_⟩;have s4:=aO hr0 (.tup [.ref p2,.ref la,.int wd]);refine k r p2 la ([8,7,6,5,4,3].filterMap (ls[·]?)) ls wd _ ((s02.trans s3).trans s4) ⟨ao,s4 _ _ ao,s4 _ _ (s3 _ _ hla'),?_,hll,?_,?_,hln,w1,w2⟩
  ·obtain ⟨a,b,c,d,e,f,g,i,j,rfl⟩:=nine (show ls.length=9 from hll)
   rfl
  ·obtain ⟨a,b,c,d,e,f,g,i,j,rfl⟩:=nine (show ls.length=9 from hll)
   show [j,i,g,f,e,d].Nodup
   simp only [A0T,A0d,A0w,A1k,A4v,A4b,and_true,A4h] at hnd ⊢;obtain ⟨_,_,_,h4,h5,h6,h7,h8⟩:=hnd;refine ⟨⟨A0k h8,A0k h7.2,A0k h6.2.2,A0k h5.2.2.2,A0k h4.2.2.2.2⟩,⟨A0k h7.1,A0k h6.2.1,A0k h5.2.2.1,A0k h4.2.2.2.1⟩,⟨A0k h6.1,A0k h5.2.1,A0k h4.2.2.1⟩,⟨A0k h5.1,A0k h4.2.1⟩,A0k h4.1⟩
  ·intro z hz;obtain ⟨i,_,hi⟩:=A3X.mp hz;exact hln z (vm hi)
 ·refine ⟨_,rfl,_,rfl,_,rfl,a,_,rfl,S2,fun p2 hp2=>?_⟩;have c2:ig (fs.map V.int) (some 4) (some 8)=((fs.drop 4).take 4).map V.int:=v7 (i:=4) (j:=8) 0x6 0x3;rw [c2];have s3:=aO hp2 (.lst (((fs.drop 4).take 4).map V.int));refine ⟨p2,_,6,rfl,bR.of ao,by rw [A0G,A1t];lia,Gf hok,by decide,by decide,fun me H3 ms s13 hme hme' hlm hmn hmd=>?_⟩;refine ⟨_,rfl,_,rfl,small 0xA,fun r hr0=>?_⟩;have s4:=aO hr0 (.tup [.ref me,.ref la,.int wd]);exact k r me la ms ls wd _ (((s02.trans s3).trans s13).trans s4) ⟨ao,s4 _ _ hme',s4 _ _ (s13 _ _ (s3 _ _ hla')),hlm,hll,hmd,hmn,hln,w1,w2⟩
theorem scLf:aP ["_law_book_here", "_law_men", "_law_man", "_law_number", "_law_some"] A5a (aH sLf):=0x0
def a03:Scope:={ kind:=.function,names:=[(".0",.local),("_law_one",.local),("_law_man",.free)],isGenerator:=false,isCoroutine:=false }
theorem a04:gO ["_law_book_here", "_law_men", "_law_man", "_law_number", "_law_some"] (aH sLf) a03 ["_law_one"] ["_law_man"] [2]:=0xB
theorem a05:((["_law_one"]:List Str)++(["_law_man"]:List Str)).Nodup:=by decide +kernel
theorem a06 (F:fu K "_law_lord_for" "_law_lord_for" sLf f fd) (ml:mg "len"=none)  (G1:aL P w K mg base bO 2 g1 d1 A4N Ik) (M1:Ms K mg "_law_bound_to" g1 d1 A4N):aL P w K mg base bO 3 f fd A5a (Zj K):=by
 refine F.ok scLf 0x1 0x2;obtain ⟨q,es,ks,me,ms,m,n,rfl,ap,bk,W,hl,hme,hml,hm,k⟩:=h;refine ⟨_,(au (GR (i:=4) rfl a04 (cX (aX mO (aX mO (aX Xv (bJ G1 hr rfl M1.m M1.k M1.b .nil bC (ak (pv 0) (ak (pv 2) aC))) aA) 0x10) (cU (ak aK aC)))) (fun s H fp C'=>⟨bf (i:=0) a05 rfl 0x8,jG (aQ oU (pv 0) 0x10 (bB _)),pv 0⟩) scLf.nd rfl 0x8)
  (aG (aV (aN bD (pv 4) (aX bW (pv 3) (bG cI rfl ml A1m (ak (pv 4) aC))) 0x4)))),?_⟩
 refine ⟨_,rfl,_,rfl,q,es,ks,m,rfl,ap,bk,W,hl,fun r1 ss H1 s1 hr1 hr1' hss hbm=>?_⟩;refine ⟨r1,3,_,rfl,rfl,hr1',by decide,by decide,(by rw [cg];exact small (by show ss.length * 3<=_;lia)),fun r2 hr2=>?_⟩
 have er:(List.replicate (3:Int).toNat (ss.map V.str)).flatten=(ss++ss++ss).map V.str:=by
  show (List.replicate 3 (ss.map V.str)).flatten=_
  simp [List.replicate]
 rw [er];have s2:=s1.trans (aO hr2 (.lst ((ss++ss++ss).map V.str)));have k2:(upd H1 r2 (.lst ((ss++ss++ss).map V.str))) r2=some (.lst ((ss++ss++ss).map V.str)):=ao;generalize upd H1 r2 (.lst ((ss++ss++ss).map V.str))=H2 at s2 k2 ⊢;have l3:(ss++ss++ss).length<=200:=by simp;lia
 have m3:∀ z∈ss++ss++ss,∃ e∈es,e.man=z:=fun z hz=>by
  have hz:z∈ss:=by
   rcases A0l.mp hz with h | h
   ·rcases A0l.mp h with h | h <;> exact h
   ·exact h
  obtain ⟨y,_,_,_,z',hz',_,h4⟩:=(hbm z).mp hz;exact ⟨z',hz',h4⟩
 generalize ss++ss++ss=Dd at k2 l3 m3;refine ⟨_,rfl,r2,me,_,_,rfl,rfl,k2,s2 _ _ hme,(by rw [cg,cg];exact small 0x3),fun r3 hr3=>?_⟩;have e3:Dd.map V.str++ms.map V.str=(Dd++ms).map V.str:=by rw [iZ]
 rw [e3];have s3:=s2.trans (aO hr3 (.lst ((Dd++ms).map V.str)));have k3:(upd H2 r3 (.lst ((Dd++ms).map V.str))) r3=some (.lst ((Dd++ms).map V.str)):=ao;generalize upd H2 r3 (.lst ((Dd++ms).map V.str))=H3 at s3 k3 ⊢;refine ⟨small 0xA,fun r4 Wm=>?_⟩;have s4:=aO Wm (.lst [.str ""]);refine ⟨r3,r4,_,_,rfl,rfl,s4 _ _ k3,ao,(by rw [cg,gZ,A0r];exact small 0x3),fun r5 ZP=>?_⟩;have e5:(Dd++ms).map V.str++[V.str ""]=(Dd++ms++[("" : Str)]).map V.str:=by rw [iZ (l₂:=[("" : Str)])];rfl
 rw [e5];have s5:=(s3.trans s4).trans (aO ZP (.lst ((Dd++ms++[("" : Str)]).map V.str)));have k5:(upd (upd H3 r4 (.lst [.str ""])) r5 (.lst ((Dd++ms++[("" : Str)]).map V.str))) r5=some (.lst ((Dd++ms++[("" : Str)]).map V.str)):=ao;generalize upd (upd H3 r4 (.lst [.str ""])) r5 (.lst ((Dd++ms++[("" : Str)]).map V.str))=H5 at s5 k5 ⊢;have l5:(Dd++ms++[("" : Str)]).length<=300:=by simp;lia
 have in5:("" : Str)∈Dd++ms++[("" : Str)]:=A0z _ (A0b.mpr rfl);have m5:∀ z∈Dd++ms++[("" : Str)],z=""\/z∈ms\/∃ e∈es,e.man=z:=fun z hz=>by
  rcases A0l.mp hz with h | h
  ·rcases A0l.mp h with h | h
   ·exact .inr (.inr (m3 z h))
   ·exact .inr (.inl h)
  ·exact .inl (A0b.mp h)
 generalize Dd++ms++[("" : Str)]=xs at k5 l5 in5 m5;refine ⟨r5,rfl,⟨_,bR.of k5⟩,fun D hD=>qH (xs:=xs) (fun x=>!decide (x=m)) V.str (bR.of k5) hD 0x3 (fun x Hz A B hx sz hAB=>?_) (fun Hz sz jA=>?_)⟩
 ·have hAB:=hAB _ (Same.refl _);refine ⟨Kp.set rfl (Kp.refl _),_,rfl,_,rfl,rfl,_,rfl,?_⟩;rw [iu];refine iy 0x35 0x35
  ·rw [A0i c] at hAB;exact ⟨_,rfl,hAB⟩
  ·rw [A0f c] at hAB;exact hAB
 ·have hin:("" : Str)∈xs.filter fun x=>!decide (x=m):=A0q.mpr ⟨in5,by rw [A0n (A0k hm)];rfl⟩;have hpos:0<(xs.filter fun x=>!decide (x=m)).length:=A3q hin;have zsub:∀ z∈xs.filter (fun x=>!decide (x=m)),z∈xs:=fun z hz=>(A0q.mp hz).1;generalize (xs.filter fun x=>!decide (x=m))=zs at jA hpos zsub;refine ⟨_,rfl,_,rfl,_,rfl,D,_,rfl,.inl (bR.of jA),_,_,rfl,rfl,(by rw [cg];show (0:Int)<((zs.length:Nat):Int);lia),?_⟩
  have p0:=A0Q n (show ((zs.map V.str).length:Int)≠0 by rw [cg];lia)
  have p1:=A0L n (show (0:Int)<((zs.map V.str).length:Int) by rw [cg];lia)
  obtain ⟨v,hv,hvm⟩:=jK (xs:=zs.map V.str) p0 p1;obtain ⟨z,hzm,rfl⟩:=A0e.mp hvm;exact ⟨D,_,_,_,rfl,rfl,bR.of jA,hv,k z Hz (s5.trans sz) (m5 z (zsub z hzm))⟩
end M
namespace L2
open PySem PySem.Spec PyProof.Rows PySem.W
theorem vH (h:X.K=K:=by rfl):mq X (compareOp .NotIn) (rIn K true):=h ▸ lD
theorem Gg:bootBuiltins "min"=some (.builtin "min"):=by decide +kernel
theorem grab {a b:TS}{D:Ends} (Pv:St->Hp->Prop) (h2:∀ σ' H',Pv σ' H'->b D σ' H') (h1:(∀ σ' H',Pv σ' H'->b D σ' H')->a { D with nx:=fun σ' H'=>b D σ' H' } σ H):Lq a b D σ H:=h1 h2
end L2
namespace M
open PySem L2 PyProof.Rows
abbrev V8:Stmt:=top 70
theorem V9 (h:Int) (l:List Int):inV (V.int h) (l.map V.int)=decide (h∈l):=by
 unfold inV
 induction l with
 | nil=>rfl
 | cons x r ih =>
  rw [A0m,A2l,ih]
  show ((x==h)||decide (h∈r))=_
  rw [A1g,Bool.or_eq_true,A1H,A1H,A0d,A3s]
  constructor
  ·rintro (e | e)
   ·exact .inl e.symm
   ·exact .inr e
  ·rintro (e | e)
   ·exact .inl e.symm
   ·exact .inr e
theorem Zk {h:Int} (l:List Int) {A:Prop} (h1:h∈l->A) (h2:h∉l->B):if (if (false:Bool)=true then !inV (V.int h) (l.map V.int) else inV (V.int h) (l.map V.int))=true then A else B:=by
 rw [A0f A0p,V9];exact iy (fun c=>h1 (nU c)) fun c=>h2 fun z=>c (A0g z)
theorem eq_int {h l:Int}{A:Prop} (h1:h=l->A) (h2:h≠l->B):if decide (V.int h=V.int l)=true then A else B:=by
 refine iy (fun c=>h1 ?_) fun c=>h2 fun z=>c (A0g (by rw [z]));have:=nU c;injection this
theorem eq_str {h:Str}{A:Prop} (h1:h=l->A) (h2:h≠l->B):if decide (V.str h=V.str l)=true then A else B:=by
 refine iy (fun c=>h1 ?_) fun c=>h2 fun z=>c (A0g (by rw [z]));have:=nU c;injection this
theorem v8 {i:Int} (h0:0<=i) (h1:i<zs.length):∃ z,vq (zs.map V.str) i=some (V.str z)/\z∈zs:=by
 obtain ⟨v,hv,hm⟩:=jK (xs:=zs.map V.str) h0 (by rw [cg];exact h1);obtain ⟨z,hz,rfl⟩:=A0e.mp hm;exact ⟨z,hv,hz⟩
theorem Va {f:aU->V} (es:List aU):(kv f es).map (fun x=>kV x.1)=(nms es).map V.str:=by rw [A0Z,A0Z];rfl
inductive Rb (K:W.Frag) (vs:List V) (H:Hp) (Q:VK) (cB:XK):Prop
 | mk (q:Ad) (es:List aU) (ks:List Str) (p d m la:Addr) (ms ls:List Str) (wd dy:Int) (ds:List Int) (_:vs=[.ref q.B,.ref p,.ref d,.int dy]) (_:Ap q) (_:Bk q H es ks) (_:WF es) (_:Mn es) (_:es.length<64) (_:Cu H p m la ms ls wd) (_:bR K H d (ds.map V.int)) (_:ds.length=8) (_:(∀ v∈ds,vA v)) (_:(∀ d0,vq (ds.map V.int) 0=some (.int d0)->d0 % 13<4\/d0 % 13=8\/d0 % 13=10)) (_:∀ r (cO:Ro) H',Same H H'->H' r=some (.tup (Ro.vs dy cO))->cO.Ok ls->cO.Tx->Q (.ref r) H'):Rb K vs H Q cB
theorem jL:aP A4S A4Z (aH V8):=0x0
def a07:Scope:={ kind:=.function,names:=[(".0",.local),("_law_one",.local),("_law_book_here",.free)],isGenerator:=false,isCoroutine:=false }
theorem a08:gO A4S (aH V8) a07 ["_law_one"] ["_law_book_here"] [0]:=0xB
theorem a09:((["_law_one"]:List Str)++(["_law_book_here"]:List Str)).Nodup:=by decide +kernel
theorem Zm (F:fu K "_law_row" "_law_row" V8 f fd) (ms:mg "sorted"=none) (mli:mg "list"=none) (mn:mg "len"=none) (Vb:mg "max"=none) (Rf:mg "min"=none)  (G1:aL P w K mg base bO 3 g1 d1 A5a (Zj K)) (M1:Ms K mg "_law_lord_for" g1 d1 A5a):aL P w K mg base bO 4 f fd A4Z (Rb K):=by
 refine F.ok jL 0x1 0x2;obtain ⟨q,es,ks,p,d,m,la,mz,ls,wd,dy,ds,rfl,ap,bk,W,MN,hl,pl,hS,hdl,hdo,hw,k⟩:=h;refine ⟨_,(au (aY (i:=4) jL.nd rfl 0x8 0x19)
  (au (aY (i:=5) jL.nd rfl 0x8 0x19)
  (au (aY (i:=6) jL.nd rfl 0x8 (bG iB rfl ms jx (ak (gW (Er hr.hd) rfl mli pA (ak 0x1B aC)) aC)))
  (au (aY (i:=7) jL.nd rfl 0x8 (aN bD (pv 6) (aX bW 0x29 (bG cI rfl mn A1m (ak (pv 6) aC))) 0x4))
  (au (aY (i:=8) jL.nd rfl (Or.inr rfl) (aN bD (pv 4) (aX bW 0x29 (bG cI rfl mn A1m (ak (pv 4) aC))) 0x4))
  (au (GR (i:=9) rfl a08 (cX (pv 5)) (fun s H fp C'=>⟨bf (i:=0) a09 rfl 0x8,jG (aQ (vH (K:=K)) (pv 0) (bH (u1 hr) 0x10 aK 0x4) 0xE),(pv 0)⟩) jL.nd rfl 0x8)
  (au (aY (i:=10) jL.nd rfl 0x8 (aN bD (aX mO (pv 9) (pv 5)) (aX bW 0x29 (bG (qw rfl) rfl Vb DG (ak aA (ak (bG cI rfl mn A1m (ak (pv 9) aC)) aC)))) 0x4))
  (au (bK (aQ Lz (aX bW 0x29 aA) aA (bB _)) (au (aY (i:=10) jL.nd rfl 0x8 (aN bD (pv 5) (aX bW 0x29 (bG cI rfl mn A1m (ak (pv 5) aC))) 0x4))
  (aG (aY (i:=7) jL.nd rfl 0x8 (aN bD (aX mO (cU (ak aK aC)) (pv 5)) (aX bW 0x29 aA) 0x4)))) aR)
  (au (aY (i:=11) jL.nd rfl 0x8 (Bf (u1 hr) 0x1B (pv 7) aA ⟨rfl,rfl,rfl,rfl⟩))
  (au (aY (i:=12) jL.nd rfl 0x8 (aX cY aA (aX bW 0x29 (bG (qw rfl) rfl Vb DG (ak aA (ak (pv 11) aC))))))
  (au (bK (aQ cV (aX bW 0x29 aA) aA (bB _)) (aG (aY (i:=12) jL.nd rfl 0x8 (bG (qx rfl) rfl Rf Gg (ak aA (ak (aX cY (aX cY (pv 11) aA) (aX bW 0x29 aA)) aC))))) aR)
  (au (aY (i:=13) jL.nd rfl 0x8 (aX bW 0x29 aA))
  (au (bK (PW.pt (zV (aQ tK (pv 13) aA (bB _)) (sY (PW.pt (lZ (aQ cV (pv 7) aK (bB _)) (jC (aQ gF (pv 13) (cZ (ak aA (ak aA (ak aA (ak aA (ak aA aC)))))) 0xE))))))) (aG (aV (cZ (ak aK (ak (pv 3) (ak (pv 7) (ak (pv 10) (ak (pv 8) (ak (pv 12) (ak (aN bD (cU (ak aA (ak aA (ak (aX bW 0x29 aA) (ak (aX tG aA (aX bW 0x29 aA)) aC))))) (aX bW 0x29 aA) 0x4) aC)))))))))) aR)
  (au (bK (PW.pt (zV (aQ cV (pv 13) aA (bB _)) (sY (aQ cV (pv 13) aA (bB _))))) (aG (aV (cZ (ak aK (ak (pv 3) (ak (pv 7) (ak (pv 10) (ak (pv 8) (ak (pv 12) aC))))))))) aR)
  (au (bK (aQ tK (pv 13) aA (bB _)) (aG (aV (cZ (ak aK (ak (pv 3) (ak (pv 7) (ak (pv 8) aC))))))) aR)
  (au (bK (PW.pt (zV (aQ cV (pv 13) aA (bB _)) (sY (aQ cV (pv 13) aA (bB _))))) dM aR)
  (au (bK (aQ cV (pv 13) aA (bB _)) (aG (aV (cZ (ak aK (ak (pv 3) (ak (pv 8) (ak (bJ G1 hr rfl M1.m M1.k M1.b .nil bC (ak (pv 0) (ak (pv 4) (ak (pv 8) (ak 0x29 aC))))) aC))))))) aR)
  (au (bK (aQ cV (pv 13) aA (bB _)) dM aR)
  (aG (aV (cZ (ak aK (ak (pv 3) (ak (pv 8) aC)))))))))))))))))))))))),?_⟩
 obtain ⟨d0,e0,o0⟩:=gJ hdo (i:=0) 0x6 0x3;obtain ⟨o0a,o0b⟩:=o0;obtain ⟨d1,e1,o1⟩:=gJ hdo (i:=1) 0x6 0x3;obtain ⟨o1a,o1b⟩:=o1;obtain ⟨d2,e2,o2⟩:=gJ hdo (i:=2) 0x6 0x3;obtain ⟨o2a,o2b⟩:=o2;obtain ⟨d3,e3,o3⟩:=gJ hdo (i:=3) 0x6 0x3;obtain ⟨o3a,o3b⟩:=o3;obtain ⟨d4,e4,o4⟩:=gJ hdo (i:=4) 0x6 0x3;obtain ⟨o4a,o4b⟩:=o4;obtain ⟨d5,e5,o5⟩:=gJ hdo (i:=5) 0x6 0x3;obtain ⟨o5a,o5b⟩:=o5;obtain ⟨d6,e6,o6⟩:=gJ hdo (i:=6) 0x6 0x3;obtain ⟨o6a,o6b⟩:=o6;obtain ⟨d7,e7,o7⟩:=gJ hdo (i:=7) 0x6 0x3;obtain ⟨o7a,o7b⟩:=o7;have lm:=pl.lm;have ll:=pl.ll;have npos:0<es.length:=by
  obtain ⟨c,r,e,_⟩:=W.hd;rw [e];simp
 refine ⟨_,rfl,p,_,_,_,rfl,rfl,bZ.of pl.r,aJ (j:=0) rfl,?_⟩;refine ⟨_,rfl,p,_,_,_,rfl,rfl,bZ.of pl.r,aJ (j:=1) rfl,?_⟩;refine ⟨_,rfl,q.B,_,rfl,bk.gl,q.l,_,rfl,bk.l,fun t1 ht1=>?_⟩;rw [Va];have s1:=aO ht1 (.lst ((nms es).map V.str));refine ⟨t1,nms es,rfl,bR.of ao,by rw [cg];exact hl,fun th ts hth hpt _=>?_⟩;have s2:=s1.trans (aO hth (.lst (ts.map V.str)));have k2:(upd (upd H t1 (.lst ((nms es).map V.str))) th (.lst (ts.map V.str))) th=some (.lst (ts.map V.str)):=ao;generalize upd (upd H t1 (.lst ((nms es).map V.str))) th (.lst (ts.map V.str))=H2 at s2 k2 ⊢;have tl:ts.length=es.length:=by rw [hpt.length_eq,cg]
 have S2:=s2.seq hS;obtain ⟨est0,he0,hem0⟩:=v8 (zs:=ts) (i:=d1 % ((ts.map V.str).length:Int)) (A0Q _ (by rw [cg];lia)) (by have:=A0L d1 (show (0:Int)<((ts.map V.str).length:Int) by rw [cg];lia);rw [cg] at this ⊢;exact this)
 refine ⟨_,rfl,_,rfl,d,_,_,_,rfl,rfl,S2,e1,_,rfl,th,_,rfl,.inl (bR.of k2),_,_,rfl,rfl,(by rw [cg];show (0:Int)<((ts.length:Nat):Int);lia),th,_,_,_,rfl,rfl,bR.of k2,he0,?_⟩
 have km2:=s2 _ _ pl.m;have kl2:=s2 _ _ pl.la;obtain ⟨man,hm0,hmm⟩:=v8 (zs:=mz) (i:=d2 % ((mz.map V.str).length:Int)) (A0Q _ (by rw [cg];lia)) (by have:=A0L d2 (show (0:Int)<((mz.map V.str).length:Int) by rw [cg];lia);rw [cg] at this ⊢;exact this)
 refine ⟨_,rfl,_,rfl,d,_,_,_,rfl,rfl,S2,e2,_,rfl,m,_,rfl,.inl (bR.of km2),_,_,rfl,rfl,(by rw [cg];show (0:Int)<((mz.length:Nat):Int);lia),m,_,_,_,rfl,rfl,bR.of km2,hm0,?_⟩
 have Zn:man≠"":=((pl.om man hmm).ne).1;refine ⟨_,rfl,la,rfl,⟨_,bR.of kl2⟩,fun D hD=>qH (xs:=ls) (fun x=>!decide (x∈ks)) V.str (bR.of kl2) hD 0x3 (fun x Hz A B hx sz hAB=>?_) (fun Hz sz jA=>?_)⟩
 ·have hAB:=hAB _ (Same.refl _);have bz:=bk.same (s2.trans sz);refine ⟨Kp.set rfl (Kp.refl _),_,rfl,_,rfl,q.B,_,rfl,bz.gk,q.kn,_,rfl,.inl (bR.of bz.k),rfl,gY _,_,rfl,?_⟩
  show if (!inV (V.str x) (ks.map V.str))=true then _ else _
  rw [lO];refine iy 0x35 0x35
  ·rw [A0i c] at hAB;exact ⟨_,rfl,hAB⟩
  ·rw [A0f c] at hAB;exact hAB
 have fsub:∀ z∈ls.filter (fun x=>!decide (x∈ks)),z∈ls:=fun z hz=>(A0q.mp hz).1;have fle:(ls.filter fun x=>!decide (x∈ks)).length<=9:=by have:=A0J (fun x=>!decide (x∈ks)) ls;lia
 generalize (ls.filter fun x=>!decide (x∈ks))=fr at jA fsub fle;have s3:=s2.trans sz;have S3:=s3.seq hS;have kl3:=sz _ _ kl2;refine ⟨_,rfl,_,rfl,D,la,_,_,rfl,rfl,jA,kl3,(by rw [cg,cg];exact small 0x3),fun c1 hc1=>?_⟩;have e1':fr.map V.str++ls.map V.str=(fr++ls).map V.str:=by rw [iZ]
 rw [e1'];have s4:=s3.trans (aO hc1 (.lst ((fr++ls).map V.str)));have k4:(upd Hz c1 (.lst ((fr++ls).map V.str))) c1=some (.lst ((fr++ls).map V.str)):=ao;have kD4:=(aO hc1 (.lst ((fr++ls).map V.str))) _ _ jA;have kl4:=(aO hc1 (.lst ((fr++ls).map V.str))) _ _ kl3;generalize upd Hz c1 (.lst ((fr++ls).map V.str))=H4 at s4 k4 kD4 kl4 ⊢;have S4:=s4.seq hS;have mxp:(0:Int)<(if ((fr.map V.str).length:Int) > 1 then ((fr.map V.str).length:Int) else 1):=by split <;> lia
 have mxl:(if ((fr.map V.str).length:Int) > 1 then ((fr.map V.str).length:Int) else 1)<=((fr++ls).length:Int):=by
  rw [cg,gZ]
  split <;> lia
 obtain ⟨nw0,hn0,hnm⟩:=v8 (zs:=fr++ls) (i:=d3 % (if ((fr.map V.str).length:Int) > 1 then ((fr.map V.str).length:Int) else 1)) (A0Q _ 0x3) (by have:=A0L d3 mxp;lia)
 have hnw0:nw0∈ls:=by
  rcases A0l.mp hnm with z | z
  ·exact fsub _ z
  ·exact z
 refine ⟨_,rfl,d,_,_,_,rfl,rfl,S4,e3,_,rfl,D,_,rfl,.inl (bR.of kD4),_,_,rfl,_,_,rfl,rfl,mxp,c1,_,_,_,rfl,rfl,bR.of k4,hn0,?_⟩;dsimp only [oR];refine grab (a:=Dh _ _ _) (fun σ' Hx=>∃ est nw,σ'=[some (.ref q.B),some (.ref p),some (.ref d),some (.int dy),some (.ref m),some (.ref la),some (.ref th),some (.str est),some (.str man),some (.ref D),some (.str nw),none,none,none,none]/\Same H Hx/\nw∈ls/\PyData.strOk est=true) (fun σ' Hx hp=>?_) (fun go=>?_)
 rotate_left
 ·refine ⟨_,rfl,d,_,_,_,rfl,rfl,S4,e7,_,_,rfl,rfl,(by show (0:Int)<12;decide),_,_,rfl,rfl,_,rfl,?_⟩
  refine iy (fun _=>?_) (fun _=>?_)
  ·obtain ⟨nw1,hn1,hnm1⟩:=v8 (zs:=ls) (i:=d3 % ((ls.map V.str).length:Int)) (A0Q _ (by rw [cg];lia)) (by have:=A0L d3 (show (0:Int)<((ls.map V.str).length:Int) by rw [cg];lia);rw [cg] at this ⊢;exact this)
   refine ⟨_,rfl,_,rfl,d,_,_,_,rfl,rfl,S4,e3,_,rfl,la,_,rfl,.inl (bR.of kl4),_,_,rfl,rfl,(by rw [cg];show (0:Int)<((ls.length:Nat):Int);lia),la,_,_,_,rfl,rfl,bR.of kl4,hn1,?_⟩
   refine ⟨small 0xA,fun c2 hc2=>?_⟩;have sc2:=aO hc2 (.lst [.str ""]);refine ⟨_,rfl,c2,la,_,_,rfl,rfl,ao,sc2 _ _ kl4,(by rw [cg,A0r];exact small 0x3),fun c3 hc3=>?_⟩;have e3':[V.str ""]++ls.map V.str=(("" : Str)::ls).map V.str:=rfl;rw [e3'];have sc3:=sc2.trans (aO hc3 (.lst ((("" : Str)::ls).map V.str)));have k5:(upd (upd H4 c2 (.lst [.str ""])) c3 (.lst ((("" : Str)::ls).map V.str))) c3=some (.lst ((("" : Str)::ls).map V.str)):=ao
   change (fun σ' H'=>_) _ _
   obtain ⟨est1,he1,hem1⟩:=v8 (zs:=("" : Str)::ls) (i:=d1 % 10) 0x3 (by rw [vI];lia);refine ⟨_,rfl,d,_,_,_,rfl,rfl,(sc3.seq S4),e1,_,_,rfl,rfl,(by show (0:Int)<10;decide),c3,_,_,_,rfl,rfl,bR.of k5,he1,?_⟩
   exact go _ _ ⟨est1,nw1,rfl,s4.trans sc3,hnm1,(A0d.mp hem1).elim (fun z=>by rw [z];decide +kernel) fun z=>((pl.ol est1 z).ne).2⟩
  ·exact go _ _ ⟨est0,nw0,rfl,s4,hnw0,by obtain ⟨y0,hy0,e0⟩:=fP (hpt.mem_iff.mp hem0);rw [<- e0];exact W.ok y0 hy0⟩
 obtain ⟨est,nw,rfl,sx,hnw,hes⟩:=hp;have hns:=((pl.ol nw hnw).ne).2;have hms:=((pl.om man hmm).ne).2;have bx:=bk.same sx;have Sx:=sx.seq hS;obtain ⟨wv,hwv,w0,w1⟩:∃ wv:Int,(bI (lX es) (.inr est)).getD (.int 0)=.int wv/\0<=wv/\wv<=9999:=by
  by_cases c:est∈nms es
  ·obtain ⟨y,hy,rfl⟩:=fP c;rw [eG W.nd hy];have b1:=W.bnd y hy;have b2:=W.Oo y hy;exact ⟨y.own,rfl,by lia,by lia⟩
  ·rw [pL c];exact ⟨0,rfl,by lia,by lia⟩
 refine ⟨_,rfl,q.B,_,rfl,bx.go,q.o,rfl,isD bx.o,_,rfl,_,dj.k (k:=.inr est) bx.o,?_⟩;rw [hwv];have mw:(0:Int)<(if wv > 1 then wv else 1):=by split <;> lia
 have mw2:(if wv > 1 then wv else 1)<=9999:=by split <;> lia
 have q40:=A0Q d4 (A4w mw);have q41:=A0L d4 mw;refine ⟨_,rfl,d,_,_,_,rfl,rfl,Sx,e4,_,rfl,_,_,rfl,_,_,rfl,rfl,mw,_,_,rfl,rfl,?_⟩;generalize d4 % (if wv > 1 then wv else 1)=q4 at q40 q41 ⊢
 dsimp only [oR];refine grab (a:=Dh _ _ _) (fun σ' Hy=>∃ many:Int,σ'=[some (.ref q.B),some (.ref p),some (.ref d),some (.int dy),some (.ref m),some (.ref la),some (.ref th),some (.str est),some (.str man),some (.ref D),some (.str nw),some (.int wv),some (.int many),none,none]/\Hy=Hx/\1<=many/\many<=9999) (fun σ' Hy hp=>?_) (fun go=>?_)
 rotate_left
 ·refine ⟨_,rfl,d,_,_,_,rfl,rfl,Sx,e7,_,_,rfl,rfl,(by show (0:Int)<12;decide),rfl,_,rfl,eq_int (fun _=>?_) (fun _=>?_)⟩
  ·refine ⟨_,rfl,_,_,rfl,rfl,_,rfl,d,_,_,_,rfl,rfl,Sx,e4,_,_,rfl,rfl,(by show (0:Int)<2;decide),_,_,rfl,rfl,_,_,rfl,go _ _ ⟨_,rfl,rfl,?_,?_⟩⟩
   ·split <;> lia
   ·split <;> lia
  ·exact go _ _ ⟨_,rfl,rfl,by lia,by lia⟩
 obtain ⟨many,rfl,rfl,mn1,mn2⟩:=hp;refine ⟨_,rfl,d,_,_,_,rfl,rfl,Sx,e0,_,_,rfl,rfl,(by show (0:Int)<13;decide),?_⟩
 dsimp only [oR];have y0:=A0Q d0 (show (13:Int)≠0 by decide)
 have y1:=A0L d0 (show (0:Int)<13 by decide)
 have hwy:=hw d0 e0;generalize d0 % 13=way at y0 y1 hwy ⊢;obtain ⟨sr,hsr,hsm⟩:=jK (xs:=[V.int 0,.int 1,.int (d5 % 30),.int (9999 - d5 % 9)]) (i:=d6 % 4) 0x3 (by simp;lia);obtain ⟨sr,rfl,sr0,sr1⟩:∃ z:Int,sr=.int z/\0<=z/\z<=9999:=by
  simp only [A0d,A0w,A1k] at hsm;rcases hsm with rfl | rfl | rfl | rfl
  ·exact ⟨_,rfl,by lia,by lia⟩
  ·exact ⟨_,rfl,by lia,by lia⟩
  ·exact ⟨_,rfl,by lia,by lia⟩
  ·exact ⟨_,rfl,by lia,by lia⟩
 refine grab (a:=Dh _ _ _) (fun σ' Hw=>σ'=[some (.ref q.B),some (.ref p),some (.ref d),some (.int dy),some (.ref m),some (.ref la),some (.ref th),some (.str est),some (.str man),some (.ref D),some (.str nw),some (.int wv),some (.int many),some (.int way),none]/\Same H Hw/\4<=way/\(est=""->way∉[(4:Int),5,6,9,12])) (fun σ' Hw hp=>?_) (fun go=>?_)
 rotate_left
 ·have fin:∀ {Hw:Hp},Same H Hw->∀ r,Hw r=none->Q (.ref r) (upd Hw r (.tup [.str "grant",.int dy,.str est,.str nw,.str man,.int many,.int sr])):=fun {Hw} sw r hr0=>k r (.grant est nw man many sr) _ (bU sw (sw.free hr0)) ao ⟨hnw,mn1,mn2,sr0,sr1⟩ ⟨hes,hns,hms⟩;refine ⟨_,rfl,_,_,rfl,rfl,_,rfl,iy (fun _=>?_) (fun c4=>?_)⟩
  ·refine dU ⟨_,rfl,_,rfl,_,rfl,_,rfl,_,rfl,_,rfl,d,_,_,_,rfl,rfl,Sx,e5,_,_,rfl,rfl,(by show (0:Int)<30;decide),_,rfl,d,_,_,_,rfl,rfl,Sx,e5,_,_,rfl,rfl,(by show (0:Int)<9;decide),_,_,rfl,rfl,small 0xA,fun c hc=>?_⟩
   have sc:=aO hc (.lst [.int 0,.int 1,.int (d5 % 30),.int (9999 - d5 % 9)]);refine ⟨_,rfl,d,_,_,_,rfl,rfl,(sc.seq Sx),e6,_,_,rfl,rfl,(by show (0:Int)<4;decide),c,_,_,_,rfl,rfl,bR.of ao,hsr,small 0xA,fun r hr0=>?_⟩
   exact fin (sx.trans sc) r hr0
  ·have c4':4<=way:=by simpa using c4
   refine ⟨_,rfl,rfl,_,rfl,eq_str (fun he=>?_) (fun he=>?_)⟩
   ·refine ⟨_,rfl,small 0xA,fun c hc=>⟨c,_,rfl,.inr (bZ.of ao),rfl,rfl,_,rfl,Zk [4,5,6,9,12] (fun hin=>?_) (fun hin=>?_)⟩⟩
    ·have sc0:=aO hc (.tup [.int 4,.int 5,.int 6,.int 9,.int 12]);have Sx2:=sc0.seq Sx;refine ⟨_,rfl,_,rfl,_,rfl,_,rfl,_,rfl,_,rfl,d,_,_,_,rfl,rfl,Sx2,e5,_,_,rfl,rfl,(by show (0:Int)<30;decide),_,rfl,d,_,_,_,rfl,rfl,Sx2,e5,_,_,rfl,rfl,(by show (0:Int)<9;decide),_,_,rfl,rfl,small 0xA,fun c' hc'=>?_⟩
     have sc:=aO hc' (.lst [.int 0,.int 1,.int (d5 % 30),.int (9999 - d5 % 9)]);refine ⟨_,rfl,d,_,_,_,rfl,rfl,(sc.seq Sx2),e6,_,_,rfl,rfl,(by show (0:Int)<4;decide),c',_,_,_,rfl,rfl,bR.of ao,hsr,small 0xA,fun r hr0=>?_⟩
     exact fin ((sx.trans sc0).trans sc) r hr0
    ·exact go _ _ ⟨rfl,sx.trans (aO hc _),c4',fun _=>hin⟩
   ·refine cA ?_;exact go _ _ ⟨rfl,sx,c4',fun z=>absurd z he⟩
 obtain ⟨rfl,sw,c4,hcr⟩:=hp;have Sw:=sw.seq hS;have bw:=bk.same sw;have plw:=pl.same sw;have part:way∈[(4:Int),5,6,9,12]->est≠"":=fun h1 h2=>hcr h2 h1;have c7':¬ way<7:=by lia
 refine 0x23;refine 0x23;refine ⟨_,rfl,_,_,rfl,rfl,_,rfl,iy (fun c7=>absurd (by simpa using c7) c7') (fun c7=>?_)⟩;refine 0x23;refine 0x23;refine ⟨_,rfl,rfl,_,rfl,eq_int (fun hy=>?_) (fun n8=>?_)⟩
 ·refine ⟨_,rfl,_,rfl,_,rfl,_,rfl,_,rfl,_,rfl,d,_,_,_,rfl,rfl,Sw,e3,q,es,ks,m,mz,man,d3,rfl,ap,bw,W,hl,plw.m,by lia,Zn,fun z H5 s5 hz=>⟨small 0xA,fun r hr0=>?_⟩⟩;have sz:=sw.trans s5;refine k r (.liege man z) _ (bU sz (sz.free hr0)) ao Zn ⟨hms,?_⟩;rcases hz with e | e | ⟨y,hy,e⟩
  ·rw [e];decide +kernel
  ·exact ((pl.om z e).ne).2
  ·rw [<- e];exact MN y hy
 refine 0x23;refine ⟨_,rfl,_,rfl,small 0xA,fun r hr0=>?_⟩;exact k r (.death man) _ (bU sw (sw.free hr0)) ao Zn hms
abbrev zA:Stmt:=top 73
theorem qe (h:gA H as dat) (k:Same H H'):gA H' as dat:=⟨fun a ha=>⟨k a _ (h.1 a ha).1,(h.1 a ha).2⟩,h.2⟩
theorem Jh {bs:List Addr} (h:gA H as dat) (p:bs.Perm as):gA H bs dat:=⟨fun a ha=>h.1 a (p.mem_iff.mp ha),((p.map dat).nodup_iff).mpr h.2⟩
inductive v9 (CC CR CK C:Addr) (K:W.Frag) (vs:List V) (H:Hp) (Q:VK) (cB:XK):Prop
 | mk (p fa l m la:Addr) (fs:List Int) (ms ls:List Str) (wd:Int) (all:List Addr) (dat:Addr->List V) (fQ:Addr->Int) (iY:Addr->M.Ro) (_:vs=[.ref p,.ref fa,.ref l]) (_:Cu H p m la ms ls wd) (_:H fa=some (.lst (fs.map V.int))) (_:fs.length=160) (_:(∀ v∈fs,vA v)) (_:H l=some (.lst 0x2D)) (_:all.length<=16) (_:gA H all dat) (_:(∀ a∈all,qP dat fQ iY ls a)) (_:∀ c dc jl ll z q W qk ek kk lN ts out ws t0 b H',Same H H'->H c=none->out.Perm all->zM dat out->JL (W0 (BJ wd t0)) (out.map fun a=>(fQ a,iY a)) ws W->pY CC CR CK C H' c dc jl ll z q W ls qk ek kk lN ts out ws wd b->ek.map core=W.es.map core->Q (.ref c) H'):v9 CC CR CK C K vs H Q cB
section
variable {CR:Addr}
theorem Rg:aP A4W A4W (aH zA):=0x0
theorem KY (F:fu K "_law_court" "_law_court" zA f fd) 
  (G1:aL P w K mg base bO 7 g1 d1 A5i (uX CC CR CK C K)) (YH:Mk K CC g1) (mC:mg "Court"=some (.ref CC)) (b1:Binds K d1 A5i [])
  (G2:aL P w K mg base bO 1 g2 d2 A5k (yX K)) (M2:Ms K mg "_law_mixed" g2 d2 A5k) :
  aL P w K mg base bO 9 f fd A4W (v9 CC CR CK C K):=by
 refine F.ok Rg 0x1 0x2;obtain ⟨p,fa,l,m,la,fs,ms,ls,wd,all,dat,fQ,iY,rfl,pl,hfa,hfl,hfo,hl,Wz,RO,RW,k⟩:=h;have hr1:cH 1 _:=hr.mono 0x6;refine ⟨_,aG (aV (rK (CX:=bO) (E:=E0) YH G1 hr rfl mC b1 .nil bC (ak (aN bA (pv 0) aA 0x4) (ak (aX bW (aN bD 0x10 aA 0x4) aA) (ak (bJ G2 hr1 rfl M2.m M2.k M2.b .nil bC (ak (pv 2) (ak (aN bD 0x10 aA 0x4) aC))) aC))))),?_⟩;obtain ⟨v15,e15,o15⟩:=gJ hfo (i:=15) 0x6 0x3;obtain ⟨v16,e16,o16⟩:=gJ hfo (i:=16) 0x6 0x3;have hls:∀ n∈ls,n≠""/\PyData.strOk n=true:=fun n hn=>(pl.ol n hn).ne;refine ⟨_,rfl,p,_,_,_,rfl,rfl,bZ.of pl.r,aJ (j:=2) rfl,_,rfl,fa,_,_,_,rfl,rfl,bR.of hfa,e15,_,_,rfl,rfl,(by show (0:Int)<100;decide),_,rfl,_,rfl,fa,_,_,_,rfl,rfl,bR.of hfa,e16,l,v16,all,rfl,o16,bR.of hl,by lia,fun D out H1 s1 hD pm=>?_⟩
 intro c dc hc hdc ncd;have sc:Same H1 (upd (upd H1 dc (.own c)) c (.ins CC dc [])):=fun a u h=>by
  rw [aj (aq h hc),aj (aq h hdc)];exact h
 have sHc:=s1.trans sc;refine ⟨c,dc,D,wd,v15 % 100,out,dat,fQ,iY,ls,rfl,ao,pl.w1,pl.w2,by lia,by lia,bR.of (sc _ _ hD),?_,Jh (qe RO sHc) pm,fun a ha=>RW a (pm.mem_iff.mp ha),hls,fun jl ll z q W qk ek kk lN ts ou ws t0 H' kp pm' up J ct ce=>⟨rfl,?_⟩⟩
 ·rw [pm.length_eq];lia
 ·exact k c dc jl ll z q W qk ek kk lN ts ou ws t0 _ H' (fun a u h=>kp a u (aq h (s1.free hc)) (sHc _ _ h)) (s1.free hc) (pm'.trans pm) up J ct ce
abbrev Vc:Stmt:=top 74
theorem Jo.ok {W W':Wo}{ro:Ro}{w:Str} (h:Jo W dy ro w W'):PyData.strOk w=true:=by
 cases h <;> decide +kernel
theorem JL.ok {W0 W:Wo}{rs:List (Int×Ro)} (J:JL W0 rs ws W):∀ w∈ws,PyData.strOk w=true:=by
 induction J with
 | nil=>intro w h;cases h
 | snoc J1 D ih =>
  intro w h;rcases A0l.mp h with h | h
  ·exact ih w h
  ·rw [A0b.mp h];exact D.ok
theorem Cv:∀ {xs:List V}{ds:List PyData},xs.length=ds.length->(∀ (i:Nat) (v:V) (d:PyData),xs[i]?=some v->ds[i]?=some d->cM H v d)->dg H xs ds
 | [],[],_,_=>.nil
 | [],_::_,e,_=>by cases e
 | _::_,[],e,_=>by cases e
 | x::xs,d::ds,e,h=>.cons (h 0 x d rfl rfl) (Cv (by simpa using e) fun i v d' h1 h2=>h (i+1) v d' (by simpa using h1) (by simpa using h2))
theorem zB:∀ {ds:List PyData},(∀ d∈ds,d.canLay0=true)->PyData.canLayAll0 ds=true
 | [],_=>rfl
 | d::ds,h=>by rw [PyData.canLayAll0,h d A0o,zB fun z hz=>h z (jT _ hz)];rfl
theorem sU:∀ {ds:List PyData},(∀ d∈ds,d.depth<=n)->PyData.depthAll ds<=n
 | [],_=>A1f _
 | d::ds,h=>by
  rw [PyData.depthAll];have a:=h d A0o;have b:=sU fun z hz=>h z (jT d hz);lia
def nF (H:Hp) (dat:Addr->List V) (r:Addr):Prop:=H r=some (.tup (dat r))/\(dat r).all gR=true/\(dat r).length<=1000
theorem Vd {r:Addr} (h:nF H dat r):Wg H 2 (.ref r) (.ref r):=by
 refine .inr (.inl ⟨r,r,_,_,rfl,rfl,h.1,h.1,rfl,h.2.2,fun i x y e1 e2=>?_⟩);rw [e1] at e2;cases e2;have:=A1u.mp h.2.1 x (vm e1);cases x with
 | int _=>exact .inl ⟨rfl,rfl⟩
 | str _=>exact .inl ⟨rfl,rfl⟩
 | _=>cases this
theorem fK.get (a:fK H jl ts pr ws)  (h:ts[i]?=some t):∃ r w,pr[i]?=some r/\ws[i]?=some w/\H t=some (.tup [.ref r,.str w]):=by
 have hi:=(A0j.mp h).1;have h1:pr[i]?=some pr[i]!:=by rw [a.lt] at hi;rw [A3u,jR hi];rfl
 have h2:ws[i]?=some ws[i]!:=by rw [a.lt,<- a.lw] at hi;rw [A3u,jR hi];rfl
 exact ⟨_,_,h1,h2,a.at' i t _ _ h h1 h2⟩
theorem Zo {wl:Addr}{ts':List Addr} (a:fK H D ts pr ws) (b:fK H wl ts' pr ws) (hf:∀ r∈pr,nF H dat r) (hl:pr.length<=1000):Wg H 4 (.ref D) (.ref wl):=by
 refine .inr (.inr ⟨D,wl,_,_,rfl,rfl,a.l,b.l,by rw [cg,cg,a.lt,b.lt],by rw [cg,a.lt];exact hl,fun i x y e1 e2=>?_⟩);rw [jQ] at e1 e2;obtain ⟨t,h1,rfl⟩:=A0t.mp e1;obtain ⟨t',h2,rfl⟩:=A0t.mp e2;obtain ⟨r,w,p1,p2,p3⟩:=a.get h1;have p4:=b.at' i t' r w h2 p1 p2;refine .inr (.inl ⟨t,t',_,_,rfl,rfl,p3,p4,rfl,by simp,fun j x y e1 e2=>?_⟩);rw [e1] at e2;cases e2
 match j,e1 with
 | 0,e1=>simp at e1;subst e1;exact Vd (hf r (vm p1))
 | 1,e1=>simp at e1;subst e1;exact .inl ⟨rfl,rfl⟩
 | (j+2),e1=>simp at e1
def pairD (dat:Addr->List V) (x:Addr×Str):PyData:=.tuple [.tuple ((dat x.1).map fU),.str x.2]
theorem Cw (a:fK H D ts pr ws) (hf:∀ r∈pr,nF H dat r):cM H (.ref D) (.list ((pr.zip ws).map (pairD dat))):=by
 refine .lst a.l (Cv (by rw [cg,cg,List.length_zip,a.lt,a.lw,Nat.min_self]) fun i v d e1 e2=>?_);rw [jQ] at e1 e2;obtain ⟨t,h1,rfl⟩:=A0t.mp e1;obtain ⟨x,h2,rfl⟩:=A0t.mp e2;obtain ⟨r,w,p1,p2,p3⟩:=a.get h1;have:x=(r,w):=by
  rw [List.getElem?_zip_eq_some] at h2;rw [p1,p2] at h2;obtain ⟨x1,x2⟩:=x;rw [A0V h2.1,A0V h2.2]
 subst this;have f:=hf r (vm p1);exact .tup p3 (.cons (.tup f.1 (jg _ f.2.1)) (.cons (.str w) .nil))
theorem Ve (hf:∀ r∈pr,(dat r).all gR=true) (hw:∀ w∈ws,PyData.strOk w=true):(PyData.list ((pr.zip ws).map (pairD dat))).canLay0=true/\(PyData.list ((pr.zip ws).map (pairD dat))).depth<=8:=by
 have mem:∀ d∈(pr.zip ws).map (pairD dat),d.canLay0=true/\d.depth<=3:=fun d hd=>by
  obtain ⟨x,hx,rfl⟩:=A0e.mp hd;obtain ⟨x1,x2⟩:=x;have h1:=iH _ (hf x1 (A3d hx).1);have h2:=hw x2 (A3d hx).2
  constructor
  ·show (PyData.canLayAll0 ((dat x1).map fU)&&(PyData.strOk x2&&true))=true
   rw [h1,h2];rfl
  ·have:=kY (dat x1)
   show PyData.depthAll [PyData.tuple ((dat x1).map fU),PyData.str x2]+1<=3
   have:PyData.depthAll [PyData.tuple ((dat x1).map fU),PyData.str x2]<=2:=sU fun d hd=>by
    rcases A0d.mp hd with e | e
    ·rw [e];show PyData.depthAll _+1<=2;lia
    ·rw [A0b.mp e];exact A1d rfl
   lia
 refine ⟨zB fun d hd=>(mem d hd).1,?_⟩;have:=sU fun d hd=>(mem d hd).2
 show PyData.depthAll _+1<=8
 lia
theorem Rh {o o':List Addr} (hr:∀ a∈o,fZ (dat a)) (h:zM dat o) (h':zM dat o') (p:o.Perm o'):o=o':=by
 refine List.Perm.eq_of_pairwise (le:=fun a b=>eN (dat a) (dat b)=true) (fun a b ha hb h1 h2=>?_) h h' p;have:=Ca (hr a ha) (hr b (p.mem_iff.mpr hb)) h1;rw [this] at h2;cases h2
theorem lQ {ro:Ro} (tx:ro.Tx):(Ro.vs dy ro).all gR=true/\(Ro.vs dy ro).length<=1000:=by
 cases ro with
 | grant e n m a s=>exact ⟨by simp [Ro.vs,gR];exact ⟨by decide +kernel,tx.1,tx.2.1,tx.2.2⟩,by simp [Ro.vs]⟩
 | heir m h=>exact ⟨by simp [Ro.vs,gR];exact ⟨by decide +kernel,tx.1,tx.2⟩,by simp [Ro.vs]⟩
 | liege m h=>exact ⟨by simp [Ro.vs,gR];exact ⟨by decide +kernel,tx.1,tx.2⟩,by simp [Ro.vs]⟩
 | death m=>exact ⟨by simp [Ro.vs,gR];exact ⟨by decide +kernel,tx⟩,by simp [Ro.vs]⟩
theorem Cy {iY:Addr->Ro} (h:H a=some (.tup (dat a))) (r:qP dat fQ iY ls a):nF H dat a :=
 ⟨h,by rw [r.e];exact (lQ r.tx).1,by rw [r.e];exact (lQ r.tx).2⟩
theorem qg {iY:Addr->Ro}{all out out':List Addr}{ws':List Str}{W W':Wo}{t0 b0:Addr} (hr:∀ a∈all,fZ (dat a)) (RW:∀ a∈all,qP dat fQ iY ls a) (hls:∀ n∈ls,n≠""/\PyData.strOk n=true) (w1:1<=wd) (w2:wd<=9999)
  (p:out.Perm all) (p':out'.Perm all) (u:zM dat out) (u':zM dat out') (J:JL (W0 (BJ wd t0)) (out.map fun a=>(fQ a,iY a)) ws W) (J':JL (W0 (vG wd b b0)) (out'.map fun a=>(fQ a,iY a)) ws' W'):out'=out/\ws'=ws/\Za W W':=by
 have eo:out=out':=Rh (fun a ha=>hr a (p.mem_iff.mp ha)) u u' (p.trans p'.symm);subst eo;have h0:Za (W0 (BJ wd t0)) (W0 (vG wd b b0)):=⟨.cons ⟨rfl,rfl,rfl,rfl,rfl,rfl⟩ .nil,rfl,rfl,rfl,rfl⟩;have:=JL.det hls h0 (pZ (R0 wd b b0 ls w1 w2) rfl rfl rfl) J (fun r hr=>by
  obtain ⟨a,ha,rfl⟩:=A0e.mp hr;exact ⟨(RW a (p.mem_iff.mp ha)).ok,(RW a (p.mem_iff.mp ha)).tx⟩) J'
 exact ⟨rfl,this.1.symm,this.2⟩
inductive Ri (CC:Addr) (vs:List V) (H:Hp) (Q:VK) (cB:XK):Prop
 | mk (c dc jl ll z p m la l:Addr) (W:M.Wo) (ms ls:List Str) (wd n b:Int) (ts all out:List Addr) (ws:List Str) (t0:Addr) (dat:Addr->List V) (fQ:Addr->Int) (iY:Addr->M.Ro) (_:vs=[.ref c,.ref p,.ref l]) (_:Cu H p m la ms ls wd) (_:H l=some (.lst 0x2D)) (_:all.length<=16) (_:gA H all dat) (_:(∀ a∈all,qP dat fQ iY ls a)) (_:H c=some (.ins CC dc (Cj n b z jl ll))) (_:fK H jl ts out ws) (_:out.Perm all) (_:zM dat out) (_:JL (W0 (BJ wd t0)) (out.map fun a=>(fQ a,iY a)) ws W) (_:∀ H',Same H H'->Q (.bl true) H'):Ri CC vs H Q cB
theorem Rj:aP A5j A5b (aH Vc):=0x0
def a1a:Scope:={ kind:=.function,names:=[(".0",.local),("_law_row_here",.local),("_law_word_here",.local),("_law_same",.globalImplicit),("_law_court_here",.free)],isGenerator:=false,isCoroutine:=false }
theorem a1b:gO A5j (aH Vc) a1a ["_law_row_here", "_law_word_here"] ["_law_court_here"] [0]:=0xB
theorem WD:((["_law_row_here", "_law_word_here"]:List Str)++(["_law_court_here"]:List Str)).Nodup:=by decide +kernel
theorem Zq (TC:lM K CC) (F:fu K "_law_judged_right" "_law_judged_right" Vc f fd) (m:MgS mg) 
  (G1:aL P w K mg base bO 5 g1 d1 A5f (qb K)) (M1:Ms K mg "_law_books" g1 d1 A5f)
  (G2:aL P w K mg base bO 1 g2 d2 ["self"] (za CC K)) (m2:Meth K CC "verdicts" g2) (b2:Binds K d2 ["self"] [])
  (G3:aL P w K mg base bO 4 g3 d3 A4V (qF 4)) (M3:Ms K mg "_law_same" g3 d3 A4V)
  (G4:aL P w K mg base bO 2 g4 d4 ["self", "row"] (FN CC)) (m4:Meth K CC "verdict" g4) (b4:Binds K d4 ["self", "row"] []) :
  aL P w K mg base bO 6 f fd A5b (Ri CC):=by
 refine F.ok Rj 0x1 0x2;obtain ⟨c,dc,jl,ll,z,p,mm,la,l,W,ms,ls,wd,n,b,ts,all,out,ws,t0,dat,fQ,iY,rfl,pl,hl,Wz,RO,RW,hc,JA,pm,up,J,k⟩:=h;have G2:=aL.mono (k:=5) G2 0x3;have G3:=aL.mono (k:=5) G3 0x3;have G4:=aL.mono (k:=5) G4 0x3;refine ⟨_,au (aY (i:=3) Rj.nd rfl 0x8 (aN bA (bJ G1 hr rfl M1.m M1.k M1.b .nil bC (ak 0x19 (ak (pv 2) aC))) aA 0x4))
  (au (aY (i:=4) Rj.nd rfl 0x8 (mH (CX:=bO) (E:=E0) (pv 0) TC.cl m2 G2 hr b2 .nil bC))
  (au (bK (iT (dZ (bJ G3 hr rfl M3.m M3.k M3.b .nil bC (ak (pv 4) (ak (pv 3) aC))))) dM aR)
  (au (bV (Xr A0H PySem.F.slot_list_clear PySem.F.type_list_clear Mv (pv 4)))
  (au (bK (aQ (Ng (u64 hr)) (mH (CX:=bO) (E:=E0) (pv 0) TC.cl m2 G2 hr b2 .nil bC) (pv 3) (bB _)) dM aR)
  (aG (aV (bG (qC (K:=K) rfl hr.hd) rfl m.all Dz (ak (j9 rfl a1b (cX (pv 3)) (fun s H fp C'=>⟨pC (K:=K) (n:=2) rfl (bT (bf (i:=0) WD rfl 0x8) (bT (bf (i:=1) WD rfl 0x8) gC)),rM,bJ G3 hr rfl M3.m M3.k M3.b .nil bC (ak (cj (pv 2) TC.cl m4 G4 hr b4 .nil bC (ak (pv 0) aC)) 0x26)⟩)) aC)))))))),?_⟩
 have hls:∀ n∈ls,n≠""/\PyData.strOk n=true:=fun n hn=>(pl.ol n hn).ne;have fl:∀ {H'},Same H H'->∀ r∈out,nF H' dat r:=fun s r hr=>Cy (s _ _ (RO.1 r (pm.mem_iff.mp hr)).1) (RW r (pm.mem_iff.mp hr));have ol:out.length<=16:=by rw [pm.length_eq];exact Wz
 refine ⟨_,rfl,p,_,_,_,rfl,rfl,bZ.of pl.r,aJ (j:=2) rfl,_,rfl,l,wd,all,dat,fQ,iY,ls,rfl,pl.w1,pl.w2,bR.of hl,by lia,RO,RW,hls,fun T wl q' W' ts' out' ws' b0 H1 s1 hT V4 _ ap' Bk' Bx' Pu' fr' JB pm' up' J'=>?_⟩;obtain ⟨rfl,rfl,ab⟩:=qg (fun a ha=>(RO.1 a ha).2) RW hls pl.w1 pl.w2 pm pm' up up' J J';refine ⟨T,_,_,_,rfl,rfl,bZ.of hT,aJ (j:=1) rfl,?_⟩;have JA1:fK H1 jl ts out' ws':=JA.keep (by rw [s1 _ _ JA.l,JA.l]) fun c xs h=>s1 _ _ h;refine ⟨_,rfl,c,dc,_,rfl,s1 _ _ hc,rfl,c,dc,z,jl,ll,_,n,b,rfl,s1 _ _ hc,JA1.l,by rw [cg,JA1.lt];lia,fun D hD=>?_⟩
 apply 0o1 H1 D hD sD hDD H2
 have pP:=s1.free hD;have s2:=s1.trans sD;have JD2:fK H2 D ts out' ws':=⟨hDD,JA.lt,JA.lw,fun i t r w e1 e2 e3=>s2 _ _ (JA.at' i t r w e1 e2 e3)⟩;have JB2:fK H2 wl ts' out' ws':=JB.keep (by rw [sD _ _ JB.l,JB.l]) fun c xs h=>sD _ _ h;refine ⟨_,rfl,_,rfl,_,_,rfl,Zo JD2 JB2 (fl s2) 0x3,fun H3 s3=>⟨_,rfl,cA ?_⟩⟩;have hD3:=s3 _ _ hDD;refine ⟨_,rfl,.inl ⟨rfl,_,bR.of hD3⟩,D,_,rfl,rfl,hD3,?_⟩;have nwD:wl≠D:=fun e=>by rw [<- e,JB.l] at hD;cases hD
 have s4:Same H (upd H3 D (.lst [])):=fun a u h=>by
  rw [aj (aq h pP)];exact s3 _ _ (s2 _ _ h)
 have JB4:fK (upd H3 D (.lst [])) wl ts' out' ws':=JB2.keep (by rw [aj nwD,s3 _ _ JB2.l,JB2.l]) fun c xs h=>by
  rw [aj (aM h hDD 0x5)];exact s3 _ _ h
 generalize upd H3 D (.lst [])=H4 at s4 JB4 ⊢;have JA4:fK H4 jl ts out' ws':=JA.keep (by rw [s4 _ _ JA.l,JA.l]) fun c xs h=>s4 _ _ h;refine ⟨_,rfl,c,dc,_,rfl,s4 _ _ hc,rfl,c,dc,z,jl,ll,_,n,b,rfl,s4 _ _ hc,JA4.l,by rw [cg,JA4.lt];lia,fun D5 hD5=>?_⟩
 apply 0o1 H4 D5 hD5 sD5 hDD5 H5
 have s5:=s4.trans sD5;have JD5:fK H5 D5 ts out' ws':=⟨hDD5,JA.lt,JA.lw,fun i t r w e1 e2 e3=>s5 _ _ (JA.at' i t r w e1 e2 e3)⟩;have JB5:fK H5 wl ts' out' ws':=JB4.keep (by rw [sD5 _ _ JB4.l,JB4.l]) fun c xs h=>sD5 _ _ h;have JA5:fK H5 jl ts out' ws':=JA.keep (by rw [s5 _ _ JA.l,JA.l]) fun c xs h=>s5 _ _ h;obtain ⟨ly,dp⟩:=Ve (fun r hr=>(fl s5 r hr).2.1) J.ok;refine ⟨_,rfl,_,_,Cw JD5 (fl s5),Cw JB5 (fl s5),ly,ly,dp,?_⟩;rw [PySem.SeqAt.eqv_refl _ ly];refine ⟨_,rfl,cA ?_⟩;refine ⟨_,rfl,wl,rfl,⟨_,bR.of JB5.l⟩,fun D6 hD6=>qz (K:=K) (xs:=ts'.map V.ref) (fun i ys Hx=>ys=(List.replicate i true).map V.bl/\Same H5 Hx/\Hx D6=some (.lst ys)) (fun i ys Hx h=>h.2.1.seq (bR.of JB5.l)) ⟨rfl,aO hD6 _,ao⟩ (fun i ys Hx h=>h.2.2) ?_ ?_⟩
 ·rintro i ys Hx v hv ⟨rfl,sx,sG⟩;rw [jQ] at hv;obtain ⟨t,ht,rfl⟩:=A0t.mp hv;have hi:=(A0j.mp ht).1;obtain ⟨r,w0,p1,p2,p3⟩:=JB5.get ht;have s6:=s5.trans sx;refine ⟨t,_,rfl,bZ.of (sx _ _ p3),rfl,_,_,rfl,_,_,rfl,rfl,Kp.set rfl (Kp.set rfl (Kp.refl _)),pq ?_⟩;refine ⟨_,rfl,c,dc,_,rfl,s6 _ _ hc,rfl,_,rfl,c,dc,z,jl,ll,n,b,ts,out',ws',dat,i,r,w0,rfl,s6 _ _ hc,JA.keep (by rw [s6 _ _ JA.l,JA.l]) (fun c xs h=>s6 _ _ h),fun a ha=>⟨(fl s6 a ha).1,(fl s6 a ha).2.1⟩,(Jh RO pm).2,p1,p2,?_⟩;refine ⟨_,rfl,_,_,rfl,.inl ⟨rfl,rfl⟩,fun H7 s7=>⟨s7 _ _ sG,?_,?_,bU (sx.trans s7) hD6,ao⟩⟩
  ·rw [cg,A1N];rw [JB5.lt] at hi;exact bQ 0x3
  ·rw [A3x,iZ];rfl
 ·rintro ys Hx ⟨rfl,sx,sG⟩;refine ⟨D6,_,rfl,bR.of sG,?_⟩;rw [all_true fun b hb=>A3b hb];exact k _ (s5.trans sx)
end
abbrev Gh:Stmt:=top 71
theorem sV {l:List Ft} (h:xs.map isI=l.map Ft.num):J7 l xs:=fun i s v h1 h2=>by
 have a:(xs.map isI)[i]?=some (isI v):=by rw [jQ,h2];rfl
 have b:(l.map Ft.num)[i]?=some s.num:=by rw [jQ,h1];rfl
 rw [h,b] at a;exact (A0V a).symm
theorem Rk {ro:Ro} (tx:ro.Tx):fZ (Ro.vs dy ro):=by
 cases ro with
 | grant e n m a s=>exact ⟨"grant",dy,_,[.d,.c,.n,.n,.a,.s],rfl,by decide +kernel,rfl,sV rfl,(lQ (ro:=.grant e n m a s) tx).1⟩
 | heir m h=>exact ⟨"heir",dy,_,[.d,.n,.n],rfl,by decide +kernel,rfl,sV rfl,(lQ (ro:=.heir m h) tx).1⟩
 | liege m h=>exact ⟨"liege",dy,_,[.d,.n,.c],rfl,by decide +kernel,rfl,sV rfl,(lQ (ro:=.liege m h) tx).1⟩
 | death m=>exact ⟨"death",dy,_,[.d,.n],rfl,by decide +kernel,rfl,sV rfl,(lQ (ro:=.death m) tx).1⟩
theorem Ji {ro:Ro} (tx:ro.Tx):(Ro.vs dy ro).all gR=true:=(lQ tx).1
theorem wW {rs:List (List V)} (h:iI H as rs) (s:Same H H'):iI H' as rs:=by
 induction h with
 | nil=>exact .nil
 | cons a _ ih=>exact .cons (s _ _ a) ih
theorem Cz {r:List V}:∀ {as:List Addr}{rows:List (List V)},iI H as rows->H a=some (.tup r)->iI H (as++[a]) (rows++[r])
 | _,_,.nil,h=>.cons h .nil
 | _,_,.cons h t,h'=>.cons h (Cz t h')
def Rn (ls:List Str) (r:List V):Prop:=∃ (dy:Int) (cO:Ro),r=Ro.vs dy cO/\cO.Ok ls/\cO.Tx/\0<=dy/\dy<=9999
def rowAt (H:Hp) (a:Addr):List V:=match H a with
 | some (.tup r)=>r
 | _=>[]
theorem wX:∀ {all:List Addr}{rs:List (List V)},iI H all rs->all.map (rowAt H)=rs
 | _,_,.nil=>rfl
 | _,_,.cons h t=>by
  rw [A0m,wX t];unfold rowAt;rw [h]
theorem Gi {all:List Addr}{rs:List (List V)} (h:iI H all rs) (hr:∀ r∈rs,Rn ls r) (nd:rs.Nodup):gA H all (rowAt H)/\∃ (fQ:Addr->Int) (iY:Addr->Ro),∀ a∈all,qP (rowAt H) fQ iY ls a:=by
 have at':∀ a∈all,H a=some (.tup (rowAt H a))/\Rn ls (rowAt H a):=fun a ha=>by
  obtain ⟨q,hq,e⟩:=uL h a ha;have:rowAt H a=q:=by unfold rowAt;rw [e]
  rw [this];exact ⟨e,hr q hq⟩
 refine ⟨⟨fun a ha=>⟨(at' a ha).1,?_⟩,by rw [wX h];exact nd⟩,?_⟩
 ·obtain ⟨dy,cO,e,_,tx,_⟩:=(at' a ha).2;rw [e];exact Rk tx
 ·have ex:∀ a,∃ x:Int×Ro,a∈all->rowAt H a=Ro.vs x.1 x.2/\x.2.Ok ls/\x.2.Tx/\0<=x.1/\x.1<=9999:=fun a=>by
   by_cases c:a∈all
   ·obtain ⟨dy,cO,q⟩:=(at' a c).2;exact ⟨(dy,cO),fun _=>q⟩
   ·exact ⟨(0,.death ""),fun z=>absurd z c⟩
  refine ⟨fun a=>(Classical.choose (ex a)).1,fun a=>(Classical.choose (ex a)).2,fun a ha=>?_⟩;obtain ⟨q1,q2,q3,q4,q5⟩:=Classical.choose_spec (ex a) ha;exact ⟨q1,q2,q3,q4,q5⟩
theorem cut1 (v:V) (rest:List V):ig (v::rest) (some 1) none=rest:=by
 unfold ig;have e1:HT.eO (v::rest).length 0 (some 1)=1:=by
  rw [show (1:Int)=((1:Nat):Int) by rfl,HT.jD]
  simp
 have e2:HT.eO (v::rest).length (v::rest).length none=(v::rest).length:=rfl;rw [e1,e2,List.drop_one,List.tail_cons,A2K 0xA]
inductive zE (K:W.Frag) (vs:List V) (H:Hp) (Q:VK) (cB:XK):Prop
 | mk (fa p m la wy:Addr) (fs ways:List Int) (many:Int) (ms ls:List Str) (wd:Int) (_:vs=[.ref fa,.int 20,.int many,.ref p,.ref wy]) (_:H fa=some (.lst (fs.map V.int))) (_:fs.length=160) (_:(∀ v∈fs,vA v)) (_:0<=many) (_:many<=16) (_:Cu H p m la ms ls wd) (_:H wy=some (.lst (ways.map V.int))) (_:0<ways.length) (_:ways.length<=20) (_:(∀ v∈ways,vA v/\(v % 13<4\/v % 13=8\/v % 13=10))) (_:∀ R all rs H',Same H H'->H' R=some (.lst 0x2D)->H R=none->all.length<=16->iI H' all rs->(∀ r∈rs,Rn ls r)->rs.Nodup->Q (.ref R) H'):zE K vs H Q cB
theorem jw:aP ["_law_feed_here", "_law_at", "_law_many", "_law_pools_here", "_law_ways", "_law_book_here", "_law_rows_here", "_law_day", "_law_k", "_law_d", "_law_row_here"] A4T (aH Gh):=0x0
theorem Rp (F:fu K "_law_rows" "_law_rows" Gh f fd) (mr:mg "range"=none) (mn:mg "len"=none) (Rf:mg "min"=none)  (G1:aL P w K mg base bO 1 g1 d1 ["_law_acres"] yD) (M1:Ms K mg "_law_book" g1 d1 ["_law_acres"])
  (G2:aL P w K mg base bO 4 g2 d2 A4Z (Rb K)) (M2:Ms K mg "_law_row" g2 d2 A4Z)
  (G3:aL P w K mg base bO 4 g3 d3 A4P sS) (M3:Ms K mg "_law_word" g3 d3 A4P):aL P w K mg base bO 5 f fd A4T (zE K):=by
 refine F.ok jw 0x1 0x2;obtain ⟨fa,p,m,la,wy,fs,ways,many,ms,ls,wd,rfl,hfa,hfl,hfo,m0,m1,pl,hwy,wp,wl,hwo,k⟩:=h;have hr1:cH 1 _:=hr.mono 0x6;refine ⟨_,au (aY (i:=5) jw.nd rfl 0x8 (bJ G1 hr1 rfl M1.m M1.k M1.b .nil bC (ak (aN bA (pv 3) aA 0x4) aC)))
  (au (aY (i:=6) jw.nd rfl 0x8 (cU aC))
  (au (aY (i:=7) jw.nd rfl 0x8 (aX bW 0x2F aA))
  (au (bK (aQ cV (aX bW (aX jo 0x2F aA) aA) aA (bB _)) (aG (aY (i:=7) jw.nd rfl 0x8 (aX cY aA (aX bW 0x2F aA)))) aR)
  (au (fM A0N rfl (jV rfl mr (ak (pv 2) aC)) (bf (i:=8) jw.nd rfl 0x8)
   (au (aY (i:=9) jw.nd rfl 0x8 (eV jF (pv 0) (cD (aX cY 0x10 (aX jM aA (pv 8)))) (cD (aX cY (aX cY 0x10 (aX jM aA (pv 8))) aA))))
   (au (aY (i:=10) jw.nd rfl 0x8 (bJ G2 hr rfl M2.m M2.k M2.b .nil bC (ak (pv 5) (ak (pv 3) (ak (aX mO (cU (ak (aN bD (pv 4) (aX bW (aN bD (pv 9) aA 0x4) (bG cI rfl mn A1m (ak (pv 4) aC))) 0x4) aC)) (eV jF (pv 9) (cD aA) fV)) (ak (pv 7) aC))))))
   (au (bK (aQ (Kv (u64 hr)) (pv 10) (pv 6) 0xE)
    (au (bV (iR A0H A0O A0P cT (pv 6) (ak (pv 10) aC)))
    (aG (bV (bJ G3 hr rfl M3.m M3.k M3.b .nil bC (ak (pv 5) (ak (pv 10) aC)))))) aR)
   (aG (aY (i:=7) jw.nd rfl 0x8 (bG (qx rfl) rfl Rf Gg (ak aA (ak (aX cY (pv 7) (aN bD (cU (ak aA (ak aA (ak aA (ak aA (ak aA aC)))))) (aX bW (aX jo (aN bD (pv 9) aA 0x4) aA) aA) 0x4)) aC)))))))))
  (aG (aV (pv 6))))))),?_⟩
 refine ⟨_,rfl,p,_,_,_,rfl,rfl,bZ.of pl.r,aJ (j:=2) rfl,wd,rfl,fun B bl bh bo bd FW FZ Ga Gb b0 kvs H1 s1 hfree ndl BL BXL Ef=>⟨small 0xA,fun R hR=>?_⟩⟩;obtain ⟨q,hq,apq⟩:∃ q:Ad,(q.B=B/\q.l=bl/\q.h=bh/\q.o=bo/\q.d=bd/\q.kn=FW/\q.dd=FZ/\q.he=Ga/\q.lg=Gb/\q.kvs=kvs)/\Ap q :=
  ⟨⟨0,0,[B,bl,bh,bo,bd,FW,FZ,Ga,Gb].sum+1,[B,bl,bh,bo,bd,FW,FZ,Ga,Gb].sum+2,[B,bl,bh,bo,bd,FW,FZ,Ga,Gb].sum+3,[B,bl,bh,bo,bd,FW,FZ,Ga,Gb].sum+4,[B,bl,bh,bo,bd,FW,FZ,Ga,Gb].sum+5,B,bl,bh,bo,bd,FW,FZ,Ga,Gb,kvs,wd⟩,⟨rfl,rfl,rfl,rfl,rfl,rfl,rfl,rfl,rfl,rfl⟩,five ndl⟩
 obtain ⟨rfl,rfl,rfl,rfl,rfl,rfl,rfl,rfl,rfl,rfl⟩:=hq;have B1:Bk q H1 [vG wd 0 b0] []:=BL;have X1:Bx q H1 (W0 (vG wd 0 b0)):=BXL;have RO':R∉iJ q:=q9 B1 X1 hR;have RB:R≠q.B:=fun z=>by rw [z,B1.b] at hR;cases hR
 have RG:R≠q.lg:=fun z=>by rw [z,X1.g] at hR;cases hR
 have Zi:∀ {c:Addr}{u:HO},H c=some u->c∉iJ q:=fun {c u} hc z=>by
  have:H c=none:=hfree c (by simp only [iJ,A0d,A0w,A1k] at z ⊢;rcases z with e | e | e | e | e | e | e | e <;> simp [e]);rw [this] at hc;cases hc
 have hR0:H R=none:=s1.free hR
 apply 0o1 H1 R hR sR R2 H2
 have s2:=s1.trans sR;have B2:Bk q H2 [vG wd 0 b0] []:=B1.same sR;have X2:Bx q H2 (W0 (vG wd 0 b0)):=X1.same sR;have fr2:∀ e∈[vG wd 0 b0],jB H2 e.tb e.due.1 e.due.2:=fun e he=>by rw [A0b.mp he];exact sR _ _ Ef
 have hls:∀ n∈ls,n≠""/\PyData.strOk n=true:=fun n hn=>(pl.ol n hn).ne;obtain ⟨v14,ZK,o14⟩:=gJ hfo (i:=14) 0x6 0x3;obtain ⟨o14a,o14b⟩:=o14;have fa2:=s2 _ _ hfa;refine ⟨_,rfl,fa,_,_,_,rfl,rfl,bR.of fa2,ZK,_,_,rfl,rfl,(by show (0:Int)<40;decide),?_⟩
 dsimp only [oR];refine grab (a:=Dh _ _ _) (fun σ' Hx=>∃ day:Int,σ'=[some (.ref fa),some (.int 20),some (.int many),some (.ref p),some (.ref wy),some (.ref q.B),some (.ref R),some (.int day),none,none,none]/\Hx=H2/\0<=day/\day<=9999) (fun σ' Hx hp=>?_) (fun go=>?_)
 rotate_left
 ·refine ⟨_,rfl,fa,_,_,_,rfl,rfl,bR.of fa2,ZK,_,_,rfl,rfl,⟨by decide,by decide⟩,_,_,rfl,rfl,(by show (0:Int)<8;decide),rfl,_,rfl,eq_int (fun _=>?_) (fun _=>?_)⟩
  ·exact ⟨_,rfl,fa,_,_,_,rfl,rfl,bR.of fa2,ZK,_,_,rfl,rfl,(by show (0:Int)<15;decide),_,_,rfl,rfl,go _ _ ⟨_,rfl,rfl,by lia,by lia⟩⟩
  ·exact go _ _ ⟨_,rfl,rfl,by lia,by lia⟩
 obtain ⟨day0,rfl,rfl,dd0,dd1⟩:=hp;refine ⟨_,rfl,many,rfl,by lia,by lia,?_⟩;refine jW (lo:=0) (n:=many.toNat) (fun i σ Hx=>∃ (W:Wo) (all:List Addr) (rs:List (List V)) (day:Int) (u8 u9 u10:Option V),σ=[some (.ref fa),some (.int 20),some (.int many),some (.ref p),some (.ref wy),some (.ref q.B),some (.ref R),some (.int day),u8,u9,u10]/\Same H Hx/\Bk q Hx W.es W.ks/\Bx q Hx W/\Wp W ls i wd/\(∀ e∈W.es,jB Hx e.tb e.due.1 e.due.2)/\Hx R=some (.lst 0x2D)/\all.length<=i/\iI Hx all rs/\(∀ r∈rs,Rn ls r)/\rs.Nodup/\0<=day/\day<=9999)
  ⟨W0 (vG wd 0 b0),[],[],day0,none,none,none,rfl,s2,B2,X2,pZ (R0 wd 0 b0 ls pl.w1 pl.w2) rfl rfl rfl,fr2,R2,A0h _,.nil,(fun r hr=>nomatch hr),.nil,dd0,dd1⟩ ?_ ?_
 ·rintro i σ Hx hi ⟨W,all,rs,day,u8,u9,u10,rfl,sx,BX,XX,PX,fX,RX,al,RA,IR,nd,a1c,a1d⟩;have hi16:i<16:=by lia
  have fax:=sx _ _ hfa;have wyx:=sx _ _ hwy;refine ⟨_,rfl,_,rfl,_,rfl,_,_,rfl,rfl,.inl ⟨by decide,by decide⟩,_,_,rfl,rfl,_,rfl,_,rfl,_,rfl,_,_,rfl,rfl,.inl ⟨by decide,by decide⟩,_,_,rfl,rfl,_,_,rfl,rfl,_,rfl,fa,_,rfl,bR.of fax,fun D hD=>?_⟩;have ec:ig (fs.map V.int) (some (20+8 * (0+(i:Int)))) (some (20+8 * (0+(i:Int))+8))=((fs.drop (20+8 * i)).take 8).map V.int:=by
   have x1:20+8 * (0+(i:Int))=((20+8 * i:Nat):Int):=by lia
   have x2:20+8 * (0+(i:Int))+8=((20+8 * i+8:Nat):Int):=by lia
   rw [x2,x1,v7 0x3 0x3]
   congr 2
   lia
  rw [ec];have hdo:∀ v∈(fs.drop (20+8 * i)).take 8,vA v:=Gf hfo;have dl:((fs.drop (20+8 * i)).take 8).length=8:=by rw [A0G,A1t];lia
  generalize (fs.drop (20+8 * i)).take 8=ds at hdo dl ⊢
  apply 0o1 Hx D hD sD kD HD
  have RD:HD R=some (.lst 0x2D):=sD _ _ RX;have sxD:=sx.trans sD;obtain ⟨d0,e0,o0⟩:=gJ hdo (i:=0) 0x6 0x3;obtain ⟨d6,e6,o6⟩:=gJ hdo (i:=6) 0x6 0x3;obtain ⟨dh,dt,rfl⟩:∃ a r,ds=a::r:=by
   cases ds with
   | nil=>simp at dl
   | cons a r=>exact ⟨a,r,rfl⟩
  have wpos:(0:Int)<((ways.map V.int).length:Int):=by rw [cg];lia
  obtain ⟨wv0,hwv,hwm⟩:=jK (xs:=ways.map V.int) (i:=d0 % ((ways.map V.int).length:Int)) (A0Q _ (A4w wpos)) (A0L _ wpos);obtain ⟨wv,hwv2,rfl⟩:=A0e.mp hwm;have hwo':=hwo wv hwv2;refine ⟨_,rfl,_,rfl,_,rfl,_,rfl,D,_,_,_,rfl,rfl,bR.of kD,e0,_,rfl,wy,_,rfl,.inl (bR.of (sD _ _ wyx)),_,_,rfl,rfl,wpos,wy,_,_,_,rfl,rfl,bR.of (sD _ _ wyx),hwv,small 0xA,fun L1 hL1=>?_⟩
  apply 0o1 HD L1 hL1 sL1 k1 HL1
  refine ⟨_,rfl,_,rfl,D,_,rfl,bR.of (sL1 _ _ kD),fun L2 hL2=>?_⟩;rw [A0m,cut1]
  apply 0o1 HL1 L2 hL2 sL2 k2 HL2
  have dtl:dt.length=7:=by simpa using dl
  refine ⟨L1,L2,_,_,rfl,rfl,sL2 _ _ k1,k2,(by rw [cg,A0r];exact small 0x3),fun L3 hL3=>?_⟩;have e3:[V.int wv]++dt.map V.int=(wv::dt).map V.int:=rfl;rw [e3]
  apply 0o1 HL2 L3 hL3 sL3 k3 HL3
  have sxL:=sL1.trans (sL2.trans sL3);have sx3:=sxD.trans sxL;have ln:=PX.E.P.ln;refine ⟨_,rfl,q,W.es,W.ks,p,L3,m,la,ms,ls,wd,day,wv::dt,rfl,apq,fJ.same BX (sD.trans sxL),PX.E.P.W,PX.E.M,by lia,pl.same sx3,bR.of k3,by rw [vI,dtl],fun v hv=>?_,fun x hx=>?_,fun r cO HR sr hr' hok htx=>?_⟩
  ·rcases A0d.mp hv with z | z
   ·rw [z];exact hwo'.1
   ·exact hdo v (jT _ z)
  ·have:vq ((wv::dt).map V.int) 0=some (V.int wv):=aJ (j:=0) rfl;rw [this] at hx;injection hx with hx;injection hx with hx;rw [<- hx];exact hwo'.2
  ·have ZR:=(sD.trans sxL).trans sr;have sxR:=sx.trans ZR;have BR:=fJ.same BX ZR;have XR:=XX.same ZR;have fR:∀ e∈W.es,jB HR e.tb e.due.1 e.due.2:=fun e he=>ZR _ _ (fX e he);have RR:=ZR _ _ RX;have DR:HR D=some (.lst ((dh::dt).map V.int)):=sr _ _ (sxL _ _ kD);have RAR:iI HR all rs:=wW RA ZR;have flat:∀ q∈rs,q.all gR=true:=fun q hq=>by
    obtain ⟨dy,rw2,e,_,tx,_⟩:=IR q hq;rw [e];exact Ji tx
   dsimp only [oR];refine grab (a:=Dh _ _ _) (fun σ' Hy=>∃ (W':Wo) (all':List Addr) (rs':List (List V)),σ'=[some (.ref fa),some (.int 20),some (.int many),some (.ref p),some (.ref wy),some (.ref q.B),some (.ref R),some (.int day),some (.int (0+(i:Int))),some (.ref D),some (.ref r)]/\Same H Hy/\Bk q Hy W'.es W'.ks/\Bx q Hy W'/\Wp W' ls (i+1) wd/\(∀ e∈W'.es,jB Hy e.tb e.due.1 e.due.2)/\Hy R=some (.lst (all'.map V.ref))/\all'.length<=i+1/\iI Hy all' rs'/\(∀ r∈rs',Rn ls r)/\rs'.Nodup/\Hy D=some (.lst ((dh::dt).map V.int))) (fun σ' Hy hp=>?_) (fun go=>?_)
   rotate_left
   ·refine ⟨_,rfl,_,rfl,r,R,all,Ro.vs day cO,rs,rfl,rfl,bR.of RR,hr',Ji htx,RAR,flat,?_⟩
    by_cases hin:Ro.vs day cO∈rs
    ·have eb:(rs.any fun q=>decide (q=Ro.vs day cO))=true:=by
      rw [List.any_eq_true];exact ⟨_,hin,A0g rfl⟩
     rw [eb];refine ⟨_,rfl,?_⟩;exact go _ _ ⟨W,all,rs,rfl,sxR,BR,XR,⟨PX.E.up (A2t i),PX.hv,A4j PX.hl,A4j PX.dl,PX.nd,A4j PX.gl⟩,fR,RR,by lia,RAR,IR,nd,DR⟩
    ·have eb:(rs.any fun q=>decide (q=Ro.vs day cO))=false:=by
      rw [A3n];exact fun q hq=>by rw [A1H];exact fun z=>hin (z ▸ hq)
     rw [eb];refine ⟨_,rfl,?_⟩;refine ⟨_,rfl,.inl ⟨rfl,_,bR.of RR⟩,_,rfl,R,_,_,rfl,rfl,RR,by rw [cg];exact small 0x3,?_⟩;have nT:∀ {c:Addr}{xs:List V},HR c=some 0x2E->(upd HR R 0x1C) c=some 0x2E:=fun h=>by rw [aj (aM h RR 0x5)];exact h
     have nK:∀ {c:Addr}{kv:List 0x30},HR c=some (.dK kv)->(upd HR R 0x1C) c=some (.dK kv):=fun h=>by rw [aj (aM h RR 0x5)];exact h
     have BA:Bk q (upd HR R 0x1C) W.es W.ks:=Jf BR RB RO';have XA:Bx q (upd HR R 0x1C) W:=Jg XR RG RO';have RAA:iI (upd HR R 0x1C) all rs:=Paired.Jl RAR fun a b h=>nT h;have rA:=nT hr';have fA:∀ e∈W.es,jB (upd HR R 0x1C) e.tb e.due.1 e.due.2:=fun e he=>nT (fR e he);have hRA:(upd HR R 0x1C) R=some 0x1C:=ao;have sA:Same H (upd HR R 0x1C):=fun c u h=>by rw [aj (aq h hR0)];exact sxR _ _ h
     have DA:(upd HR R 0x1C) D=some (.lst ((dh::dt).map V.int)):=by
      rw [aj (aq RX hD).symm];exact DR
     generalize upd HR R 0x1C=HA at BA XA RAA rA fA hRA sA DA ⊢;refine ⟨_,rfl,_,rfl,q,W,ls,i,r,cO,day,wd,rfl,apq,BA,XA,PX,fA,hok,hls,by lia,rA,fun w1 W' HW J BW XW fW ob=>?_⟩;refine go _ _ ⟨W',all++[r],rs++[Ro.vs day cO],rfl,fun c u h=>?_,BW,XW,J.wp PX hok htx hls,fW,?_,?_,?_,?_,?_,?_⟩
     ·exact ob c u (Zi h) (sA _ _ h)
     ·rw [iZ];exact ob R _ RO' hRA
     ·rw [gZ,A0r];lia
     ·exact Cz (Paired.Jl RAA fun a b h=>uZ BA XA ob h) (uZ BA XA ob rA)
     ·intro x hx;rcases A0l.mp hx with z | z
      ·exact IR x z
      ·rw [A0b.mp z];exact ⟨day,cO,rfl,hok,htx,a1c,a1d⟩
     ·rw [A2v];exact ⟨nd,by simp,fun a ha b hb=>by rw [A0b.mp hb];exact fun z=>hin (z ▸ ha)⟩
     ·exact ob D _ (q9 BX XX hD) DA
   ·obtain ⟨W',all',rs',rfl,sy,By,Xy,Py,fy,Ry,ay,RAy,IRy,ndy,Dy⟩:=hp;refine ⟨_,rfl,small 0xA,fun L hL=>?_⟩;have sL:=aO hL 0x3A;have kL:(upd Hy L 0x3A) L=some 0x3A:=ao;have RL:=sL _ _ Ry;have DL:=sL _ _ Dy;have sHL:=sy.trans sL;have BL':=fJ.same By sL;have XL':=Xy.same sL;have fL:∀ e∈W'.es,jB (upd Hy L 0x3A) e.tb e.due.1 e.due.2:=fun e he=>sL _ _ (fy e he);have RAL:=wW RAy sL;generalize upd Hy L 0x3A=HL at sL kL RL DL sHL BL' XL' fL RAL ⊢;obtain ⟨x,ex,mx⟩:=jK (xs:=[V.int 1,V.int 1,V.int 0,V.int 5,V.int 300]) (i:=d6 / 4 % 5) (A0Q _ 0x6) (A0L _ 0x6);obtain ⟨x',rfl,x0,x1⟩:∃ x':Int,x=.int x'/\0<=x'/\x'<=300:=by
     simp only [A0d,A0w,A1k] at mx;rcases mx with rfl | rfl | rfl | rfl | rfl <;> exact ⟨_,rfl,by decide,by decide⟩
    refine ⟨_,rfl,D,_,_,_,rfl,rfl,bR.of DL,e6,_,_,rfl,rfl,⟨by decide,by decide⟩,_,_,rfl,rfl,(by show (0:Int)<5;decide),L,_,_,_,rfl,rfl,bR.of kL,ex,_,_,rfl,rfl,_,_,rfl,?_⟩
    refine ⟨W',all',rs',_,_,_,_,rfl,sHL,BL',XL',Py,fL,RL,ay,RAL,IRy,ndy,?_,?_⟩ <;> split <;> lia
 ·rintro σ Hx ⟨W,all,rs,day,u8,u9,u10,rfl,sx,BX,XX,PX,fX,RX,al,RA,IR,nd,_,_⟩;exact ⟨_,rfl,k R all rs Hx sx RX hR0 0x3 RA IR nd⟩
abbrev Gj:Stmt:=inClass (top 44) 8
abbrev zF:Stmt:=inClass (top 44) 9
theorem wY {α β:Type}{R:α->β->Prop}:∀ {l:List α}{l':List β}{i:Nat}{a:α},Paired R l l'->l[i]?=some a->∃ b,l'[i]?=some b/\R a b
 | _,_,_,_,.nil,h=>by simp at h
 | _,_,0,_,.cons p _,h=>by injection h with h;subst h;exact ⟨_,rfl,p⟩
 | _,_,i+1,_,.cons _ r,h=>wY (i:=i) r h
def Vf (lg:List (Str×Int×Str)) (m:Str) (dy:Int):List (Str×Int×Str):=(lg.filter fun e=>decide (e.1=m)).filter fun e=>decide (e.2.1<=dy)
inductive zG (CC CR CK C:Addr) (vs:List V) (H:Hp) (Q:VK) (cB:XK):Prop
 | mk (c dc jl ll:Addr) (mr:Rm) (q:Ad) (W:M.Wo) (n b dy:Int) (m:Str) (_:vs=[.ref c,.int dy,.str m]) (_:H c=some (.ins CC dc (Cj n b mr.z jl ll))) (_:cL CR CK C H mr q W) (_:W.lg.length<=100) (_:∀ H',Same H H'->Q (mZ (wK (Vf W.lg m dy))) H'):zG CC CR CK C vs H Q cB
def CG (dd:List (Str×Int)) (m:Str):Option Int:=(dd.find? fun p=>decide (p.1=m)).map (·.2)
def Rq (dd:List (Str×Int)) (m:Str) (dy:Int):Bool:=match CG dd m with
 | some d=>decide (d<=dy)
 | none=>false
inductive vf (CC CR CK C:Addr) (vs:List V) (H:Hp) (Q:VK) (cB:XK):Prop
 | mk (c dc jl ll:Addr) (mr:Rm) (q:Ad) (W:M.Wo) (n b dy:Int) (m:Str) (_:vs=[.ref c,.int dy,.str m]) (_:H c=some (.ins CC dc (Cj n b mr.z jl ll))) (_:cL CR CK C H mr q W) (_:Q (.bl (Rq W.dd m dy)) H):vf CC CR CK C vs H Q cB
theorem Rr {dd:List (Str×Int)}{m:Str}:bI (Q6 dd) (.inr m)=(CG dd m).map V.int:=by
 unfold CG Q6 uI bI
 induction dd with
 | nil=>rfl
 | cons a r ih =>
  rw [A0m]
  by_cases h:a.1=m
  ·rw [A1n (by simp [h]),A1n (by simp [h])];rfl
  ·rw [A1e (by simp;exact h),A1e (by simp;exact h)];exact ih
section
variable {CR:Addr}
theorem qj:aP ["self", "day", "man", "chosen", "since", "lord"] A5c (aH Gj):=0x0
theorem Vg (TC:lM K CC) (TR:iW K CR) (F:fu K "liege" "Court.liege" Gj f fd):aL P w K mg base bO 1 f fd A5c (zG CC CR CK C):=by
 refine F.ok qj 0x1 0x2;obtain ⟨c,dc,jl,ll,mr,q,W,n,b,dy,m,rfl,hc,R,hl,k⟩:=h;refine ⟨_,au (aY (i:=3) qj.nd rfl 0x8 lB)
  (au (fM A0N rfl (cX (Bf (u1 hr) (aZ 0xC rfl) (pv 2) (cU aC) ⟨rfl,rfl,rfl,rfl⟩)) (lC rfl (bT (bf (i:=4) qj.nd rfl 0x8) (bT (bf (i:=5) qj.nd rfl 0x8) gC)))
   (aG (bK (aQ tL (pv 4) 0x10 (bB _)) (aG (aY (i:=3) qj.nd rfl 0x8 (pv 5))) aR)))
  (aG (aV (pv 3)))),?_⟩
 obtain ⟨gs,G⟩:=R.G;refine ⟨_,rfl,c,CC,dc,_,_,rfl,hc,TC.cl,TC.n3,rfl,mr.z,CR,mr.dz,_,_,rfl,R.o,TR.cl,TR.n4,rfl,mr.li,rfl,.inl ⟨_,.inl G.d⟩,_,rfl,small 0xA,fun e he=>?_⟩
 apply 0o1 H e he se e1 H1
 obtain ⟨o,hg,la,ts,eo,hla,hpr⟩:∃ o,dj H1 mr.li (V.str m) o/\∃ (la:Addr) (ts:List Addr),o.getD (.ref e)=V.ref la/\H1 la=some (.lst (ts.map V.ref))/\Paired (fun t (e:Str×Int×Str)=>H1 t=some (.tup [.int e.2.1,.str e.2.2])) ts (W.lg.filter fun e=>decide (e.1=m)):=by
  refine ⟨_,dj.k (k:=.inr m) (se _ _ G.d),?_⟩;cases hv:bI (uI (·.1) (fun p:Str×Addr=>V.ref p.2) gs) (.inr m) with
  | some v =>
   obtain ⟨p,hp,hpa,rfl⟩:=Bv hv;obtain ⟨ts,h1,h2⟩:=G.lt p hp;rw [hpa] at h2;exact ⟨p.2,ts,rfl,se _ _ h1,Paired.imp' (fun t e h=>se _ _ h) h2⟩
  | none =>
   have hna:m∉gs.map (·.1):=fun c=>by
    have:=yO (g:=fun p:Str×Addr=>p.1) (f:=fun p=>V.ref p.2) (n:=m) gs;rw [hv,A0g c] at this;cases this
   have:W.lg.filter (fun e=>decide (e.1=m))=[]:=A2N.mpr fun x hx z=>hna (by rw [<- nU z];exact G.all x hx);rw [this];exact ⟨e,[],rfl,e1,.nil⟩
 refine ⟨o,hg,?_⟩;rw [eo];refine ⟨la,rfl,⟨_,bR.of hla⟩,dX (K:=K) (a:=la) (xs:=ts.map V.ref) (fun i σ Hx=>∃ (u4 u5:Option V),σ=[some (.ref c),some (.int dy),some (.str m),some (mZ (wK (((W.lg.filter fun e=>decide (e.1=m)).take i).filter fun e=>decide (e.2.1<=dy)))),u4,u5]/\Hx=H1)
  ⟨none,none,rfl,rfl⟩ (fun i σ Hx _ h=>by obtain ⟨_,_,_,h⟩:=h;rw [h];exact bR.of hla) ?_ ?_⟩
 ·rintro i v σ Hx hv ⟨u4,u5,rfl,rfl⟩;rw [jQ] at hv;obtain ⟨t,ht,rfl⟩:=A0t.mp hv;obtain ⟨x,hx,hxt⟩:=wY hpr ht;have tk:(W.lg.filter fun e=>decide (e.1=m)).take (i+1)=(W.lg.filter fun e=>decide (e.1=m)).take i++[x]:=by rw [A1a,hx];rfl
  refine ⟨t,_,rfl,bZ.of hxt,rfl,_,_,rfl,_,_,rfl,rfl,?_⟩;refine ⟨_,rfl,_,rfl,_,_,rfl,rfl,_,rfl,iy 0x35 0x35⟩
  ·refine ⟨_,rfl,some (.int x.2.1),some (.str x.2.2),?_,rfl⟩;rw [tk,A1i,A0Y (p:=fun e:Str×Int×Str=>decide (e.2.1<=dy)) c];unfold wK;rw [A3L,List.getLast?_append];rfl
  ·refine ⟨some (.int x.2.1),some (.str x.2.2),?_,rfl⟩;rw [tk,A1i,A1j (p:=fun e:Str×Int×Str=>decide (e.2.1<=dy)) c,A3L,A0K];rfl
 ·rintro σ Hx ⟨u4,u5,rfl,rfl⟩;have hl2:ts.length=(W.lg.filter fun e=>decide (e.1=m)).length:=A2P hpr;rw [cg,hl2,A1c];exact ⟨_,rfl,k _ se⟩
theorem Rt:aP A5c A5c (aH zF):=0x0
theorem KZ (TC:lM K CC) (TR:iW K CR) (F:fu K "dead" "Court.dead" zF f fd):aL P w K mg base bO 1 f fd A5c (vf CC CR CK C):=by
 refine F.ok Rt 0x1 0x2;obtain ⟨c,dc,jl,ll,mr,q,W,n,b,dy,m,rfl,hc,R,k⟩:=h;refine ⟨_,aG (aV (m7 (xr (tZ (u1 hr) (pv 2) (aZ 0xC rfl)) 0xE) (sZ (gK tL (bH (u1 hr) (aZ 0xC rfl) (pv 2) 0x4) 0x10 (bB _))))),?_⟩;refine ⟨_,rfl,_,rfl,c,CC,dc,_,_,rfl,hc,TC.cl,TC.n3,rfl,mr.z,CR,mr.dz,_,_,rfl,R.o,TR.cl,TR.n5,rfl,mr.de,_,rfl,dj.k (k:=.inr m) R.D,_,rfl,?_⟩;unfold Rq at k;rw [Rr];cases hd:CG W.dd m with
 | none=>rw [hd] at k;exact cA k
 | some d =>
  rw [hd] at k;refine dU ⟨_,rfl,c,CC,dc,_,_,rfl,hc,TC.cl,TC.n3,rfl,mr.z,CR,mr.dz,_,_,rfl,R.o,TR.cl,TR.n5,rfl,_,rfl,mr.de,_,rfl,?_,_,rfl,_,_,rfl,rfl,k⟩;have:=dj.k (k:=.inr m) R.D;rw [Rr,hd] at this;exact this
end
abbrev Vh:Stmt:=top 67
theorem Jo.grow {W W':Wo}{ro:Ro}{w:Str} (h:Jo W dy ro w W'):∃ lx dx,W'.lg=W.lg++lx/\W'.dd=W.dd++dx/\(∀ e∈lx,e.2.1=dy)/\∀ e∈dx,e.2=dy:=by
 have z:∃ lx dx,W.lg=W.lg++lx/\W.dd=W.dd++dx/\(∀ e∈lx,e.2.1=dy)/\∀ e∈dx,e.2=dy:=⟨[],[],(A0K _).symm,(A0K _).symm,(fun e he=>nomatch he),(fun e he=>nomatch he)⟩
 cases h with
 | lr _ _=>exact ⟨[_],[],rfl,(A0K _).symm,fun e he=>by rw [A0b.mp he],fun e he=>nomatch he⟩
 | di _ _ _ _=>exact ⟨[],[_],(A0K _).symm,rfl,(fun e he=>nomatch he),fun e he=>by rw [A0b.mp he]⟩
 | _=>exact z
theorem JL.cut {W0 W:Wo}{L:List (Int×Ro)} (J:JL W0 L ws W):∀ {r1 r2:List (Int×Ro)},L=r1++r2->(∀ r∈r2,now<r.1)->∃ ws1 W1 lx dx,JL W0 r1 ws1 W1/\W.lg=W1.lg++lx/\W.dd=W1.dd++dx/\(∀ e∈lx,now<e.2.1)/\∀ e∈dx,now<e.2:=by
 induction J with
 | nil =>
  intro r1 r2 e _;obtain ⟨rfl,rfl⟩:=List.append_eq_nil_iff.mp e.symm;exact ⟨_,_,[],[],.nil,(A0K _).symm,(A0K _).symm,(fun e he=>nomatch he),fun e he=>nomatch he⟩
 | @snoc rs ws0 Wa Wb dy ro w J0 D ih =>
  intro r1 r2 e h;rcases List.eq_nil_or_concat r2 with rfl | ⟨r3,x,rfl⟩
  ·rw [A0K] at e;subst e;exact ⟨_,_,[],[],.snoc J0 D,(A0K _).symm,(A0K _).symm,(fun e he=>nomatch he),fun e he=>nomatch he⟩
  ·rw [List.concat_eq_append] at e h;rw [<- A1M] at e;obtain ⟨e1,e2⟩:=A4t e rfl;injection e2 with e2;obtain ⟨ws1,W1,lx,dx,J1,a1,a2,a3,a4⟩:=ih e1 fun r hr=>h r (A0U _ hr);obtain ⟨ly,dz,b1,b2,b3,b4⟩:=D.grow;have hx:now<dy:=by
    have:=h x (A0z _ (A0b.mpr rfl));rw [<- e2] at this;exact this
   refine ⟨ws1,W1,lx++ly,dx++dz,J1,by rw [b1,a1,A1M],by rw [b2,a2,A1M],fun e he=>?_,fun e he=>?_⟩
   ·rcases A0l.mp he with c | c
    ·exact a3 e c
    ·rw [b3 e c];exact hx
   ·rcases A0l.mp he with c | c
    ·exact a4 e c
    ·rw [b4 e c];exact hx
theorem JL.upto {W0 W:Wo}{L:List (Int×Ro)} (h1:W0.lg=[]) (h2:W0.dd=[]) (J:JL W0 L ws W):(∀ r∈L,r.1<=now)->(∀ e∈W.lg,e.2.1<=now)/\∀ e∈W.dd,e.2<=now:=by
 induction J with
 | nil=>intro _;rw [h1,h2];exact ⟨(fun e he=>nomatch he),(fun e he=>nomatch he)⟩
 | snoc _ D ih =>
  intro h;obtain ⟨i1,i2⟩:=ih fun r hr=>h r (A0U _ hr);obtain ⟨ly,dz,b1,b2,b3,b4⟩:=D.grow;have hd:=h _ (A0z _ (A0b.mpr rfl));refine ⟨fun e he=>?_,fun e he=>?_⟩
  ·rw [b1] at he;rcases A0l.mp he with c | c
   ·exact i1 e c
   ·rw [b3 e c];exact hd
  ·rw [b2] at he;rcases A0l.mp he with c | c
   ·exact i2 e c
   ·rw [b4 e c];exact hd
theorem Ru {l lx:List (Str×Int×Str)}{m:Str} (h:∀ e∈l,e.2.1<=now) (hx:∀ e∈lx,now<e.2.1):Vf (l++lx) m now=l.filter fun e=>decide (e.1=m):=by
 unfold Vf;have e1:((l.filter fun e=>decide (e.1=m)).filter fun e=>decide (e.2.1<=now))=l.filter fun e=>decide (e.1=m):=A3O.mpr fun e he=>A0g (h e (A0q.mp he).1);have e2:((lx.filter fun e=>decide (e.1=m)).filter fun e=>decide (e.2.1<=now))=[]:=A2N.mpr fun e he z=>by
  have:=hx e (A0q.mp he).1;have:=nU z;lia
 rw [A1i,A1i,e1,e2,A0K]
theorem Rv {l lx:List (Str×Int)}{m:Str} (h:∀ e∈l,e.2<=now) (hx:∀ e∈lx,now<e.2):Rq (l++lx) m now=decide (m∈l.map (·.1)):=by
 unfold Rq CG;rw [List.find?_append];cases q:l.find? fun p=>decide (p.1=m) with
 | some p =>
  have h1:=A1W q;have h2:=nU (List.find?_some (p:=fun p:Str×Int=>decide (p.1=m)) q);rw [A0g (A0e.mpr ⟨p,h1,h2⟩)];exact A0g (h p h1)
 | none =>
  have h1:m∉l.map (·.1):=fun c=>by
   obtain ⟨p,hp,e⟩:=A0e.mp c;have:=List.find?_eq_none.mp q p hp;exact this (A0g e)
  rw [A0n h1]
  show (match ((none:Option (Str×Int)).or (lx.find? _)).map (·.2) with | some d=>decide (d<=now) | none=>false)=false
  rw [Option.none_or];cases q2:lx.find? fun p=>decide (p.1=m) with
  | none=>rfl
  | some p =>
   have:=hx p (A1W q2);exact A0n (by show ¬ p.2<=now;lia)
theorem CJ {dat:Addr->List V}{fQ:Addr->Int}{now:Int}:∀ {l:List Addr},(l.Pairwise fun a b=>fQ a<=fQ b)->l=(l.filter fun a=>decide (fQ a<=now))++l.filter fun a=>decide (now<fQ a)
 | [],_=>rfl
 | a::r,h=>by
  have h':=A4c.mp h
  by_cases c:fQ a<=now
  ·rw [A0Y 0x2B,A1j (by simp;exact c),A1T,<- CJ (dat:=dat) h'.2]
  ·have e1:((a::r).filter fun a=>decide (fQ a<=now))=[]:=A2N.mpr fun b hb z=>by
    have z:=nU z;rcases A0d.mp hb with q | q
    ·rw [q] at z;exact c z
    ·have:=h'.1 b q;lia
   have e2:((a::r).filter fun a=>decide (now<fQ a))=a::r:=A3O.mpr fun b hb=>A0g (by
    rcases A0d.mp hb with q | q
    ·rw [q];lia
    ·have:=h'.1 b q;lia)
   rw [e1,e2,A1O]
theorem qP.day {iY:Addr->Ro} (h:qP dat fQ iY ls a):gU (dat a)=fQ a:=by
 rw [h.e];cases iY a <;> rfl
theorem CN {iY:Addr->Ro}{all out out':List Addr}{ws':List Str}{W W':Wo}{t0 b0:Addr} (hr:∀ a∈all,fZ (dat a)) (RW:∀ a∈all,qP dat fQ iY ls a) (hls:∀ n∈ls,n≠""/\PyData.strOk n=true) (w1:1<=wd) (w2:wd<=9999)
  (p:out.Perm all) (p':out'.Perm (all.filter fun a=>decide (fQ a<=now))) (u:zM dat out) (u':zM dat out') (J:JL (W0 (BJ wd t0)) (out.map fun a=>(fQ a,iY a)) ws W) (J':JL (W0 (vG wd b b0)) (out'.map fun a=>(fQ a,iY a)) ws' W') (m:Str) :
  Vf W.lg m now=(W'.lg.filter fun e=>decide (e.1=m))/\Rq W.dd m now=decide (m∈W'.gone):=by
 have om:∀ a∈out,a∈all:=fun a ha=>p.mem_iff.mp ha;have pw:out.Pairwise fun a b=>fQ a<=fQ b:=by
  refine (List.Pairwise.imp_of_mem (S:=fun a b=>fQ a<=fQ b) ?_ u);intro a b ha hb h;have:=wU h;rw [(RW a (om a ha)).day,(RW b (om b hb)).day] at this;exact this
 have ec:=CJ (dat:=dat) (now:=now) pw;have J2:=J;rw [ec,iZ] at J2;obtain ⟨ws1,W1,lx,dx,J1,a1,a2,a3,a4⟩:=JL.cut (now:=now) J2 rfl fun r hr=>by
  obtain ⟨a,ha,rfl⟩:=A0e.mp hr;exact nU (A0q.mp ha).2
 obtain ⟨i1,i2⟩:=JL.upto (now:=now) rfl rfl J1 fun r hr=>by
  obtain ⟨a,ha,rfl⟩:=A0e.mp hr;exact nU (A0q.mp ha).2
 obtain ⟨_,_,ab⟩:=qg (all:=all.filter fun a=>decide (fQ a<=now)) (fun a ha=>hr a (A0q.mp ha).1) (fun a ha=>RW a (A0q.mp ha).1) hls w1 w2 (p.filter _) p' (List.Pairwise.filter _ u) u' J1 J';rw [a1,a2,Ru i1 a3,Rv i2 a4,ab.2.2.2.2];refine ⟨rfl,?_⟩;unfold Wo.gone;rw [ab.2.2.2.1]
theorem Zr {p:Addr->Bool} (h:gA H as dat):gA H (as.filter p) dat:=⟨fun a ha=>h.1 a (A0q.mp ha).1,List.Sublist.nodup (List.Sublist.map dat A2X) h.2⟩
inductive Rz (K:W.Frag) (vs:List V) (H:Hp) (Q:VK) (cB:XK):Prop
 | mk (l:Addr) (now:Int) (all:List Addr) (dat:Addr->List V) (fQ:Addr->Int) (iY:Addr->M.Ro) (ls:List Str) (_:vs=[.ref l,.int now]) (_:H l=some (.lst 0x2D)) (_:all.length<=100) (_:gA H all dat) (_:(∀ a∈all,qP dat fQ iY ls a)) (_:∀ D H',Same H H'->H D=none->H' D=some (.lst ((all.filter fun a=>decide (fQ a<=now)).map V.ref))->Q (.ref D) H'):Rz K vs H Q cB
theorem a1e:aP A5g A5g (aH Vh):=0x0
def a1f:Scope:={ kind:=.function,names:=[(".0",.local),("_law_row_here",.local),("_law_day",.free)],isGenerator:=false,isCoroutine:=false }
theorem a1g:gO A5g (aH Vh) a1f ["_law_row_here"] ["_law_day"] [1]:=0xB
theorem a1h:((["_law_row_here"]:List Str)++(["_law_day"]:List Str)).Nodup:=by decide +kernel
theorem Zt (F:fu K "_law_until" "_law_until" Vh f fd):aL P w K mg base bO 1 f fd A5g (Rz K):=by
 refine F.ok a1e 0x1 0x2;obtain ⟨l,now,all,dat,fQ,iY,ls,rfl,hl,h100,RO,RW,k⟩:=h;refine ⟨_,aG (aV (j9 rfl a1g (cX (pv 0)) (fun s H fp C'=>⟨bf (i:=0) a1h rfl 0x8,jG (aQ tL (aN (T4 (K:=K)) (pv 0) aA 0x4) 0x10 (bB _)),pv 0⟩))),?_⟩;refine ⟨_,rfl,l,rfl,⟨_,bR.of hl⟩,fun D hD=>qz (xs:=all.map V.ref) (fun i ys Hz=>ys=((all.take i).filter fun a=>decide (fQ a<=now)).map V.ref/\Same H Hz/\Hz D=some (.lst ys)) (fun i ys Hz h=>bR.of (h.2.1 _ _ hl)) ⟨rfl,aO hD _,ao⟩ (fun i ys Hz h=>h.2.2) ?_ ?_⟩
 ·rintro i ys Hz v hv ⟨rfl,sz,jA⟩;rw [jQ] at hv;obtain ⟨a,ha,rfl⟩:=A0t.mp hv;have am:=vm ha;have hx:=sz _ _ (RO.1 a am).1;have e1:vq (dat a) 1=some (.int (fQ a)):=aJ (j:=1) (by rw [(RW a am).e];cases iY a <;> rfl);have step:((all.take (i+1)).filter fun a=>decide (fQ a<=now)).map V.ref=((all.take i).filter fun a=>decide (fQ a<=now)).map V.ref++(if decide (fQ a<=now)=true then [V.ref a] else []):=by
   rw [A1a,ha,A1i,iZ]
   congr 1
   cases c:decide (fQ a<=now) <;> simp [c]
  refine ⟨Kp.set rfl (Kp.refl _),_,rfl,a,_,_,_,rfl,rfl,bZ.of hx,e1,_,rfl,_,_,rfl,rfl,_,rfl,iy 0x35 0x35⟩
  ·rw [A0i c] at step;refine ⟨_,rfl,jA,?_,step.symm,bU sz hD,ao⟩;rw [cg];have:=A0J (fun a=>decide (fQ a<=now)) (all.take i);rw [A0G] at this;exact bQ 0x3
  ·rw [A0f c] at step;exact ⟨by rw [step,A0K],sz,jA⟩
 ·rintro ys Hz ⟨rfl,sz,jA⟩;rw [cg,A1c] at jA;exact k D Hz sz hD jA
abbrev Gk:Stmt:=top 75
inductive CP (K:W.Frag) (vs:List V) (H:Hp) (Q:VK) (cB:XK):Prop
 | mk (a:Addr) (ns:List Int) (_:vs=[.ref a]) (_:bR K H a (ns.map V.int)) (_:ns.length<=63) (_:∀ H',Q (.bl true) H'):CP K vs H Q cB
theorem wZ:∀ {l:List Addr},(∀ r∈l,nF H dat r)->dg H (l.map V.ref) (l.map fun r=>PyData.tuple ((dat r).map fU))
 | [],_=>.nil
 | r::l,h=>.cons (.tup (h r A0o).1 (jg _ (h r A0o).2.1)) (wZ fun z hz=>h z (jT _ hz))
theorem CQ {l:List Addr} (h:∀ r∈l,nF H dat r):(PyData.list (l.map fun r=>PyData.tuple ((dat r).map fU))).canLay0=true/\(PyData.list (l.map fun r=>PyData.tuple ((dat r).map fU))).depth<=8:=by
 have mem:∀ d∈l.map fun r=>PyData.tuple ((dat r).map fU),d.canLay0=true/\d.depth<=2:=fun d hd=>by
  obtain ⟨r,hr,rfl⟩:=A0e.mp hd;refine ⟨iH _ (h r hr).2.1,?_⟩;have:=kY (dat r)
  show PyData.depthAll _+1<=2
  lia
 refine ⟨zB fun d hd=>(mem d hd).1,?_⟩;have:=sU fun d hd=>(mem d hd).2
 show PyData.depthAll _+1<=8
 lia
theorem RJ (ds:List PyData):PyData.eqv (.list ds) (.list [])=decide (ds=[]):=by
 cases ds <;> simp [PyData.eqv,PyData.eqvAll]
theorem RK (o:Option Str):Wd (mZ o)=true:=by cases o <;> rfl
theorem Vi (o:Option Str):(o.map V.str).getD .non=mZ o:=by cases o <;> rfl
theorem WK {a b:TS}{D:Ends} (h:a { D with nx:=fun σ' H'=>b D σ' H' } σ H):Lq a b D σ H:=h
section
variable {CR:Addr}
theorem oh:aP ["_law_script", "_law_feed_here", "_law_pools_here", "_law_rows_here", "_law_court_here", "_law_day", "_law_now", "_law_book_here", "_law_man"] ["_law_script"] (aH Gk):=0x0
theorem Zu (TC:lM K CC) (F:fu K "law" "law" Gk f fd) (mn:mg "len"=none) (Vb:mg "max"=none) (Rf:mg "min"=none) {g6 g7 g8 g9 g0:Addr}{d6 d7 d8 d9 d0:FuncData}
  (G1:aL P w K mg base bO 1 g1 d1 ["_law_script", "_law_many"] (Eh K)) (M1:Ms K mg "_law_feed" g1 d1 ["_law_script", "_law_many"])
  (G2:aL P w K mg base bO 2 g2 d2 ["_law_feed_here"] (zx K)) (M2:Ms K mg "_law_pools" g2 d2 ["_law_feed_here"])
  (G3:aL P w K mg base bO 5 g3 d3 A4T (zE K)) (M3:Ms K mg "_law_rows" g3 d3 A4T)
  (G4:aL P w K mg base bO 9 g4 d4 A4W (v9 CC CR CK C K)) (M4:Ms K mg "_law_court" g4 d4 A4W)
  (G5:aL P w K mg base bO 6 g5 d5 A5b (Ri CC)) (M5:Ms K mg "_law_judged_right" g5 d5 A5b)
  (G6:aL P w K mg base bO 1 g6 d6 A5c (zG CC CR CK C)) (m6:Meth K CC "liege" g6) (b6:Binds K d6 A5c [])
  (G9:aL P w K mg base bO 1 g9 d9 A5c (vf CC CR CK C)) (m9:Meth K CC "dead" g9) (b9:Binds K d9 A5c [])
  (G7:aL P w K mg base bO 5 g7 d7 A5f (qb K)) (M7:Ms K mg "_law_books" g7 d7 A5f)
  (G8:aL P w K mg base bO 1 g8 d8 A5g (Rz K)) (M8:Ms K mg "_law_until" g8 d8 A5g)
  (G0:aL P w K mg base bO 1 g0 d0 A4V (qF 1)) (M0:Ms K mg "_law_same" g0 d0 A4V) :
  aL P w K mg base bO 10 f fd ["_law_script"] (CP K):=by
 refine F.ok oh 0x1 0x2;obtain ⟨a,ns,rfl,hS,hns,kk⟩:=h;have G1:=aL.mono (k:=9) G1 0x3;have G2:=aL.mono (k:=9) G2 0x3;have G3:=aL.mono (k:=9) G3 0x3;have G5:=aL.mono (k:=9) G5 0x3;have G6:=aL.mono (k:=9) G6 0x3;have G7:=aL.mono (k:=9) G7 0x3;have G8:=aL.mono (k:=9) G8 0x3;have G9:=aL.mono (k:=9) G9 0x3;have G0:=aL.mono (k:=9) G0 0x3;refine ⟨_,au (aY (i:=1) oh.nd rfl 0x8 (bJ G1 hr rfl M1.m M1.k M1.b .nil bC (ak (pv 0) (ak aA aC))))
  (au (aY (i:=2) oh.nd rfl 0x8 (bJ G2 hr rfl M2.m M2.k M2.b .nil bC 0x26))
  (au (aY (i:=3) oh.nd rfl 0x8 (bJ G3 hr rfl M3.m M3.k M3.b .nil bC (ak 0x10 (ak aA (ak (aX bW (aN bD 0x10 aA 0x4) aA) (ak (pv 2) (ak (cU (ak aA (ak aA (ak aA (ak aA (ak aA (ak aA (ak aA (ak aA aC))))))))) aC)))))))
  (au (aY (i:=4) oh.nd rfl 0x8 (bJ G4 hr rfl M4.m M4.k M4.b .nil bC (ak (pv 2) (ak 0x10 (ak (pv 3) aC)))))
  (au (bK (iT (dZ (bJ G5 hr rfl M5.m M5.k M5.b .nil bC (ak (pv 4) (ak (pv 2) (ak (pv 3) aC)))))) (aG (aV nW)) aR)
  (au (aY (i:=5) oh.nd rfl 0x8 aA)
  (au (bK (aQ (Ng (u64 hr)) (pv 3) (cU aC) (bB _)) (aG (aY (i:=5) oh.nd rfl 0x8 (aN bA (aN bD (pv 3) (aX bW (aN bD 0x10 aA 0x4) (bG cI rfl mn A1m (ak (pv 3) aC))) 0x4) aA 0x4))) aR)
  (au (fM A0N rfl (cX (cU (ak (bG (qw rfl) rfl Vb DG (ak aA (ak (aX tG (pv 5) aA) aC))) (ak (pv 5) (ak (bG (qx rfl) rfl Rf Gg (ak aA (ak (aX cY (pv 5) aA) aC))) (ak aA aC)))))) (bf (i:=6) oh.nd rfl 0x8)
   (au (aY (i:=7) oh.nd rfl 0x8 (aN bA (bJ G7 hr rfl M7.m M7.k M7.b .nil bC (ak (aN bA (pv 2) aA 0x4) (ak (bJ G8 hr rfl M8.m M8.k M8.b .nil bC (ak (pv 3) (ak (pv 6) aC))) aC))) aA 0x4))
   (aG (fM A0N rfl (cX (aX mO (aN bA (pv 2) aA 0x4) (cU (ak aK aC)))) (bf (i:=8) oh.nd rfl 0x8)
    (au (bK (iT (dZ (bJ G0 hr rfl M0.m M0.k M0.b .nil bC (ak (cj (CX:=bO) (E:=E0) (pv 4) TC.cl m6 G6 hr b6 .nil bC (ak (pv 6) (ak (pv 8) aC))) (ak (uc (u1 hr) (bH (u1 hr) (pv 7) aK 0x4) (pv 8) ⟨rfl,rfl,rfl,rfl⟩) aC))))) (aG (aV nW)) aR)
    (aG (bK (iT (dZ (bJ G0 hr rfl M0.m M0.k M0.b .nil bC (ak (cj (CX:=bO) (E:=E0) (pv 4) TC.cl m9 G9 hr b9 .nil bC (ak (pv 6) (ak (pv 8) aC))) (ak (gK gF (pv 8) (bH (u1 hr) (pv 7) aK 0x4) 0xE) aC))))) (aG (aV nW)) aR)))))))
  (aG (aV nW))))))))),?_⟩
 refine ⟨_,rfl,a,ns,160,rfl,hS,hns,by decide,by decide,fun r H1 fs s1 hr0 hr1 hlen hok=>?_⟩;have hfl:fs.length=160:=by lia
 refine ⟨_,rfl,r,fs,rfl,bR.of hr1,by lia,hok,fun rp m la ms ls wd H2 s2 pl=>?_⟩;obtain ⟨v0,e0,o0⟩:=gJ hok (i:=0) 0x6 0x3;obtain ⟨v2,e2,o2⟩:=gJ hok (i:=2) 0x6 0x3;have hr2:=s2 _ _ hr1;refine ⟨_,rfl,_,rfl,r,_,_,_,rfl,rfl,bR.of hr2,e0,_,_,rfl,rfl,(by show (0:Int)<17;decide),_,rfl,small 0xA,fun wy hwy=>?_⟩
 have sw:=aO hwy (.lst (([0,1,2,3,8,8,10,8]:List Int).map V.int));refine ⟨r,rp,m,la,wy,fs,[0,1,2,3,8,8,10,8],_,ms,ls,wd,rfl,sw _ _ hr2,hfl,hok,by lia,by lia,pl.same sw,ao,by decide,by decide,fun v hv=>?_,fun R all rs H3 s3 hR hR0 Wz RA hrs nd=>?_⟩
 ·simp only [A0d,A0w,A1k] at hv;rcases hv with h | h | h | h | h | h | h | h <;> (rw [h];exact ⟨⟨by decide,by decide⟩,by decide⟩)
 have V3:=sw.trans s3;obtain ⟨RO,fQ,iY,RW⟩:=Gi RA hrs nd;have pl3:=pl.same V3;refine ⟨_,rfl,_,rfl,_,rfl,rp,r,R,m,la,fs,ms,ls,wd,all,rowAt H3,fQ,iY,rfl,pl3,V3 _ _ hr2,hfl,hok,hR,Wz,RO,RW,fun c dc jl ll z q W qk ek S5 lN ts out ws t0 b H4 s4 hc0 pm up J ct ce=>?_⟩;have hls:∀ n∈ls,n≠""/\PyData.strOk n=true:=fun n hn=>(pl.ol n hn).ne;refine ⟨_,rfl,_,rfl,_,rfl,c,dc,jl,ll,z.z,rp,m,la,R,W,ms,ls,wd,wd,b,ts,all,out,ws,t0,rowAt H3,fQ,iY,rfl,pl3.same s4,s4 _ _ hR,Wz,qe RO s4,RW,ct.o,ct.J,pm,up,J,fun H5 s5=>⟨_,rfl,cA ?_⟩⟩;have ct5:=ct.same s5;have s45:=s4.trans s5;have hR5:=s45 _ _ hR;have ZP:=(V3.trans s45) _ _ hr2;have pl5:=pl3.same s45;have RO5:=qe RO s45;have ol:out.length<=16:=by rw [pm.length_eq];exact Wz
 clear ct s4 s5 s45 RO pl3 V3 s3 RA hrs hR;refine WK ?_;dsimp only [Sg,tC,oR];refine WK ?_;dsimp only [Sg,tC,oR];refine grab (a:=Dh _ _ _) (fun σ' Hx=>∃ day:Int,σ'=[some (.ref a),some (.ref r),some (.ref rp),some (.ref R),some (.ref c),some (.int day),none,none,none]/\Same H5 Hx) (fun σ' Hx hp=>?_) (fun go=>?_)
 rotate_left
 ·refine ⟨_,rfl,small 0xA,fun e he=>?_⟩
  apply 0o1 H5 e he se e1 H6
  have FA:∀ x∈all,nF H6 (rowAt H3) x:=fun x hx=>Cy (se _ _ (RO5.1 x hx).1) (RW x hx);refine ⟨_,_,.lst (se _ _ hR5) (wZ FA),.lst e1 .nil,(CQ FA).1,rfl,(CQ FA).2,_,rfl,?_⟩;rw [RJ];refine iy 0x35 (fun _=>go _ _ ⟨0,rfl,se⟩);have ne:all≠[]:=fun z=>by rw [z] at c;cases c
  have pos:(0:Int)<((0x2D).length:Int):=by
   rw [cg];have:=List.length_pos_iff.mpr ne;lia
  obtain ⟨x,hx,UW⟩:=jK (xs:=all.map V.ref) (A0Q v2 (A4w pos)) (A0L v2 pos);obtain ⟨x,hxa,rfl⟩:=A0e.mp UW;have hxt:=se _ _ (RO5.1 x hxa).1;have ed:vq (rowAt H3 x) 1=some (.int (fQ x)):=aJ (j:=1) (by rw [(RW x hxa).e];cases iY x <;> rfl);refine ⟨_,rfl,_,rfl,r,_,_,_,rfl,rfl,bR.of (se _ _ ZP),e2,_,rfl,R,_,rfl,.inl (bR.of (se _ _ hR5)),_,_,rfl,rfl,pos,R,_,_,_,rfl,rfl,bR.of (se _ _ hR5),hx,x,_,_,_,rfl,rfl,bZ.of hxt,ed,?_⟩;exact go _ _ ⟨fQ x,rfl,se⟩
 obtain ⟨day,rfl,sx⟩:=hp;refine ⟨_,rfl,_,_,rfl,rfl,_,_,rfl,_,rfl,_,rfl,_,_,rfl,rfl,_,_,rfl,small 0xA,fun N hN=>?_⟩;generalize hnw:[V.int _,V.int _,V.int _,V.int _]=nws;obtain ⟨ns4,rfl⟩:∃ l:List Int,nws=l.map V.int:=⟨[_,_,_,_],hnw.symm⟩;clear hnw
 apply 0o1 Hx N hN sN kN HN
 have s5N:=sx.trans sN;refine ⟨N,rfl,⟨_,bR.of kN⟩,dX (K:=K) (a:=N) (xs:=ns4.map V.int) (fun i σ Hy=>∃ (u6 u7 u8:Option V),σ=[some (.ref a),some (.ref r),some (.ref rp),some (.ref R),some (.ref c),some (.int day),u6,u7,u8]/\Same HN Hy)
  ⟨none,none,none,rfl,Same.refl _⟩ (fun i σ Hy _ h=>by obtain ⟨_,_,_,_,h⟩:=h;exact bR.of (h _ _ kN)) ?_ ?_⟩
 rotate_left
 ·rintro σ Hy ⟨u6,u7,u8,rfl,_⟩;exact kk Hy
 rintro i v σ Hy hv ⟨u6,u7,u8,rfl,sy⟩;rw [jQ] at hv;obtain ⟨now,_,rfl⟩:=A0t.mp hv;have s5y:=s5N.trans sy;refine ⟨_,rfl,rp,_,_,_,rfl,rfl,bZ.of (pl5.same s5y).r,aJ (j:=2) rfl,_,rfl,_,rfl,R,now,all,rowAt H3,fQ,iY,ls,rfl,s5y _ _ hR5,by lia,qe RO5 s5y,RW,fun D HD sD pP hD=>?_⟩;have s5D:=s5y.trans sD;refine ⟨D,wd,all.filter fun a=>decide (fQ a<=now),rowAt H3,fQ,iY,ls,rfl,pl.w1,pl.w2,bR.of hD,A0M (A0J _ _) 0x3,Zr (qe RO5 s5D),fun x hx=>RW x (A0q.mp hx).1,hls,fun T wl q' W' ts' out' ws' b0 HB sB hT V4 fresh ap' Bk' Bx' Pu' fr' JB pm' up' J'=>⟨T,_,_,_,rfl,rfl,bZ.of hT,aJ (j:=0) rfl,?_⟩⟩;have al:=CN (fun x hx=>(RO5.1 x hx).2) RW hls pl.w1 pl.w2 pm pm' up up' J J';have s5B:=s5D.trans sB;have sNB:=sy.trans (sD.trans sB);have plB:=pl5.same s5B;refine ⟨_,rfl,rp,_,_,_,rfl,rfl,bZ.of plB.r,aJ (j:=0) rfl,small 0xA,fun e4 he4=>?_⟩;have se4:=aO he4 (.lst [V.str ""]);refine ⟨m,e4,_,_,rfl,rfl,se4 _ _ plB.m,ao,(by rw [cg,A0r];exact small (by rw [plB.lm];decide)),fun e5 he5=>?_⟩;have em:ms.map V.str++[V.str ""]=(ms++[("" : Str)]).map V.str:=by rw [iZ];rfl
 rw [em];have se5:=se4.trans (aO he5 (.lst ((ms++[("" : Str)]).map V.str)));have k5:(upd (upd HB e4 (.lst [V.str ""])) e5 (.lst ((ms++[("" : Str)]).map V.str))) e5=some (.lst ((ms++[("" : Str)]).map V.str)):=ao;generalize upd (upd HB e4 (.lst [V.str ""])) e5 (.lst ((ms++[("" : Str)]).map V.str))=HE at se5 k5 ⊢;refine ⟨e5,rfl,⟨_,bR.of k5⟩,dX (K:=K) (a:=e5) (xs:=(ms++[("" : Str)]).map V.str) (fun j σ Hz=>∃ (u8:Option V),σ=[some (.ref a),some (.ref r),some (.ref rp),some (.ref R),some (.ref c),some (.int day),some (.int now),some (.ref q'.B),u8]/\Same HE Hz)
  ⟨_,rfl,Same.refl _⟩ (fun j σ Hz _ h=>by obtain ⟨_,_,h⟩:=h;exact bR.of (h _ _ k5)) ?_ ?_⟩
 ·rintro j v σ Hz hv ⟨u8,rfl,sz⟩;rw [jQ] at hv;obtain ⟨man,_,rfl⟩:=A0t.mp hv;obtain ⟨al1,al2⟩:=al man;have sEz:=se5.trans sz;have ctz:=ct5.same (s5B.trans sEz);have bz:=Bk'.same sEz;have xz:=Bx'.same sEz;have gl:=ctz.P.gl;refine ⟨_,rfl,c,dc,_,rfl,ctz.o,rfl,_,rfl,_,rfl,c,dc,jl,ll,z,q,W,wd,b,now,man,rfl,ctz.o,ctz.R,by lia,fun HL sL=>?_⟩;have bL:=bz.same sL;have xL:=xz.same sL;refine ⟨_,rfl,q'.B,_,rfl,iM bL.b xL.vg,q'.lg,rfl,.inl ⟨_,.inl xL.g⟩,_,rfl,_,dj.k (k:=.inr man) xL.g,?_⟩;rw [Uj,Vi,al1];refine ⟨_,_,rfl,.inl ⟨rfl,RK _⟩,fun HM sM=>⟨_,rfl,cA ?_⟩⟩;have ctm:=ctz.same (sL.trans sM);have bM:=bL.same sM;have xM:=xL.same sM;refine ⟨_,rfl,c,dc,_,rfl,ctm.o,rfl,_,rfl,_,rfl,c,dc,jl,ll,z,q,W,wd,b,now,man,rfl,ctm.o,ctm.R,?_⟩;refine ⟨_,rfl,_,rfl,q'.B,_,rfl,iM bM.b bM.vx,q'.dd,_,rfl,.inl (bR.of xM.x),rfl,gY _,?_⟩;rw [A0f A0p,lO,al2];exact ⟨_,_,rfl,.inl ⟨rfl,rfl⟩,fun HO' sO=>⟨_,rfl,cA ⟨_,rfl,sz.trans (sL.trans (sM.trans sO))⟩⟩⟩
 ·rintro σ Hz ⟨u8,rfl,sz⟩;exact ⟨_,_,_,rfl,sNB.trans (se5.trans sz)⟩
end
def Bnd (x q:Str) (st:Stmt) (ps:List Str):Prop:=∀ (kV doc pm:Value) (an:Option Addr) (cdv ct:Value) (us:List Value),us.length=ps.length->bindArgs (PySem.W.fnOf x q (lE st) (iw st) (aH st) .none kV doc pm an cdv ct) ⟨us,[]⟩=pure (ps.zip us)
def Dq (K:PySem.W.Frag) (x q:Str) (st:Stmt) (f:Addr):Prop:=∃ oc od kV dc pm an cd ct sl,K.lookup f=some ⟨oc,od,.func (PySem.W.fnOf x q (lE st) (iw st) (aH st) .none kV dc pm an cd ct),sl⟩/\PySem.W.codeIn K cd q=true/\PySem.W.keepIn K (.ref f)=true
def Df (K:PySem.W.Frag):List (Str×Stmt×List Str×Addr)->Prop
 | []=>True
 | (x,st,ps,f)::r=>(PySem.W.nsIn K mainGlobals x=some (some (.ref f))/\Dq K x x st f/\Bnd x x st ps)/\Df K r
def Mf (K:PySem.W.Frag) (C:Addr) (c:Str):List (Str×Stmt×List Str×Addr)->Prop
 | []=>True
 | (x,st,ps,f)::r=>(PySem.W.findIn K (.ref C) x=some (some (.ref f))/\PySem.W.isFn K (.ref f)=true/\Dq K x (c++x) st f/\Bnd x (c++x) st ps)/\Mf K C c r
def Na (K:PySem.W.Frag) (C:Addr):List Str->Prop
 | []=>True
 | x::r=>PySem.W.findIn K (.ref C) x=some none/\Na K C r
def Nn (K:PySem.W.Frag):List Str->Prop
 | []=>True
 | x::r=>PySem.W.nsIn K mainGlobals x=some none/\Nn K r
def Nz (mg:Str->Option Value):List Str->Prop
 | []=>True
 | x::r=>mg x=none/\Nz mg r
def Qn (K:PySem.W.Frag):List (Str×Value)->Prop
 | []=>True
 | (x,v)::r=>PySem.W.nsIn K mainGlobals x=some (some v)/\Qn K r
def Qm (mg:Str->Option Value):List (Str×Value)->Prop
 | []=>True
 | (x,v)::r=>mg x=some v/\Qm mg r
theorem on0 {P:List Value->Prop} (h:P []):∀ us:List Value,us.length=0->P us
 | [],_=>h
theorem onS {P:List Value->Prop} (h:∀ (a:Value) (us:List Value),us.length=n->P (a::us)):∀ us:List Value,us.length=n+1->P us
 | a::us,e=>h a us (Nat.succ.inj e)
theorem RN {d:Option Addr}{it:Array Value}{ss:Array (Option Value)} (h:K.lookup a=some ⟨.type "tuple",d,.seq it n,ss⟩) (hs:it.size<=sizeLine) (hv:Vals xs it.toList):KTp K a xs:=⟨_,it,n,h,rfl,rfl,hs,hv⟩
section
variable {x:Str}
theorem dq_f (h:Dq K x q st f):∃ fd,fu K x q st f fd/\PySem.W.keepIn K (.ref f)=true:=by
 obtain ⟨oc,od,kV,dc,pm,an,cd,ct,sl,L,c,k⟩:=h;exact ⟨_,Mx L c k,k⟩
theorem lA (X:K.In h) (G:h.Ns mainGlobals mg) (a:PySem.W.nsIn K mainGlobals x=some (some (.ref f))/\Dq K x x st f/\Bnd x x st ps):∃ d,fu K x x st f d/\Ms K mg x f d ps:=by
 obtain ⟨a,l,b⟩:=a;obtain ⟨d,F,k⟩:=dq_f l;exact ⟨d,F,F.binds b,k,PySem.W.mg_of X G a⟩
theorem rC (a:PySem.W.findIn K (.ref C) x=some (some (.ref f))/\PySem.W.isFn K (.ref f)=true/\Dq K x q st f/\Bnd x q st ps):∃ d,fu K x q st f d/\Meth K C x f/\Binds K d ps []:=by
 obtain ⟨a,i,l,b⟩:=a;obtain ⟨d,F,k⟩:=dq_f l;exact ⟨d,F,⟨a,i,k⟩,F.binds b⟩
theorem Nn.m (X:K.In h) (G:h.Ns mainGlobals mg):∀ {l:List Str},Nn K l->Nz mg l
 | [],_=>True.intro
 | _::_,⟨a,b⟩=>⟨PySem.W.mg_none_of X G a,Nn.m X G b⟩
theorem Qn.m (X:K.In h) (G:h.Ns mainGlobals mg):∀ {l:List (Str×Value)},Qn K l->Qm mg l
 | [],_=>True.intro
 | (_,_)::_,⟨a,b⟩=>⟨PySem.W.mg_of X G a,Qn.m X G b⟩
end
theorem all_mk {l:PySem.W.OpenLaw}{fa f1 f2 f3 f4 f5 f6 f7 f8 f9 S6 f11 f12 f13 f14 f15 f16 f17 f18 f19 f20 f21 f22 f23 f24 f25 f26 f27 f28 f29 f30 f31 f32 f33 f34 f35 f36 f37 f38 f39 f40 f41 f_I f_Th f_Ho f_Lo f_Ow f_He f_Un f_Gr f_Co f_Fa f_Ck f_Ad f_Sa f_Tw f_KI f_KH f_KX f_KT f_KD f_RI f_CI f_Ed f_Vs f_Vd f_Lg f_Dd CR aF aB aW aD b1_ b2_ b3_ b4_ b5_ b6_ b7_ uw1 uw3 ud1 ud2 ud4 z1_ z2_ z3_ z4_ z5_ z6_ z7_:Addr}{tC:Tok}{esaB esaF esaW esaD:Array DictEntry}{naB naF naW naD:Nat}{Zv Zw:Array Value}{nb2_ nb4_:Nat}{db2_ db4_:Option Addr}{sb2_ sb4_:Array (Option Value)} (X:K.In h) (G:h.Ns mainGlobals mg) (hfa:mg "law"=some (.ref fa))
  (A:Df K (("fits",Ib,["sort", "piece"],f1)::("check_acres",Ye,["acres"],f2)::("judged_order",yR,["rows"],f3)::("place_in_order",Fj,["row"],f4)::("judge",uH,A4O,f5)::("word_of_new",sWN,A4O,f6)::("word_of_living",sWL,A4O,f7)::("do_grant",sDG,A4O,f8)::("do_heir",sDH,A4O,f9)::("do_death",sDD,A4O,S6)::("word_of_liege",YL,A4O,f11)::("is_bound",YM,["ground", "man", "lord"],f12)::("do_liege",YQ,A4O,f13)::("check_land",z9,["acres", "bears"],f14)::("by_days",yZ,["rows"],f15)::("_law_feed",O4,["_law_script", "_law_many"],f16)::("_law_same",Bj,A4V,f17)::("_law_names",zp,["_law_d", "_law_many"],f18)::("_law_book",Bl,["_law_acres"],f19)::("_law_under",U5,A4R,f20)::("_law_held",U6,A4N,f21)::("_law_bound_to",U7,A4N,f22)::("_law_why",Zc,A4P,f23)::("_law_fall",Yu,A4R,f24)::("_law_new",sNew,A4U,f25)::("_law_taker",zj,A4N,f26)::("_law_do",sDo,A4P,f27)::("_law_word",FT,A4P,f28)::("_law_kinds",Fl,[],f29)::("_law_sorted",yS,["_law_rows_here"],f30)::("_law_ahead",Fp,A5h,f31)::("_law_books",zm,A5f,f32)::("_law_until",Vh,A5g,f33)::("_law_pools",Ge,["_law_feed_here"],f34)::("_law_lord_for",sLf,A5a,f35)::("_law_row",V8,A4Z,f36)::("_law_rows",Gh,A4T,f37)::("_law_mixed",Fq,A5k,f38)::("_law_court",zA,A4W,f39)::("_law_judged_right",Vc,A5b,f40)::("law",Gk,["_law_script"],f41)::[]))
  (B0:Mf K C "Land." (("__init__",Nt,A5d,f_I)::("there",DW,A4M,f_Th)::("holder",yc,A4M,f_Ho)::("lord",Nu,A4M,f_Lo)::("own",Y6,A4M,f_Ow)::("held",Ia,A4Q,f_He)::("under",yd,A4M,f_Un)::("grant",DX,A4Y,f_Gr)::("convey",yg,["self", "estate", "man"],f_Co)::("fall_back",Nv,A4M,f_Fa)::("check_there",Ea,A4M,f_Ck)::("add_estate",Y7,A4X,f_Ad)::("same",DY,["self", "other"],f_Sa)::("twin",Nx,["self"],f_Tw)::[]))
  (B1:Mf K CK "Kin." (("__init__",Pq,["self"],f_KI)::("name_heir",Et,["self", "man", "heir"],f_KH)::("die",YB,A4Q,f_KX)::("taker",Eu,A4Q,f_KT)::("is_dead",yK,A4Q,f_KD)::[]))
  (B2:Mf K CR "Realm." (("__init__",yN,A5d,f_RI)::[]))
  (B3:Mf K CC "Court." (("__init__",zc,A5i,f_CI)::("end_day",z7,["self", "day"],f_Ed)::("verdicts",Fz,["self"],f_Vs)::("verdict",QL,["self", "row"],f_Vd)::("liege",Gj,A5c,f_Lg)::("dead",zF,A5c,f_Dd)::[]))
  (cC:Cls K C/\PySem.W.makesIn K C=true/\PySem.W.keepIn K (.ref C)=true/\Na K C ["lord_of", "holder_of", "own_of", "service_of", "breadth_of"])
  (cCK:Cls K CK/\PySem.W.makesIn K CK=true/\PySem.W.keepIn K (.ref CK)=true/\Na K CK ["heir_of", "gone"])
  (cCR:Cls K CR/\PySem.W.makesIn K CR=true/\PySem.W.keepIn K (.ref CR)=true/\Na K CR ["ground", "kin", "used", "lieges", "deaths"])
  (cCC:Cls K CC/\PySem.W.makesIn K CC=true/\PySem.W.keepIn K (.ref CC)=true/\Na K CC ["many_acres", "coins", "realm", "judged", "lands"])
  (Z:Nn K ["isinstance", "bool", "int", "str", "list", "tuple", "len", "all", "zip", "range", "sorted", "max", "min", "dict"])
  (Q:Qn K (("CROWN",.str "" tC)::("STANDS",.str "stands" tS)::("BOUNDS",.ref aB)::("FORMS",.ref aF)::("WORDS",.ref aW)::("DEEDS",.ref aD)::("Land",.ref C)::("Kin",.ref CK)::("Realm",.ref CR)::("Court",.ref CC)::[]))
  (kaB:K.lookup aB=some ⟨.type "dict",none,.dict esaB naB,#[]⟩)
  (eaB:gG w.params esaB.toList [("day",.ref b1_),("acres",.ref b2_),("service",.ref b3_),("bears",.ref b4_),("edge",.ref b5_),("number",.ref b6_),("entry",.ref b7_)])
  (laB:(aB==sysModules)=false)
  (kaF:K.lookup aF=some ⟨.type "dict",none,.dict esaF naF,#[]⟩)
  (eaF:gG w.params esaF.toList [("heir",.ref z1_),("grant",.ref z2_),("part",.ref z3_),("convey",.ref z4_),("liege",.ref z5_),("surrender",.ref z6_),("death",.ref z7_)])
  (laF:(aF==sysModules)=false)
  (kaW:K.lookup aW=some ⟨.type "dict",none,.dict esaW naW,#[]⟩)
  (eaW:gG w.params esaW.toList [("heir",.ref f7),("grant",.ref f6),("part",.ref f6),("convey",.ref uw1),("liege",.ref f11),("surrender",.ref uw3),("death",.ref f7)])
  (laW:(aW==sysModules)=false)
  (kaD:K.lookup aD=some ⟨.type "dict",none,.dict esaD naD,#[]⟩)
  (eaD:gG w.params esaD.toList [("heir",.ref f9),("grant",.ref f8),("part",.ref ud1),("convey",.ref ud2),("liege",.ref f13),("surrender",.ref ud4),("death",.ref S6)])
  (laD:(aD==sysModules)=false)
  (tb2_:K.lookup b2_=some ⟨.type "tuple",db2_,.seq Zv nb2_,sb2_⟩)
  (zb2_:Zv.size<=sizeLine)
  (vb2_:Vals [.int 1,.int 9999] Zv.toList)
  (tb4_:K.lookup b4_=some ⟨.type "tuple",db4_,.seq Zw nb4_,sb4_⟩)
  (zb4_:Zw.size<=sizeLine)
  (vb4_:Vals [.int 0,.int 99] Zw.toList) :
  ∃ fd:FuncData,(∀ (s:Shared) (v:Value),BindsTo s fd ⟨[v],[]⟩ [("_law_script",v)])/\∀ base:Heap,K.In base->base.Ns mainGlobals mg->aL l.prog w K mg base bO 10 fa fd ["_law_script"] (CP K):=by
 obtain ⟨h1,h2,h3,h4,h5,h6,h7,h8,h9,h10,h11,h12,h13,h14,h15,Wz,h17,h18,h19,h20,h21,h22,h23,h24,h25,h26,h27,h28,h29,h30,h31,h32,h33,h34,h35,h36,h37,h38,h39,h40,h41,_⟩:=A;obtain ⟨x0,⟨oc,od,kV,dc,pm,an,cd,ct,sl,L,c,kp⟩,_⟩:=h41;cases hfa.symm.trans (PySem.W.mg_of X G x0);have F41:=Mx (st:=Gk) L c kp;refine ⟨PySem.W.fnOf "law" "law" (lE Gk) (iw Gk) (aH Gk) .none kV dc pm an cd ct,fun s v=>.of_eq rfl,fun base _ _=>?_⟩;obtain ⟨_,F1,M1⟩:=lA X G h1;obtain ⟨_,F2,M2⟩:=lA X G h2;obtain ⟨_,F3,M3⟩:=lA X G h3;obtain ⟨_,F4,M4⟩:=lA X G h4;obtain ⟨_,F5,M5⟩:=lA X G h5;obtain ⟨_,F6,M6⟩:=lA X G h6;obtain ⟨_,F7,M7⟩:=lA X G h7;obtain ⟨_,F8,M8⟩:=lA X G h8;obtain ⟨_,F9,M9⟩:=lA X G h9;obtain ⟨_,F10,M10⟩:=lA X G h10;obtain ⟨_,F11,M11⟩:=lA X G h11;obtain ⟨_,F12,M12⟩:=lA X G h12;obtain ⟨_,F13,M13⟩:=lA X G h13;obtain ⟨_,F14,M14⟩:=lA X G h14;obtain ⟨_,F15,M15⟩:=lA X G h15;obtain ⟨_,F16,M16⟩:=lA X G Wz;obtain ⟨_,F17,M17⟩:=lA X G h17;obtain ⟨_,F18,M18⟩:=lA X G h18;obtain ⟨_,F19,M19⟩:=lA X G h19;obtain ⟨_,F20,M20⟩:=lA X G h20;obtain ⟨_,F21,M21⟩:=lA X G h21;obtain ⟨_,F22,M22⟩:=lA X G h22;obtain ⟨_,F23,M23⟩:=lA X G h23;obtain ⟨_,F24,M24⟩:=lA X G h24;obtain ⟨_,F25,M25⟩:=lA X G h25;obtain ⟨_,F26,M26⟩:=lA X G h26;obtain ⟨_,F27,M27⟩:=lA X G h27;obtain ⟨_,F28,M28⟩:=lA X G h28;obtain ⟨_,F29,M29⟩:=lA X G h29;obtain ⟨_,F30,M30⟩:=lA X G h30;obtain ⟨_,F31,M31⟩:=lA X G h31;obtain ⟨_,F32,M32⟩:=lA X G h32;obtain ⟨_,F33,M33⟩:=lA X G h33;obtain ⟨_,F34,M34⟩:=lA X G h34;obtain ⟨_,F35,M35⟩:=lA X G h35;obtain ⟨_,F36,M36⟩:=lA X G h36;obtain ⟨_,F37,M37⟩:=lA X G h37;obtain ⟨_,F38,M38⟩:=lA X G h38;obtain ⟨_,F39,M39⟩:=lA X G h39;obtain ⟨_,F40,M40⟩:=lA X G h40;obtain ⟨xI,xTh,xHo,xLo,xOw,xHe,xUn,rG,xCo,xFa,xCk,xAd,xSa,xTw,_⟩:=B0;obtain ⟨_,F_I,m_I,b_I⟩:=rC xI;obtain ⟨_,F_Th,m_Th,b_Th⟩:=rC xTh;obtain ⟨_,F_Ho,m_Ho,b_Ho⟩:=rC xHo;obtain ⟨_,F_Lo,m_Lo,b_Lo⟩:=rC xLo;obtain ⟨_,F_Ow,m_Ow,b_Ow⟩:=rC xOw;obtain ⟨_,F_He,m_He,b_He⟩:=rC xHe;obtain ⟨_,F_Un,m_Un,b_Un⟩:=rC xUn;obtain ⟨_,F_Gr,m_Gr,b_Gr⟩:=rC rG;obtain ⟨_,F_Co,m_Co,b_Co⟩:=rC xCo;obtain ⟨_,F_Fa,m_Fa,b_Fa⟩:=rC xFa;obtain ⟨_,F_Ck,Vj,Vk⟩:=rC xCk;obtain ⟨_,F_Ad,m_Ad,b_Ad⟩:=rC xAd;obtain ⟨_,F_Sa,m_Sa,b_Sa⟩:=rC xSa;obtain ⟨_,F_Tw,m_Tw,b_Tw⟩:=rC xTw;obtain ⟨xKI,xKH,xKX,xKT,xKD,_⟩:=B1;obtain ⟨_,F_KI,m_KI,b_KI⟩:=rC xKI;obtain ⟨_,F_KH,m_KH,b_KH⟩:=rC xKH;obtain ⟨_,F_KX,m_KX,b_KX⟩:=rC xKX;obtain ⟨_,F_KT,m_KT,b_KT⟩:=rC xKT;obtain ⟨_,F_KD,Vl,Vm⟩:=rC xKD;obtain ⟨xRI,_⟩:=B2;obtain ⟨_,F_RI,m_RI,b_RI⟩:=rC xRI;obtain ⟨xCI,xEd,xVs,xVd,xLg,xDd,_⟩:=B3;obtain ⟨_,F_CI,m_CI,b_CI⟩:=rC xCI;obtain ⟨_,F_Ed,m_Ed,b_Ed⟩:=rC xEd;obtain ⟨_,F_Vs,m_Vs,b_Vs⟩:=rC xVs;obtain ⟨_,F_Vd,m_Vd,b_Vd⟩:=rC xVd;obtain ⟨_,F_Lg,m_Lg,b_Lg⟩:=rC xLg;obtain ⟨_,F_Dd,m_Dd,b_Dd⟩:=rC xDd;obtain ⟨kC,mkC,kpC,aC1,aC2,aC3,aC4,aC5,_⟩:=cC;obtain ⟨kCK,mkCK,kpCK,aCK1,aCK2,_⟩:=cCK;obtain ⟨kCR,mkCR,kpCR,aCR1,aCR2,aCR3,aCR4,aCR5,_⟩:=cCR;obtain ⟨kCC,mkCC,kpCC,aCC1,aCC2,aCC3,aCC4,aCC5,_⟩:=cCC;obtain ⟨zH,Zx,a1i,a1j,zJ,Vn,ql,a1k,a1l,zK,lq,WL,RP,Zy,_⟩:=Z.m X G;obtain ⟨zL,qm,CT,Vo,Vp,Vq,RQ,a1m,Vr,Vs,_⟩:=Q.m X G;have ms:MgS mg:=⟨zH,Zx,a1i,a1j,zJ,Vn,ql,a1k,a1l⟩;have T:gq K C:=⟨kC,aC1,aC2,aC3,aC4,aC5⟩;have TK:uE K CK:=⟨kCK,aCK1,aCK2⟩;have TR:iW K CR:=⟨kCR,aCR1,aCR2,aCR3,aCR4,aCR5⟩;have TC:lM K CC:=⟨kCC,aCC1,aCC2,aCC3,aCC4,aCC5⟩;have mo:Tz K w.params mg:=⟨⟨aB,b1_,b2_,b3_,b4_,b5_,b6_,b7_,CT,⟨⟨_,_,kaB,eaB⟩,laB⟩,RN tb2_ zb2_ vb2_⟩,⟨tC,zL⟩⟩;have mb:ModB K w.params mg:=⟨⟨aB,b1_,b2_,b3_,b4_,b5_,b6_,b7_,CT,⟨⟨_,_,kaB,eaB⟩,laB⟩,RN tb4_ zb4_ vb4_⟩⟩;have fo:Forms K w.params mg:=⟨aF,_,Vo,⟨⟨_,_,kaF,eaF⟩,laF⟩,rfl⟩;have TB:Tabs K w.params mg f6 f7 f11 f8 f9 S6 f13:=⟨⟨aW,f6,uw1,uw3,Vp,⟨⟨_,_,kaW,eaW⟩,laW⟩⟩,⟨aD,ud1,ud2,ud4,Vq,⟨⟨_,_,kaD,eaD⟩,laD⟩⟩⟩;have G1:=0o7 TF F1 mo;have GfB:=0o7 QM F1 mb;have G2:=0o7 Yh F2 G1 M1;have G14:=0o7 KN F14 G2 M2 GfB M1;have G_I:=0o7 TJ T F_I mo G2 M2;have G_Th:=0o7 NP T F_Th;have Vt:=0o7 JQ T F_Ck G_Th m_Th b_Th;have G_Ho:=0o7 JR T F_Ho Vt Vj Vk;have G_Lo:=0o7 Tn T F_Lo Vt Vj Vk;have G_Ow:=0o7 Y9 T F_Ow Vt Vj Vk;have G_He:=0o7 Tp T lq F_He;have G_Un:=0o7 O1 T lq F_Un Vt Vj Vk;have G_Ad:=0o7 Yb T F_Ad;have G_Co:=0o7 JT T F_Co
 have G_Gr:=0o7 O2 T F_Gr G_Ad m_Ad b_Ad;have G_Fa:=0o7 Tr T F_Fa G_Un m_Un b_Un;have G_Sa:=0o7 PJ T F_Sa;have G_Tw:=0o7 PL T F_Tw mo Zy G_I ⟨mkC,m_I.at_,m_I.fn,kpC⟩ RQ b_I;have G_KI:=0o7 Uq TK F_KI;have Vu:=0o7 Uc TK F_KD;have G_KH:=0o7 Ub TK zL F_KH;have G_KX:=0o7 YD TK zL F_KX;have G_KT:=0o7 Pz TK F_KT Vu Vl Vm;have G_RI:=0o7 Ko T TR F_RI G_I ⟨mkC,m_I.at_,m_I.fn,kpC⟩ RQ b_I G_KI ⟨mkCK,m_KI.at_,m_KI.fn,kpCK⟩ a1m b_KI;have G6:=0o7 a0Q T TK TR F6 qm G_Th m_Th b_Th Vu Vl Vm G_Ow m_Ow b_Ow;have G7:=0o7 a0R (C:=C) TK TR F7 qm Vu Vl Vm;have G8:=0o7 a0T (CK:=CK) T TR F8 (aL.mono (k:=4) G_Gr 0x3) m_Gr b_Gr;have G9:=0o7 a0U (C:=C) TK TR F9 (aL.mono (k:=4) G_KH 0x3) m_KH b_KH;have G10:=0o7 a0V T TK TR F10 G_KX m_KX b_KX G_KT m_KT b_KT G_He m_He b_He G_Fa m_Fa b_Fa (aL.mono (k:=4) G_Co 0x3) m_Co b_Co;have G12:=0o7 YX T F12 G_He m_He b_He G_Ho m_Ho b_Ho G_Lo m_Lo b_Lo;have G11:=0o7 YZ TK T TR F11 qm G12 M12 Vu Vl Vm;have G13:=0o7 a0X (CK:=CK) (C:=C) TR F13;have G5:=0o7 Qc F5 qm TB G6 M6 G7 M7 G11 M11 G8 M8 G9 M9 G10 M10 G13 M13;have G4:=0o7 Qi F4 fo zJ;have G3:=0o7 Ku F3 lq G4 M4;have G15:=0o7 Ky F15 G3 M3;have G_Ed:=0o7 KH (CK:=CK) TC TR T F_Ed G_Tw m_Tw b_Tw G_Sa m_Sa b_Sa;have G_CI:=0o7 KJ TC TR T F_CI G14 M14 G_RI ⟨mkCR,m_RI.at_,m_RI.fn,kpCR⟩ Vr b_RI G_Tw m_Tw b_Tw G15 M15 G5 M5 G_Ed m_Ed b_Ed;have G_Vs:=0o7 QD TC F_Vs zJ;have G_Vd:=0o7 V1 TC F_Vd;have G_Lg:=0o7 Vg (CK:=CK) (C:=C) TC TR F_Lg;have G_Dd:=0o7 KZ (CK:=CK) (C:=C) TC TR F_Dd;have G16:=0o7 Tt F16 zK ql;have G17:=0o7 yu F17 ms M17 1;have Gs4:=0o7 yu F17 ms M17 4;have G18:=0o7 R9 F18 ql zK;have G19:=0o7 TX F19;have G20:=0o7 Yr lq F20;have G21:=0o7 Ys lq F21;have G22:=0o7 Yt F22 G21 M21;have G23:=0o7 Zd F23 G22 M22;have G33:=0o7 Zt F33;have G24:=0o7 a0O F24 G20 M20;have G25:=0o7 Yw F25;have G26:=0o7 a00 F26;have G27:=0o7 a01 F27 G25 M25 G26 M26 G21 M21 G24 M24;have G28:=0o7 QZ F28 G23 M23 G27 M27;have G29:=0o7 Qh F29;have G31:=0o7 Qq F31 G29 M29;have G30:=0o7 Kw F30 ql G31 M31;have G32:=0o7 KQ F32 G19 M19 G30 M30 G28 M28;have G34:=0o7 Ra F34 G18 M18;have G35:=0o7 a06 F35 ql G22 M22;have G36:=0o7 Zm F36 lq zJ ql WL RP G35 M35;have G37:=0o7 Rp F37 zK ql RP G19 M19 G36 M36 G28 M28;have G38:=0o7 Qw F38 ql;have G39:=0o7 KY F39 G_CI ⟨mkCC,m_CI.at_,m_CI.fn,kpCC⟩ Vs b_CI G38 M38;have G40:=0o7 Zq TC F40 ms G32 M32 G_Vs m_Vs b_Vs Gs4 M17 G_Vd m_Vd b_Vd;exact Zu TC F41 ql WL RP G16 M16 G34 M34 G37 M37 G39 M39 G40 M40 G_Lg m_Lg b_Lg G_Dd m_Dd b_Dd G32 M32 G33 M33 G17 M17
theorem walk {l:PySem.W.OpenLaw}{q:Program}{d:DefRec}{K:Params->PySem.W.Frag} (hn:l.most=some 63) (hdf:d.params.defaults=[])
  (hY:∀ (w:World) (h:Heap),YP w h->(K w.params).In h)
  (F:∀ (w:World) (mg:Str->Option Value) (fa:Addr) (h:Heap),(K w.params).In h->h.Ns mainGlobals mg->mg d.name=some (.ref fa) ->
   ∃ fd:FuncData,(∀ (s:Shared) (u:Value),BindsTo s fd ⟨[u],[]⟩ [("_law_script",u)])/\∀ base:Heap,(K w.params).In base->base.Ns mainGlobals mg->aL l.prog w (K w.params) mg base bO 10 fa fd ["_law_script"] (CP (K w.params))) :
  PySem.W.WalkO q loose XP YP l.row.toRowW d [] (fun f vs=>PySem.call f vs) :=
 L2.SQ (n:=63) (k:=10) (x:="_law_script") (CX:=fun _=>bO) (sp:=fun w=>CP (K w.params)) hn 0x6 hdf ⟨rfl,by decide,by decide⟩ hY F (fun _ _ a ns hl _ hS=>⟨a,ns,rfl,hS,hl,fun _=>rfl⟩) fun _ _ _ _ _ z=>z
end M
namespace PySem.W.Fast
def tw14583265268807156390:=0
def tw961550655158975683:=0
def tw3798156776229228568:=0
def tw7796382324141375938:=0
def tw2172666884277372694:=0
def tw10136725274162818953:=0
def tw13199263872468781947:=0
def tw6725004551378814684:=0
def tw17574686326579115709:=0
def tw4660206937482512039:=0
def tw10463652274089424734:=0
def tw10874679053741691566:=0
def tw4683387725608804397:=0
def tw11669942506045735873:=0
def tw18412871938767931608:=0
def tw1930494613023972327:=0
def tw216021561886209815:=0
def tw16072270505568609857:=0
def tw4517577653475013139:=0
def tw2148002206533085854:=0
def tw16845634544819357807:=0
def tw15887959535394612868:=0
def tw9698325760412652425:=0
def tw1010604911508514202:=0
def tw12927653219235772725:=0
def tw4204217707329092339:=0
def tw12059681278471765507:=0
def tw1999724451646923052:=0
def tw10074814753587744073:=0
def tw6087097933699371092:=0
def tw18250782935849290755:=0
def tw870488222923487111:=0
def tw555925250317875250:=0
def tw383528196387322916:=0
def tw17895596251181479245:=0
def tw1445483958566154578:=0
def tw8396726784927288392:=0
def tw12140575696878313657:=0
def tw14140272672139978999:=0
def tw13799926490607795245:=0
def tw5530440623289227760:=0
def tw4012901358620035842:=0
def tw3741330061859720498:=0
def tw1267323887296228088:=0
def tw6346267729227843727:=0
def tw10602907460686217610:=0
def tw12925508895315196253:=0
def tw8903895087503261996:=0
def tw16341354459744385739:=0
def tw5119878988495453610:=0
def tw12699225664272344736:=0
def tw1910848015963467295:=0
def tw9330315602367020496:=0
def tw12425383568143536268:=0
def tw262995461472645245:=0
def tw8669286640186251456:=0
def tw12127679226381718003:=0
def tw11379674027002441413:=0
def tw18364886158566043980:=0
def tw18426409722471047781:=0
def tw7617327467896654476:=0
def tw8180404188772604699:=0
def tw2299482456770929240:=0
def tw1366362492486972993:=0
def tw17316700834875469813:=0
def tw1919755839411123110:=0
def tw5622667171154945188:=0
def tw11560661693993349109:=0
def tw774846767860753753:=0
def tw11634997461531555631:=0
def tw7530202303906020398:=0
def tw13420131349643003507:=0
def tw1143053036297714698:=0
def tw8011143068432950923:=0
def tw9631483279810146254:=0
def tw9048273012217733811:=0
def tw1205497279336666294:=0
def tw9617104817170701935:=0
def tw15880215880988162455:=0
def tw11291053653666650133:=0
def tw626953266955528169:=0
def tw11450243289931724587:=0
def tw6863629230088844739:=0
def tw4095857491797204095:=0
def tw14416602388639610929:=0
def tw11834443918721546623:=0
def tw5302255161872764829:=0
def tw2782669788841688734:=0
def tw15077136992934066022:=0
def tw14465272850479129530:=0
def tw2714210095724096216:=0
def tw18231644611796294992:=0
def tw1841633243101974301:=0
def tw6706504927851748521:=0
def tw1349028729331379356:=0
def tw2414214319568161484:=0
def tw16740116400552429733:=0
def tw6648072429191464397:=0
def tw16708504991680479850:=0
def tw7653225640840468789:=0
def tw15023370345131918665:=0
def tw1285183410109217313:=0
def tw14916308776502499292:=0
def tw4205698706816042227:=0
def tw8353891332748212086:=0
def tw2181275302906458344:=0
def tw15022859650846127953:=0
def tw12132886872732714892:=0
def tw7434036464513067918:=0
def tw11319107674490658784:=0
def tw9356599209446423991:=0
def tw1793856066492772950:=0
def tw9379312943821852056:=0
def tw3562735428705127944:=0
def tw4856691431067171934:=0
def tw17155539042841578442:=0
def tw2385810868068474433:=0
def tw4312285330021095270:=0
def tw15400492351089962276:=0
def tw18037289229969678712:=0
def tw17585683646974863148:=0
def tw17138485279822046976:=0
def tw12128443100532240651:=0
def tw2467788170586176018:=0
def tw8872706488833337018:=0
def tw10398077108324546308:=0
def tw14945330078276188180:=0
def tw10147426861338187910:=0
def tw2744273913091696748:=0
def tw2226259747259620311:=0
def tw12752419892874231059:=0
def tw1355588933933187146:=0
def tw16920586676502807270:=0
def tw1533854560820400346:=0
def tw5068860458875566253:=0
def tw153742202212094891:=0
def tw3183900522252124918:=0
def tw5073154750806316606:=0
def tw15154812889558795623:=0
def tw7945317782693409335:=0
def tw7159733610119675383:=0
def tw8778473625271769941:=0
def tw17440081663597003164:=0
def tw9783798529051216640:=0
def tw4013029665016888877:=0
def tw16380398102060682718:=0
def tw3535933173175766879:=0
def tw503514290158521525:=0
def tw9923264978106574578:=0
def tw5001374298355359955:=0
def tw14681915024731688476:=0
def tw4769228683016214576:=0
def tw798305894137174864:=0
def tw16313846456352539166:=0
def tw18335126241395543409:=0
def tw10557259370208586605:=0
def tw2361595439316850674:=0
def tw989443299021624776:=0
def tw17668624597776144496:=0
def tw10252600913277820152:=0
def tw8636540451437354456:=0
def tw14045554536684905533:=0
def tw2994571980085616300:=0
def tw17335446930245321830:=0
def tw9882869814062368234:=0
def tw15932396606336128513:=0
def tw2008472561744224557:=0
def tw7955875084898985458:=0
def tw14130023442598196690:=0
def tw8304865000940305614:=0
def tw5389658120208602917:=0
def tw16884151786177918967:=0
def tw5635123708504476373:=0
def tw9886646350822088876:=0
def tw8984839695127057889:=0
def tw3752662684770633986:=0
def tw15756544919520886954:=0
def tw2521758878730690176:=0
def tw14303880062596514509:=0
def tw4452942010660861605:=0
def tw11197243672495970127:=0
def tw13444525475579806055:=0
def tw9758641340342560710:=0
def tw3921835504767328196:=0
def tw15707048815805151852:=0
def tw15405944902921002714:=0
def tw12788729545257735339:=0
def tw18394394863815174808:=0
def tw13869269049293558352:=0
def tw6809339478295470017:=0
def tw17167067367566107962:=0
def tw7536671238202758757:=0
def tw10454163816991867357:=0
def tw7554041582783474115:=0
def tw15251767736040513220:=0
def tw2755894517502012429:=0
def tw5928106605096218898:=0
def tw1731058978683735515:=0
def tw10822224250260819323:=0
def tw6999549138361875332:=0
def tw13519029213113659065:=0
def tw18125179418582389837:=0
def tw17824783759119709566:=0
def tw7803211389394018204:=0
def tw11123023975793826771:=0
def tw14579202819738835221:=0
def tw15545986480791068166:=0
def tw17015481327248528248:=0
def tw8313790160870855982:=0
def tw17598651586194434106:=0
def tw15787833809230498582:=0
def tw7559424422879974945:=0
def tw16702933611787442344:=0
def tw14415727905557318690:=0
def tw13731878657786721832:=0
def tw5821942402064046117:=0
def tw15373890339962535679:=0
def tw17360081038907564456:=0
def tw4319214246869726426:=0
def tw17709585682658532129:=0
def tw2006328345104916535:=0
def tw113639269517635768:=0
def tw5113535403989394285:=0
def tw10183202663511101401:=0
def tw7926169573409652253:=0
def tw10159190314182431921:=0
def tw13313955467956828062:=0
def tw16421774552332418700:=0
def tw16834304871352046689:=0
def tw8431587382377585988:=0
def tw7103307703548734263:=0
def tw10142285599385323817:=0
def tw8998918842409231279:=0
def tw10393727524151208244:=0
def tw10035715805360762879:=0
def tw3843609904811374633:=0
def tw4145928168237611014:=0
def tw16782209197531241830:=0
def tw16209494240479117836:=0
def tw6187597570974960748:=0
def tw4496789745586911823:=0
def tw4287546812892945871:=0
def tw3622557453468102644:=0
def tw3541886554051820574:=0
def tw14639893195371715992:=0
def tw3770759517378595152:=0
def tw188950753988396498:=0
def tw15615857502205149048:=0
def tw5306540204397772988:=0
def tw16938210621505942061:=0
def tw15610928999503056989:=0
def tw11875423530102819656:=0
def tw5552879361813628548:=0
def tw13081113449835952555:=0
def tw15435430985419916825:=0
def tw16458833964749429121:=0
def tw1301669956612669361:=0
def tw4715156033886215049:=0
def tw18411749303416474059:=0
def tw2408133843801014635:=0
def tw12111646905828561961:=0
def tw2588941518813085067:=0
def tw501455586728386374:=0
def tw4609463448550898992:=0
def tw14140254280589384027:=0
def tw8739159252761438003:=0
def tw13814767489521257904:=0
def tw8193805950211298245:=0
def tw7585185811001593411:=0
def tw6401496709721044737:=0
def tw1115577103932243559:=0
def tw9217733260579051916:=0
def tw14190480632299665545:=0
def tw16415491895431209965:=0
def tw4684750768862894313:=0
def tw14315535867537011445:=0
def tw15654270258870912397:=0
def tw9937064637615556901:=0
def tw8210648417289430663:=0
def tw7772912429667095313:=0
def tw10128026877162150935:=0
def tw3361228445274942854:=0
def tw6552464557259427420:=0
def tw13023921595826066365:=0
def tw1305839047226340981:=0
def tw1451819280017174591:=0
def tw7134764646529927465:=0
def tw12656960719184518568:=0
def tw2847843587447130744:=0
def tw12464628289869659066:=0
def tw12053800239997645351:=0
def tw6379012786210219431:=0
def tw6541111418519763986:=0
def tw11501155244943519669:=0
def tw7671572323808785116:=0
def tw16544816381412519335:=0
def tw6611075438074873750:=0
def tw16644283189252964635:=0
def tw5381923357110543204:=0
def tw9591722945865207278:=0
def tw1043240086506759050:=0
def tw16503234336600924316:=0
def tw1268258130635642986:=0
def tw4516553060895393235:=0
def tw15303315642568299474:=0
def tw14571033812836676918:=0
def tw2908247388500733831:=0
def tw14420653855971069631:=0
def tw14972726768481033858:=0
def tw12137441504831085182:=0
def tw17469282900322283220:=0
def tw3794647031551712986:=0
def tw11396125667750912591:=0
def tw15677802832433987308:=0
def tw5290834954933459704:=0
def tw2072390112377562464:=0
def tw12797572520506476983:=0
def tw17503656136705531415:=0
def tw7728190451125090221:=0
def tw10549346250489120836:=0
def tw14152960497788394932:=0
def tw8261845362824803025:=0
def tw9084031217018427977:=0
def tw12516890349807608009:=0
def tw632313434155492259:=0
def tw3647200411920546035:=0
def tw13735043322096461426:=0
def tw10183672719778546253:=0
def tw9902395506335068343:=0
def tw12972961785439217485:=0
def tw13216212433415566773:=0
def tw8446353476143572393:=0
def tw13867160651444940014:=0
def tw14117611695779521715:=0
def tw13811903278653193206:=0
def tw12750551084000163356:=0
def tw8033085432224600044:=0
def tw13258133682191876911:=0
def tw3609972494663340202:=0
def tw13102451796778260888:=0
def tw886249502539543154:=0
def tw16319254592620489578:=0
def tw5965971911993388647:=0
def tw14961972284270410317:=0
def tw4002698805829735709:=0
def tw10352726719525428890:=0
def tw14761042291406074433:=0
def tw9365728164295427906:=0
def tw8012391870640669067:=0
def tw3487776134904175220:=0
def tw1029085341307652832:=0
def tw316896889681188287:=0
def tw15037295415172837733:=0
def tw18172551226983381299:=0
def tw8466936183716327391:=0
def tw17738459010911448768:=0
def tw6172377312047073153:=0
def tw3126727121287116461:=0
def tw6708318131365697938:=0
def tw15998230909046183035:=0
def tw8905336027471737101:=0
def tw3091776801993425542:=0
def tw17884394525079729579:=0
def tw10144899435332171478:=0
def tw11546591753750383536:=0
def tw8376800287860092194:=0
def tw14872530574298605629:=0
def tw17142700766856850221:=0
def tw12229988397987823396:=0
def tw5438962214637448577:=0
def tw12140588923490258055:=0
def tw3300337736928630584:=0
def tw12286800560375484950:=0
def tw13330327019717937283:=0
def tw14403196309868440101:=0
def tw14756962210027979942:=0
def tw2079536456486731966:=0
def tw14565402657602338447:=0
def tw9953515523739651959:=0
def tw1205699817065106950:=0
def tw4208925540661606839:=0
def tw12961169183296634647:=0
def tw4998907766254193139:=0
def tw7811863698196031935:=0
def tw8251605046809157642:=0
def tw12304215637486807176:=0
def tw17591316876082614962:=0
def tw14329213387550541346:=0
def tw1663408451738801360:=0
def tw1468096131426359227:=0
def tw18282759302934597442:=0
def tw11563682600589115469:=0
def tw17286214998274681296:=0
def tw12876917353802706909:=0
def tw12048556960914810421:=0
def tw13338610391630956342:=0
def tw9177506584387473714:=0
def tw14561467806954098275:=0
def tw4701335917064061082:=0
def tw14425804917252425347:=0
end PySem.W.Fast
open PySem PySem.W PyProof.Rows
set_option maxRecDepth 100000 in
set_option maxHeartbeats 0 in
theorem PySem.Challenge.cw_manrent_k16_lieges_judged_holds : PySem.Challenge.rw_manrent_k16_lieges_judged.Holds := by
 w_on;o_law;k_head;(case hw=>w_witness2)
 k_fill
 refine M.walk (l:=PySem.Challenge.rw_manrent_k16_lieges_judged) rfl rfl (fun w h Y=>PySem.W.kIn_of Y) ?F
 case F =>
  intro w mg fa h KX G hmg
  refine' M.all_mk KX G hmg ?A ?B0 ?B1 ?B2 ?B3 ?cC ?cCK ?cCR ?cCC ?Z ?Q ?kaB ?eaB ?laB ?kaF ?eaF ?laF ?kaW ?eaW ?laW ?kaD ?eaD ?laD ?tb2_ ?zb2_ ?vb2_ ?tb4_ ?zb4_ ?vb4_
  (case Q=>(repeat refine ⟨by k_is,?_⟩);exact True.intro)
  (case A=>(repeat refine ⟨⟨by k_is,⟨_,_,_,_,_,_,_,_,_,by k_is,by k_is,by k_is⟩,fun _ _ _ _ _ _=>by (repeat refine M.onS fun _=>?_);exact M.on0 rfl⟩,?_⟩);exact True.intro)
  (case B0=>(repeat refine ⟨⟨by k_is,by k_is,⟨_,_,_,_,_,_,_,_,_,by k_is,by k_is,by k_is⟩,fun _ _ _ _ _ _=>by (repeat refine M.onS fun _=>?_);exact M.on0 rfl⟩,?_⟩);exact True.intro)
  (case B1=>(repeat refine ⟨⟨by k_is,by k_is,⟨_,_,_,_,_,_,_,_,_,by k_is,by k_is,by k_is⟩,fun _ _ _ _ _ _=>by (repeat refine M.onS fun _=>?_);exact M.on0 rfl⟩,?_⟩);exact True.intro)
  (case B2=>(repeat refine ⟨⟨by k_is,by k_is,⟨_,_,_,_,_,_,_,_,_,by k_is,by k_is,by k_is⟩,fun _ _ _ _ _ _=>by (repeat refine M.onS fun _=>?_);exact M.on0 rfl⟩,?_⟩);exact True.intro)
  (case B3=>(repeat refine ⟨⟨by k_is,by k_is,⟨_,_,_,_,_,_,_,_,_,by k_is,by k_is,by k_is⟩,fun _ _ _ _ _ _=>by (repeat refine M.onS fun _=>?_);exact M.on0 rfl⟩,?_⟩);exact True.intro)
  (case cC=>exact ⟨⟨by k_is,by k_is,by k_is,by k_is⟩,by k_is,by k_is,⟨by k_is,⟨by k_is,⟨by k_is,⟨by k_is,⟨by k_is,True.intro⟩⟩⟩⟩⟩⟩)
  (case cCK=>exact ⟨⟨by k_is,by k_is,by k_is,by k_is⟩,by k_is,by k_is,⟨by k_is,⟨by k_is,True.intro⟩⟩⟩)
  (case cCR=>exact ⟨⟨by k_is,by k_is,by k_is,by k_is⟩,by k_is,by k_is,⟨by k_is,⟨by k_is,⟨by k_is,⟨by k_is,⟨by k_is,True.intro⟩⟩⟩⟩⟩⟩)
  (case cCC=>exact ⟨⟨by k_is,by k_is,by k_is,by k_is⟩,by k_is,by k_is,⟨by k_is,⟨by k_is,⟨by k_is,⟨by k_is,⟨by k_is,True.intro⟩⟩⟩⟩⟩⟩)
  (case Z=>(repeat refine ⟨by k_is,?_⟩);exact True.intro)
  case kaB=>k_is
  (case eaB=>exact ⟨⟨⟨_,rfl⟩,rfl,rfl⟩,⟨⟨_,rfl⟩,rfl,rfl⟩,⟨⟨_,rfl⟩,rfl,rfl⟩,⟨⟨_,rfl⟩,rfl,rfl⟩,⟨⟨_,rfl⟩,rfl,rfl⟩,⟨⟨_,rfl⟩,rfl,rfl⟩,⟨⟨_,rfl⟩,rfl,rfl⟩,True.intro⟩)
  (case laB=>rfl)
  case kaF=>k_is
  (case eaF=>exact ⟨⟨⟨_,rfl⟩,rfl,rfl⟩,⟨⟨_,rfl⟩,rfl,rfl⟩,⟨⟨_,rfl⟩,rfl,rfl⟩,⟨⟨_,rfl⟩,rfl,rfl⟩,⟨⟨_,rfl⟩,rfl,rfl⟩,⟨⟨_,rfl⟩,rfl,rfl⟩,⟨⟨_,rfl⟩,rfl,rfl⟩,True.intro⟩)
  (case laF=>rfl)
  case kaW=>k_is
  (case eaW=>exact ⟨⟨⟨_,rfl⟩,rfl,rfl⟩,⟨⟨_,rfl⟩,rfl,rfl⟩,⟨⟨_,rfl⟩,rfl,rfl⟩,⟨⟨_,rfl⟩,rfl,rfl⟩,⟨⟨_,rfl⟩,rfl,rfl⟩,⟨⟨_,rfl⟩,rfl,rfl⟩,⟨⟨_,rfl⟩,rfl,rfl⟩,True.intro⟩)
  (case laW=>rfl)
  case kaD=>k_is
  (case eaD=>exact ⟨⟨⟨_,rfl⟩,rfl,rfl⟩,⟨⟨_,rfl⟩,rfl,rfl⟩,⟨⟨_,rfl⟩,rfl,rfl⟩,⟨⟨_,rfl⟩,rfl,rfl⟩,⟨⟨_,rfl⟩,rfl,rfl⟩,⟨⟨_,rfl⟩,rfl,rfl⟩,⟨⟨_,rfl⟩,rfl,rfl⟩,True.intro⟩)
  (case laD=>rfl)
  case tb2_=>k_is
  (case zb2_=>exact M.small (Nat.le_of_ble_eq_true rfl))
  (case vb2_=>exact .cons ⟨_,rfl⟩ (.cons ⟨_,rfl⟩ (.nil)))
  case tb4_=>k_is
  (case zb4_=>exact M.small (Nat.le_of_ble_eq_true rfl))
  (case vb4_=>exact .cons ⟨_,rfl⟩ (.cons ⟨_,rfl⟩ (.nil)))
