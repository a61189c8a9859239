import PyProof.Rows.All
import KE.RegKIsAll
import KE.RegKTryMore
import Wide.All
import OpenK.KLine
import OpenK.KWalk
import OpenK.KOwn
import Wide.FinOn
import PyProof.EqAt
import PyProof.EqKinds
import PyProof.TupleCall
import PyProof.P3Eq
import PyProof.NeData
import KE.KTryDeep
import KE.KTryMore
import KE.KIsAll
import PyProof.NsDelKeeps
import PyProof.ExcArgsOwn
import OpenK.KTop
import PyProof.ExcBaseAll.ValueError
import PyProof.EnumMake
import PyProof.Draws
import KE.KSetDisp
import PyProof.SetRoads
import PyProof.Rows.SortStr
import PyProof.Rows.SortWalk
import PyProof.DictItems
import PyProof.DictValues
import KE.KSortTup
import PyProof.SetKind
import KE.KDictList
import KE.KItemsList
import KE.KDictOf
import PyProof.Rows.SetFrom
import KE.KEqDict
import KE.KDictLaws
import PyProof.ListRange
import KE.KSortKey
import KE.KListMore
import PyProof.AutoListH
import PyProof.DictTruth
import PySem.Challenge.RW_manrent_k15_deaths_and_heirs_judged
set_option hygiene false
local macro_rules
|`(0x0)=>`(⟨rfl,rfl,rfl,by decide +kernel,rfl,by decide +kernel,by decide +kernel⟩)
|`(0x1)=>`(fun vs H Q E h=>by cases h;subst_vars;rfl)
|`(0x2)=>`(by lia)
|`(0x3)=>`(fun cdv A outer s H vs Q E hr h=>?_)
|`(0x4)=>`(fun _ _=>rfl)
|`(0x5)=>`(by decide)
|`(0x6)=>`(by intro z;cases z)
|`(0x7)=>`(Or.inl rfl)
|`(0x8)=>`(by decide +kernel)
|`(0x9)=>`(model X.prog X.w)
|`(0xA)=>`(by simp)
|`(0xB)=>`(⟨rfl,by decide +kernel,by decide +kernel,by decide +kernel,rfl,by decide +kernel⟩)
|`(0xC)=>`(model prog w)
|`(0xD)=>`(bA 0x32 rfl)
|`(0xE)=>`(es.filter fun y=>decide (y.n≠e0.n))
|`(0xF)=>`(pv 1)
|`(0x10)=>`(fun _=>rfl)
|`(0x11)=>`(by with_unfolding_all rfl)
|`(0x12)=>`(s.heap.objs.size+1)
|`(0x13)=>`(wpAny_pure ?_)
|`(0x14)=>`(.ref s.heap.objs.size)
|`(0x15)=>`(.dK kvs)
|`(0x16)=>`(Addr×Obj)
|`(0x17)=>`(u1 hr)
|`(0x18)=>`(Prod L2.Key V)
|`(0x19)=>`(aP bI 0xF aA 0x4)
|`(0x1A)=>`(bf 0x17 0x32 aK 0x4)
|`(0x1B)=>`(⟨_,rfl,r,_,_,_,rfl,rfl,cj.of hx,aL (j:=0) rfl,rfl,_,rfl,iZ 0x8 ?_⟩)
|`(0x1C)=>`(by intro q;cases q)
|`(0x1D)=>`(mod y.n (n6 m) es)
local macro_rules
|`(0x1E)=>`(Bl X (ts++fr) scope s H fp C)
|`(0x1F)=>`(cG e0.n p e0.own es)
|`(0x20)=>`(strKind prog w)
|`(0x21)=>`(fun _ z=>by cases z)
|`(0x22)=>`(bU 0x32 T.cl m1 G1 hr b1 .nil aX 0x38)
|`(0x23)=>`(.lst (ss.map V.str))
|`(0x24)=>`(eN items.size items.size hi - eN items.size 0 lo)
|`(0x25)=>`(p.toList.map fun i=>vs.getD i Value.none)
|`(0x26)=>`(.lst (all.map V.ref++[V.ref r]))
|`(0x27)=>`(all.map Value.ref)
|`(0x28)=>`(eG p1 p2 p3 p4 p5 ph pd p8)
|`(0x29)=>`(.inr n)
|`(0x2A)=>`(show false=true from hs)
|`(0x2B)=>`(pv 2)
|`(0x2C)=>`(Key×V)
|`(0x2D)=>`(A0f _)
|`(0x2E)=>`(all.map V.ref)
|`(0x2F)=>`(cR rfl mC ⟨_,rfl⟩ (v:=.str ""))
|`(0x30)=>`(x==("__debug__" : Str))
|`(0x31)=>`(.inr e)
|`(0x32)=>`(pv 0)
|`(0x33)=>`(aj 0x2B aC)
|`(0x34)=>`(aP bD 0x2B aA 0x4)
|`(0x35)=>`(.tup xs)
|`(0x36)=>`(bQ X.prog X.w)
|`(0x37)=>`(EP X pins σ Q)
|`(0x38)=>`(aj 0xF aC)
|`(0x39)=>`(.ref s2.heap.objs.size)
|`(0x3A)=>`((es.map (·.man)))
|`(0x3B)=>`(.ListComp elt [⟨tg,iter,ifs,0⟩] scope pos)
local macro_rules
|`(0x3C)=>`(.ref a)
|`(0x3D)=>`(I.hok.fresh 0x2D)
|`(0x3E)=>`((false,eval e X.env))
|`(0x3F)=>`(by simpa using c)
|`(0x40)=>`(.gH o 0x15)
|`(0x41)=>`(cB I q 0xA)
|`(0x42)=>`(ns.map V.int)
|`(0x43)=>`(stp y es t1 t2 b1 b2 cO)
|`(0x44)=>`(ks.map Value.ref)
|`(0x45)=>`(fun c=>?_)
|`(0x46)=>`(pickOrder (w.params.setOrder a ep) es)
|`(0x47)=>`(s.heap.push PySem.W.emptyDict)
|`(0x48)=>`(.ref p)
|`(0x49)=>`(.ref it)
|`(0x4A)=>`(.SetComp elt (⟨target,iter,ifs,0⟩::rest) scope pos)
|`(0x4B)=>`(aP bD 0x32 aA 0x4)
|`(0x4C)=>`(ha pins s σ H _ I h)
|`(0x4D)=>`(backTo pos (starEach es X.env))
|`(0x4E)=>`(.ref f)
|`(0x4F)=>`(.grant y.n n m a s)
|`(0x50)=>`(SetTable.grown es1.size)
|`(0x51)=>`(.inl rfl)
|`(0x52)=>`(kv f es)
|`(0x53)=>`(fun z=>nomatch z)
|`(0x54)=>`(backToKw pos (keywordEach kws env))
|`(0x55)=>`(nms es)
|`(0x56)=>`(("many_acres",.int n))
|`(0x57)=>`(by rw [e];exact True.intro)
|`(0x58)=>`(out.map V.ref)
|`(0x59)=>`(seqObj "tuple" vs.toArray 0)
local macro_rules
|`(0x5A)=>`(.ins CC dc (Fg n b m.z jl ll))
|`(0x5B)=>`(envOfC qual scope s.heap.objs.size f cd)
|`(0x5C)=>`(Same.refl _)
|`(0x5D)=>`(pv 3)
|`(0x5E)=>`(ho pins s σ H _ I h)
|`(0x5F)=>`(he pins s σ H _ I h)
|`(0x60)=>`(.ref D)
|`(0x61)=>`(bB _)
|`(0x62)=>`(by rw [bV];exact bR 0x2)
|`(0x63)=>`(fun _ _=>False)
|`(0x64)=>`(apos.endLine==cpos.line)
|`(0x65)=>`(.builtin "object.__class__")
|`(0x66)=>`(.grant e n m a s)
|`(0x67)=>`(.lst xs)
|`(0x68)=>`(bf 0x17 0xF aK 0x4)
|`(0x69)=>`(Kp.refl _)
|`(0x6A)=>`(gW X.env scope.names [])
|`(0x6B)=>`(W.dd++[(a,dy)])
|`(0x6C)=>`(ha pos pins s σ H _ I h)
|`(0x6D)=>`(jD σ ts.length ix)
|`(0x6E)=>`(by simpa using a)
|`(0x6F)=>`(bf 0x17 0xD 0xF 0x4)
|`(0x70)=>`(.ref t)
|`(0x71)=>`(.ref r)
|`(0x72)=>`(es1.map g2)
|`(0x73)=>`(Str×Value)
|`(0x74)=>`(a==sysModules)
|`(0x75)=>`(.lst [])
|`(0x76)=>`(HT.eN xs.length xs.length hi - HT.eN xs.length 0 lo)
|`(0x77)=>`(.tup [V.int 0,V.ref y])
local macro_rules
|`(0x78)=>`(.lst ys)
|`(0x79)=>`((".0",.local))
|`(0x7A)=>`(fs.map V.int)
|`(0x7B)=>`(PySem.W.instObj C s.heap.objs.size)
|`(0x7C)=>`(seqObj "list" vs.toArray 0)
|`(0x7D)=>`(Wo.mk W.es W.ks W.hs 0x6B)
|`(0x7E)=>`(by kernel_rfl)
|`(0x7F)=>`((∀ b∈fp,H' b=none))
|`(0x80)=>`(.gH oD (.dK (qT gs)))
|`(0x81)=>`(Str×V)
|`(0x82)=>`(aj 0x32 aC)
|`(0x83)=>`(fun z=>by rw [z,hy0] at hc;cases hc)
|`(0x84)=>`(jD σ k ix)
|`(0x85)=>`(Builtin.SmallTypes.nextOf 0x49)
|`(0x86)=>`(fun _=>?_)
|`(0x87)=>`(.ref C)
|`(0x88)=>`(List Key×Addr×Value)
|`(0x89)=>`(aj 0x32 0x38)
|`(0x8A)=>`(show u=Value.ref b from ry)
|`(0x8B)=>`(show u=Value.ref a from rx)
|`(0x8C)=>`(zs.map V.str)
|`(0x8D)=>`(.tup [V.ref r,V.str w'])
|`(0x8E)=>`(relabel scope X.env)
|`(0x8F)=>`((∀ n∈ls,n≠""/\PyData.strOk n=true))
set_option Elab.async false
set_option linter.all false
set_option maxHeartbeats 16000000
set_option maxRecDepth 100000
set_option hygiene false
abbrev A5y:List PySem.Str:=["self", "estate"]
abbrev A5z:List PySem.Str:=["_law_book_here", "_law_estate"]
abbrev A5G:List PySem.Str:=["_law_book_here", "_law_pools_here", "_law_d", "_law_day", "_law_men", "_law_lands", "_law_there", "_law_estate", "_law_man", "_law_fresh", "_law_new_here", "_law_wide", "_law_many", "_law_way", "_law_others"]
abbrev A5H:List PySem.Str:=["_law_book_here", "_law_row_here"]
abbrev A5I:List PySem.Str:=["realm", "row"]
abbrev A5J:List PySem.Str:=["_law_book_here", "_law_man"]
abbrev A5K:List PySem.Str:=["self", "man"]
abbrev A5L:List PySem.Str:=["_law_found", "_law_due"]
abbrev A5M:List PySem.Str:=["_law_feed_here", "_law_at", "_law_many", "_law_pools_here", "_law_ways"]
abbrev A5N:List PySem.Str:=["_law_book_here", "_law_row_here", "_law_lord", "_law_due"]
abbrev A5O:List PySem.Str:=["_law_pools_here", "_law_feed_here", "_law_rows_here"]
abbrev A5P:List PySem.Str:=["self", "name", "lord", "holder", "acres", "service"]
abbrev A5Q:List PySem.Str:=["self", "estate", "new", "man", "acres", "service"]
abbrev A5R:List PySem.Str:=["_law_book_here", "_law_pools_here", "_law_d", "_law_day"]
abbrev A5S:List PySem.Str:=["self"]
abbrev A5T:List PySem.Str:=["_law_court_here", "_law_pools_here", "_law_rows_here"]
abbrev A5U:List PySem.Str:=["_law_land", "_law_book_here", "_law_names_here", "_law_folk"]
abbrev A5V:List PySem.Str:=["self", "acres"]
abbrev A5W:List PySem.Str:=["_law_d", "_law_many", "_law_letters", "_law_k", "_law_base", "_law_at", "_law_names_here", "_law_sign", "_law_name"]
abbrev A5X:List PySem.Str:=["_law_land", "_law_book_here", "_law_estate"]
abbrev A5Y:List PySem.Str:=["_law_acres", "_law_rows_here"]
abbrev A5Z:List PySem.Str:=["_law_one", "_law_other"]
abbrev A6a:List PySem.Str:=["self", "acres", "bears", "rows"]
abbrev A6b:List PySem.Str:=["_law_court_here", "_law_pools_here", "_law_rows_here", "_law_words", "_law_told"]
abbrev A6c:List PySem.Str:=["_law_rows_here", "_law_number"]
local macro_rules | `(tactic| apply 0o1 $H $t $ht $s:ident $k:ident $X:ident) => `(tactic| (generalize hX : upd $H $t _ = $X; have $s : Same $H $X := hX ▸ aM $ht _; have $k := (congrFun hX $t).symm.trans ao; clear hX))
local macro_rules
  | `(0o7 $f $a*) => `($f (P := l.prog) (w := w) (mg := mg) (base := base) $a*)
theorem bV {α β:Type _}{as:List α} (f:α->β):(as.map f).length=as.length:=List.length_map f
theorem ju {α:Type _}{l:List α}{i:Nat} (h:i<l.length):l[i]?=some l[i]:=List.getElem?_eq_getElem h
theorem qQ {α:Type _}{l:List α}{i:Nat}{a:α}:l.getD i a=l[i]?.getD a:=List.getD_eq_getElem?_getD
theorem rT {p:Prop} [inst:Decidable p] (h:decide p=true):p:=of_decide_eq_true h
theorem jW {α β:Type _}{f:α->β}{l:List α}{i:Nat}:(l.map f)[i]?=Option.map f l[i]?:=List.getElem?_map
theorem iw {α:Type _}{as bs:List α}:(as++bs).length=as.length+bs.length:=List.length_append
theorem iT {α:Type _} (y:α) {a:α}{l:List α} (h:a∈l):a∈y::l:=List.mem_cons_of_mem y h
theorem oX {α:Type _}{a:α}{as:List α}:(a::as).length=as.length+1:=List.length_cons
theorem vY {α:Type _}{l:List α}{i:Nat}{a:α} (e:l[i]?=some a):a∈l:=List.mem_of_getElem? e
theorem jw {α β:Type _}{f:α->β}{l₁ l₂:List α}:(l₁++l₂).map f=l₁.map f++l₂.map f:=List.map_append
section
open PySem PySem.Spec PyProof.Rows
def A0a:=@wpAny_bind
def A0b:=@Heap.get?_push_of_some
def A0c:=@List.mem_singleton
def A0d:=@List.mem_cons
def A0e:=@if_neg
def A0f:=@Nat.le_refl
def A0g:=@List.mem_cons_self
def A0h:=@List.map_cons
def A0i:=@if_pos
def A0j:=@List.mem_map
def A0k:=@decide_eq_true
def A0l:=@List.getElem?_eq_some_iff
def A0m:=@Ne.symm
def A0n:=@Heap.get?_push_size
def A0o:=@Bool.false_ne_true
def A0p:=@decide_eq_false
def A0q:=@Nat.lt_of_lt_of_le
def A0r:=@List.length_singleton
def A0s:=@List.size_toArray
def A0t:=@Heap.lt_size
def A0u:=@List.not_mem_nil
def A0v:=@Option.map_eq_some_iff
def A0w:=@Nat.lt_of_sub_eq_succ
def A0x:=@List.mem_append
def A0y:=@List.mem_append_right
def A0z:=@PySem.F.plainAttrs_list
def A0G:=@List.length_take
def A0H:=@List.sum_cons
def A0I:=@Nat.ne_of_lt
def A0J:=@List.mem_filter
def A0K:=@List.length_filter_le
def A0L:=@Array.length_toList
def A0M:=@List.nodup_cons
def A0N:=@Int.emod_lt_of_pos
def A0O:=@Nat.le_trans
def A0P:=@List.getElem_mem
def A0Q:=@PySem.F.slot_list_append
def A0R:=@PySem.F.type_list_append
def A0S:=@List.map_map
def A0T:=@Option.some.inj
def A0U:=@PassesOwn.never
def A0V:=@Int.emod_nonneg
def A0W:=@List.getElem?_append_right
def A0X:=@Nat.zero_le
def A0Y:=@Bool.and_eq_true
def A0Z:=@wpAny_call_entry
def A1a:=@List.lookup_cons
def A1b:=@wpAny_mono
def A1c:=@wpAny_callSpecial?_slot
def A1d:=@List.take_length
def A1e:=@sizeLine_eq
def A1f:=@List.take_add_one
def A1g:=@List.filter_cons_of_pos
def A1h:=@Nat.le_of_ble_eq_true
def A1i:=@List.pairwise_iff_getElem
def A1j:=@PySem.mem_of_lookup
def A1k:=@Calls.callWith_builtin
def A1l:=@List.mem_append_left
def A1m:=@or_false
def A1n:=@Bool.eq_iff_iff
def A1o:=@List.foldl_cons
def A1p:=@Heap.get?_update_ne
def A1q:=@List.getElem?_append_left
def A1r:=@Nat.lt_irrefl
def A1s:=@Bool.false_eq_true
def A1t:=@PyProof.Rows.slot_tuple_getitem
def A1u:=@List.append_nil
def A1v:=@PySem.boot_len
def A1w:=@List.filter_cons_of_neg
def A1x:=@wpAny_newObj_type
def A1y:=@Nat.lt_of_le_of_lt
def A1z:=@List.find?_cons_of_neg
def A1G:=@congrArg
def A1H:=@List.length_drop
def A1I:=@List.all_eq_true
def A1J:=@beq_eq_false_iff_ne
def A1K:=@List.map_congr_left
def A1L:=@PySem.F.plainAttrs_dict
def A1M:=@decide_eq_true_iff
def A1N:=@PySem.W.kia_one
def A1O:=@List.find?_cons_of_pos
def A1P:=@List.filterMap_cons
def A1Q:=@wpAny_field
def A1R:=@List.length_replicate
def A1S:=@Heap.size_push
def A1T:=@wpAny_holding
def A1U:=@Calls.spliced_cons
def A1V:=@wpAny_Call_Name_kw
def A1W:=@PySem.F.called_set
def A1X:=@List.mem_iff_getElem
def A1Y:=@List.cons_append
def A1Z:=@Int.toNat_natCast
def A2a:=@decide_eq_true_eq
def A2b:=@List.nodup_append
def A2c:=@Heap.SameBut.update
def A2d:=@Nat.le_succ
def A2e:=@List.nil_append
def A2f:=@Array.getElem?_eq_getElem
def A2g:=@Heap.get?_update_self
def A2h:=@PySem.F.slot_dict_get
def A2i:=@List.getElem?_eq_none
def A2j:=@wpAny_askSetting
def A2k:=@Nat.le_of_lt
def A2l:=@wpAny_standAt
def A2m:=@List.eq_of_mem_replicate
def A2n:=@Calls.evalArgs_plain
def A2o:=@List.mem_of_mem_take
def A2p:=@wpAny_truthy_bool
def A2q:=@Nat.lt_succ_of_lt
def A2r:=@List.filter_congr
def A2s:=@List.find?_cons
def A2t:=@Nat.min_eq_left
def A2u:=@PyProof.Rows.F.plain_set_update_loop
def A2v:=@PyProof.Rows.callWith_type1
def A2w:=@call_meetsIn
def A2x:=@List.all_cons
def A2y:=@List.any_cons
def A2z:=@F.slot_tuple_iterator_next
def A2G:=@wpAny_seqItems
def A2H:=@wpAny_setField
def A2I:=@wpAny_setField_rec
def A2J:=@tupleKind_room_in1
def A2K:=@List.foldl_nil
def A2L:=@Array.perm_iff_toList_perm
def A2M:=@wpAny_passesOwn
def A2N:=@Calls.spliced_nil
def A2O:=@if_false
def A2P:=@List.append_assoc
def A2Q:=@wpAny_setState_of
def A2R:=@Around.under_plainId
def A2S:=@List.pairwise_append
def A2T:=@Option.isSome_iff_exists
def A2U:=@wpAny_attempt
def A2V:=@strKind_is
def A2W:=@PySem.F.slot_dict_values
def A2X:=@Value.isStrOf_shape
def A2Y:=@wpAny_setEntries_of
def A2Z:=@List.flatten_append
def A3a:=@Nat.lt_succ_self
def A3b:=@wpAny_Call_method0_late
def A3c:=@beq_self_eq_true
def A3d:=@PySem.F.slot_list_index
def A3e:=@Nat.ne_of_gt
def A3f:=@List.take_of_length_le
def A3g:=@PySem.F.entry_dict_get
def A3h:=@List.filter_append
def A3i:=@of_decide_eq_false
def A3j:=@List.length_pos_of_mem
def A3k:=@F.slot_zip_next
def A3l:=@codeAny_builtin
def A3m:=@listUpdate_at
def A3n:=@Array.getElem?_toList
def A3o:=@wpAny_pyIter_list
def A3p:=@wpAny_Call_method
def A3q:=@wpAny_rule
def A3r:=@List.mem_of_mem_drop
def A3s:=@Nat.pow_le_pow_right
def A3t:=@codeAny_mono
def A3u:=@if_true
def A3v:=@List.getElem_map
def A3w:=@Nat.sub_self
def A3x:=@PySem.evalArgs_none
def A3y:=@List.replicate_succ
def A3z:=@PyProof.Rows.F.entry_set_update_loop
def A3G:=@PySem.F.slot_dict_valueiterator_iter
def A3H:=@PySem.F.slot_dict_itemiterator_iter
def A3I:=@List.Perm.eq_of_pairwise
def A3J:=@List.idxOf_lt_length_iff
def A3K:=@List.of_mem_zip
def A3L:=@List.filter_map
def A3M:=@List.sum_append
def A3N:=@beq_iff_eq
def A3O:=@PySem.W.callWith_K
def A3P:=@List.getElem_idxOf
def A3Q:=@List.getElem?_replicate
def A3R:=@List.pairwise_singleton
def A3S:=@PySem.F.type_list_index
def A3T:=@List.any_eq_false
def A3U:=@Heap.get?_update_other
def A3V:=@List.map_nil
def A3W:=@List.length_range
def A3X:=@wpAny_pyIter_slot
def A3Y:=@List.nodup_nil
def A3Z:=@bne_self_eq_false
def A4a:=@Array.getElem?_eq_none
def A4b:=@List.take_append_drop
def A4c:=@wpAny_isInstance
def A4d:=@decide_eq_decide
def A4e:=@List.getElem!_eq_getElem?_getD
def A4f:=@Paired.length
def A4g:=@plainId_quiet
def A4h:=@List.getElem?_set_ne
def A4i:=@wpAny_updateSeq_pair
def A4j:=@List.replicate_succ'
def A4k:=@wpAny_execs_nil
def A4l:=@wpAny_loadPart'
def A4m:=@List.forIn_cons
def A4n:=@F.args_tuple_iterator_next_1
def A4o:=@Option.map_some
def A4p:=@List.length_nil
def A4q:=@get?_update_seq
def A4r:=@PySem.F.slot_dict_setdefault
def A4s:=@PySem.W.plainGet_of
def A4t:=@PySem.W.callWith_K0
def A4u:=@List.filter_sublist
def A4v:=@wpAny_typeOf
def A4w:=@F.entry_tuple_iterator_next
def A4x:=@Array.getD_eq_getD_getElem?
def A4y:=@eq_of_beq
def A4z:=@SeqAt.EqAt.int_str
def A4G:=@SeqAt.EqAt.str_int
def A4H:=@List.mem_range
def A4I:=@Calls.Name_function_global
def A4J:=@List.mem_filterMap
def A4K:=@SeqAt.EqAt.str_str
def A4L:=@List.drop_zero
def A4M:=@wpAny_newTuple
def A4N:=@entryFor_alias
def A4O:=@List.map_replicate
def A4P:=@Nat.lt_or_gt_of_ne
def A4Q:=@List.getElem_range
def A4R:=@List.Perm.refl
def A4S:=@List.length_eraseIdx_of_lt
def A4T:=@wpAny_fieldsOf
def A4U:=@PySem.F.args_dict_values_1
def A4V:=@slot_list_getitem
def A4W:=@F.args_zip_next_1
def A4X:=@Option.isSome_map
def A4Y:=@not_false_eq_true
def A4Z:=@seqEpoch_at
def A5a:=@List.getElem_take
def A5b:=@wpAny_onRaise
def A5c:=@not_or
def A5d:=@wpAny_newList
def A5e:=@wpAny_eqBool_int
def A5f:=@F.entry_zip_next
def A5g:=@List.ext_getElem
def A5h:=@SeqAt.eqAt_reads
def A5i:=@List.prefix_refl
def A5j:=@wpAny_load
def A5k:=@dif_pos
def A5l:=@Nat.not_lt_zero
def A5m:=@Array.Perm.refl
def A5n:=@wpAny_ite_split
def A5o:=@codeAny_of_tree
def A5q:=@wpAny_letGo
end
namespace M
inductive HS where
 | d | n | c | a | s
 deriving DecidableEq
end M
variable {its us:List PySem.Value}{C CC CK D a b b1 b2 c d dc dx f g1 g2 g3 g4 g5 g6 i1 i2 it jl ll p sl t t1 t2:PySem.Addr}{cd u vl vu:PySem.Value}{P prog:PySem.Program}{w:PySem.World}{base h h' h1:PySem.Heap}{e iter tg value:PySem.Expr}{pins:List (PySem.Addr×PySem.Obj)}{s s':PySem.Shared}{ep i j n t' x1:Nat}{as ch fp jL pr ts:List PySem.Addr}{N ks ks' l loose ls ps ss ws zs:List PySem.Str}{A:PySem.Around}{E Q:PySem.Value->PySem.Shared->Prop}{apos cpos pos pos' tp:PySem.Pos}{op:PySem.CmpOp}{K:PySem.W.Frag}{st:PySem.Stmt}{es:Array (Int×PySem.Value)}{body:List PySem.Stmt}{tS tc tk:PySem.Tok}{r:Option PySem.Str}{mA mg:PySem.Str->Option PySem.Value}{name q qual z:PySem.Str}{pl:PySem.Sem Bool}{kw:List (PySem.Str×PySem.Value)}{env:PySem.Env}{d1 d2 d3 d4 d5 d6 fd:PySem.FuncData}{outer:List PySem.Env}{scope:PySem.Scope}{T:String}{hi:Option Int}{XP:(PySem.Str->Option PySem.Value)->PySem.Heap->Prop}{YP:PySem.World->PySem.Heap->Prop}{B:Prop}{ix:List Nat}{elts:List PySem.Expr}{dy wd:Int}{hv:PySem.Str->Option PySem.Str}
namespace L2
open PySem PySem.Spec PyProof.Rows
abbrev Key:=Sum Int Str
def uc:Key->Value->Bool
 | .inl k,v=>Value.isInt k v
 | .inr x,v=>Value.isStrOf x v
def keyH (w:World):Key->Int
 | .inl k=>hashInt k
 | .inr x=>hashStr w x
theorem dF:∀ {k:Key}{v:Value},uc k v=true->(∃ i t,k=Sum.inl i/\v=Value.int i t)\/(∃ x t,k=Sum.inr x/\v=Value.str x t)
 | .inl i,v,h=>by
  obtain ⟨t,e⟩:=Value.isInt_shape (k:=i) (v:=v) h;exact .inl ⟨i,t,rfl,e⟩
 | .inr x,v,h=>by
  obtain ⟨t,e⟩:=A2X (x:=x) (v:=v) h;exact .inr ⟨x,t,rfl,e⟩
theorem Lp (i:Int) (t:Tok):uc (.inl i) (.int i t)=true:=by simp [uc,Value.isInt]
theorem Lq (x:Str) (t:Tok):uc (.inr x) (.str x t)=true:=by simp [uc,Value.isStrOf]
theorem Z9 (a b:Int):decide ((Sum.inl a:Key)=Sum.inl b)=(a==b):=by
 by_cases e:a=b
 ·subst e;simp
 ·have h:¬ (Sum.inl a:Key)=Sum.inl b:=fun q=>e (Sum.inl.inj q);rw [A0p h];exact (A1J.mpr e).symm
theorem Za (a b:Str):decide ((Sum.inr a:Key)=Sum.inr b)=decide (a=b):=by
 by_cases e:a=b
 ·subst e;simp
 ·have h:¬ (Sum.inr a:Key)=Sum.inr b:=fun q=>e (Sum.inr.inj q);rw [A0p h,A0p e]
theorem Zb (a:Int) (b:Str):decide ((Sum.inl a:Key)=Sum.inr b)=false:=A0p (fun q=>nomatch q)
theorem Zc (a:Str) (b:Int):decide ((Sum.inr a:Key)=Sum.inl b)=false:=A0p (fun q=>nomatch q)
def bQ (prog:Program) (w:World):PySem.KeyKind prog w Key where
 is:=uc
 hash:=keyH w
 inj:=fun v a b ha hb=>by
  rcases dF ha with ⟨i,t,rfl,rfl⟩ | ⟨x,t,rfl,rfl⟩
  ·rcases dF hb with ⟨j,u,rfl,e⟩ | ⟨y,u,rfl,e⟩
   ·injection e with e1 _;rw [e1]
   ·exact nomatch e
  ·rcases dF hb with ⟨j,u,rfl,e⟩ | ⟨y,u,rfl,e⟩
   ·exact nomatch e
   ·injection e with e1 _;rw [e1]
 byValue:=fun k v h=>by
  rcases dF h with ⟨i,t,rfl,rfl⟩ | ⟨x,t,rfl,rfl⟩ <;> rfl
 pyHash:=fun hv h=>by
  rcases dF hv with ⟨i,t,rfl,rfl⟩ | ⟨x,t,rfl,rfl⟩
  ·exact wpAny_pyHash_int h
  ·exact wpAny_pyHash_str h
 eqBool:=fun hu hv h=>by
  rcases dF hu with ⟨i,t,rfl,rfl⟩ | ⟨x,t,rfl,rfl⟩
  ·rcases dF hv with ⟨j,u,rfl,rfl⟩ | ⟨y,u,rfl,rfl⟩
   ·rw [Z9] at h;exact A5e h
   ·rw [Zb] at h;exact A4z i t y u _ _ _ _ h
  ·rcases dF hv with ⟨j,u,rfl,rfl⟩ | ⟨y,u,rfl,rfl⟩
   ·rw [Zc] at h;exact A4G x t j u _ _ _ _ h
   ·rw [Za] at h;exact wpAny_eqBool_str h
 «strs»:=fun k x t v h=>by
  rcases dF h with ⟨i,u,rfl,e⟩ | ⟨y,u,rfl,e⟩
  ·exact nomatch e
  ·injection e with e1 _;subst e1;cases v <;> rfl
theorem Bo (prog:Program) (w:World) (i:Int) (t:Tok):(bQ prog w).is (.inl i) (.int i t)=true:=Lp i t
theorem Bp (prog:Program) (w:World) (x:Str) (t:Tok):(bQ prog w).is (.inr x) (.str x t)=true:=Lq x t
inductive V where
 | non | bl (b:Bool) | int (i:Int) | str (x:Str) | J3 (b:Array UInt8) | flt (b:UInt64) | ref (a:Addr) | ty (n:String)
 deriving DecidableEq
variable {xs ys:List V}{v y:V}{du ho hs kvs lo ow:List 0x2C}{fs':List 0x81}{dat:Addr->List V}
def RelV:V->Value->Prop
 | .non,u=>u=Value.none
 | .bl b,u=>u=Value.bool b
 | .int i,u=>∃ t,u=Value.int i t
 | .str x,u=>∃ t,u=Value.str x t
 | .J3 b,u=>∃ t,u=Value.bytes b t
 | .flt b,u=>∃ t,u=Value.float b t
 | .ref a,u=>u=Value.ref a
 | .ty n,u=>u=Value.type n
abbrev Vals:List V->List Value->Prop:=Paired RelV
theorem Vals.length (r:Vals xs us):xs.length=us.length:=A4f r
theorem Vals.get:∀ {xs:List V}{us:List Value}{i:Nat}{x:V},Vals xs us->xs[i]?=some x->∃ u,us[i]?=some u/\RelV x u
 | _,_,_,_,.nil,e=>by simp at e
 | _,_,0,_,.cons r _,e=>by simp at e;subst e;exact ⟨_,rfl,r⟩
 | _,_,i+1,x,.cons _ t,e=>by
  obtain ⟨u,h1,h2⟩:=Vals.get (i:=i) (x:=x) t (by simpa using e);exact ⟨u,by simpa using h1,h2⟩
theorem Vals.append:∀ {xs ys:List V}{us ws:List Value},Vals xs us->Vals ys ws->Vals (xs++ys) (us++ws)
 | _,_,_,_,.nil,s=>s
 | _,_,_,_,.cons r t,s=>.cons r (Vals.append t s)
theorem Vals.take:∀ {xs:List V}{us:List Value} (n:Nat),Vals xs us->Vals (xs.take n) (us.take n)
 | _,_,0,_=>.nil
 | _,_,_+1,.nil=>.nil
 | _,_,n+1,.cons r t=>.cons r (Vals.take n t)
theorem Vals.drop:∀ {xs:List V}{us:List Value} (n:Nat),Vals xs us->Vals (xs.drop n) (us.drop n)
 | _,_,0,r=>r
 | _,_,_+1,.nil=>.nil
 | _,_,n+1,.cons _ t=>Vals.drop n t
theorem Vals.none_of:∀ {xs:List V}{us:List Value}{i:Nat},Vals xs us->xs[i]?=none->us[i]?=none:=fun {xs us i} r e=>by
 have h1:=r.length;have h2:xs.length<=i:=List.getElem?_eq_none_iff.mp e;exact List.getElem?_eq_none_iff.mpr 0x2
def jA:Option V->Option Value->Prop
 | some v,some u=>RelV v u
 | none,none=>True
 | _,_=>False
def KV {κ:Type}:List (κ×V)->List (κ×Value)->Prop:=Paired fun (p:κ×V) (q:κ×Value)=>p.1=q.1/\RelV p.2 q.2
def kV:Key->V
 | .inl i=>.int i
 | .inr x=>.str x
inductive HO where
 | lst (xs:List V)
 | tup (xs:List V)
 | dK (kvs:List 0x2C) | dT (kvs:List (List Key×V))
 | set (S:Int->Bool) (n:Nat)
 | ins (C dx:Addr) (fs:List 0x81)
 | own (x:Addr)
 | xd (fs:List 0x81)
 | met (f x:Addr)
 | rng (lo hi:Int)
 | gH (o:Obj) (u:HO)
 | Yi (ps:Array Value)
 | ext (φ:Heap->Prop)
variable {o:HO}
abbrev Hp:=Addr->Option HO
variable {H H' H1 H2:Hp}
def upd (H:Hp) (a:Addr) (o:HO):Hp:=fun b=>if b=a then some o else H b
theorem ao:upd H a o a=some o:=by unfold upd;rw [A0i rfl]
theorem ak (h:b≠a):upd H a o b=H b:=by unfold upd;rw [A0e h]
theorem Vx {u:HO}:upd (upd H a o) a u=upd H a u:=by
 funext b;unfold upd;split <;> rfl
theorem aZ {u:HO} (h:H a=some o) (h':H b=some u) (d:o≠u):a≠b:=by
 intro e;subst e;rw [h] at h';exact d (A0T h')
theorem au (h:H a=some o) (h':H b=none):a≠b:=by
 intro e;subst e;rw [h] at h';cases h'
section
variable (P:Program) (w:World)
def cJ (H:Hp) (h:Heap) (a:Addr):HO->Prop
 | .lst xs=>xs.length<=sizeLine/\∃ (its:List Value) (n:Nat),Vals xs its/\h.get? a=some { cls:=.type "list",data:=.seq its.toArray n }
 | .tup xs=>xs.length<=sizeLine/\∃ its:List Value,Vals xs its/\IsTup h a its.toArray
 | .dK kvs=>kvs.length<=sizeLine/\0x74=false/\∃ vs,KV kvs vs/\h.DictOf (bQ P w) a vs
 | .dT kvs=>kvs.length<=sizeLine/\0x74=false/\∃ xs:List 0x88,
   Paired (fun (p:List Key×V) (q:List Key×Addr×Value)=>p.1=q.1/\H q.2.1=some (.tup (p.1.map kV))/\RelV p.2 q.2.2) kvs xs /\
   ∃ o es ep,h.get? a=some o/\o.ExactDict/\o.data=.dict es ep/\es.toList=xs.map (entryOfKey (tupleKind (bQ P w)))/\(xs.map (·.1)).Nodup
 | .set S n=>h.SetOf (intKind P w) a S n
 | .ins C dx fs=>H dx=some (.own a)/\fs.length<=1000/\dx≠a/\h.get? a=some (PySem.W.instObj C dx) /\
   ∃ mA,h.Ns1 dx mA/\(∀ f,jA (fs.lookup f) (mA f))/\PySem.Within mA (fs.map (·.1))
 | .own _=>∃ o,h.get? a=some o
 | .xd fs=>∃ mA,h.Ns1 a mA/\∀ f,jA (fs.lookup f) (mA f)
 | .rng lo hi=>∃ t u v,h.get? a=some { cls:=.type "range",data:=.fields #[.int lo t,.int hi u,.int 1 v] }
 | .gH o u=>h.get? a=some o/\cJ H h a u
 | .Yi ps=>h.get? a=some { cls:=.none,data:=.fields ps }
 | .met f x=>h.get? a=some (PySem.W.methodObj 0x4E (.ref x))
 | .ext φ=>φ h/\(∃ o,h.get? a=some o)/\∀ h1 h2:Heap,φ h1->(∀ o,h1.get? a=some o->h2.get? a=some o)->φ h2
def oE (H:Hp) (h:Heap):Prop:=∀ a o,H a=some o->cJ P w H h a o
end
theorem cJ.lt (x:cJ P w H h a o):a<h.objs.size:=by
 cases o with
 | lst xs=>obtain ⟨_,_,_,_,e⟩:=x;exact A0t e
 | tup xs=>obtain ⟨_,_,_,p⟩:=x;exact p.lt
 | dK kvs=>obtain ⟨_,_,_,_,o,_,_,e,_⟩:=x;exact A0t e
 | dT kvs=>obtain ⟨_,_,_,_,o,_,_,e,_⟩:=x;exact A0t e
 | set S n=>obtain ⟨o,_,_,_,e,_⟩:=x;exact A0t e
 | ins C dx fs=>obtain ⟨_,_,_,e,_⟩:=x;exact A0t e
 | own y=>obtain ⟨_,e⟩:=x;exact A0t e
 | xd fs=>obtain ⟨_,⟨_,_,_,e,_⟩,_⟩:=x;exact A0t e
 | rng lo hi=>obtain ⟨_,_,_,e⟩:=x;exact A0t e
 | gH ob u=>obtain ⟨e,_⟩:=x;exact A0t e
 | Yi ps=>exact A0t (show h.get? a=some _ from x)
 | met f y=>exact A0t (show h.get? a=some _ from x)
 | ext φ=>obtain ⟨_,⟨_,e⟩,_⟩:=x;exact A0t e
theorem Paired.Ou {α β:Type}{F G:α->β->Prop}:∀ {l₁:List α}{l₂:List β},Paired F l₁ l₂->(∀ a b,F a b->G a b)->Paired G l₁ l₂
 | _,_,.nil,_=>.nil
 | _,_,.cons r t,f=>.cons (f _ _ r) (Paired.Ou t f)
theorem cJ.stay (x:cJ P w H h a o) (k:∀ b u,(b=a\/H b=some (.own a))->h.get? b=some u->h'.get? b=some u)
  (ho:∀ b,H b=some (.own a)->H' b=some (.own a)) (ht:∀ b xs,H b=some 0x35->H' b=some 0x35):cJ P w H' h' a o:=by
 induction o with
 | lst xs=>obtain ⟨z,its,n,r,e⟩:=x;exact ⟨z,its,n,r,k _ _ 0x51 e⟩
 | tup xs=>obtain ⟨z,its,r,ob,e,c⟩:=x;exact ⟨z,its,r,ob,k _ _ 0x51 e,c⟩
 | dK kvs=>obtain ⟨z,y,vs,r,ob,es,ep,e,c⟩:=x;exact ⟨z,y,vs,r,ob,es,ep,k _ _ 0x51 e,c⟩
 | dT kvs =>
  obtain ⟨z,y,xs,r,ob,es,ep,e,c⟩:=x;exact ⟨z,y,xs,Paired.Ou r fun p q z=>⟨z.1,ht _ _ z.2.1,z.2.2⟩,ob,es,ep,k _ _ 0x51 e,c⟩
 | set S n=>obtain ⟨ob,es,ep,t,e,c⟩:=x;exact ⟨ob,es,ep,t,k _ _ 0x51 e,c⟩
 | ins C dx fs =>
  obtain ⟨d,z,ne,e,mA,⟨od,es,ep,e2,c⟩,r⟩:=x;exact ⟨ho _ d,z,ne,k _ _ 0x51 e,mA,⟨od,es,ep,k _ _ (.inr d) e2,c⟩,r⟩
 | own y=>obtain ⟨ob,e⟩:=x;exact ⟨ob,k _ _ 0x51 e⟩
 | xd fs=>obtain ⟨mA,⟨od,es,ep,e,c⟩,r⟩:=x;exact ⟨mA,⟨od,es,ep,k _ _ 0x51 e,c⟩,r⟩
 | rng lo hi=>obtain ⟨t,u,v,e⟩:=x;exact ⟨t,u,v,k _ _ 0x51 e⟩
 | gH ob u ih=>obtain ⟨e,q⟩:=x;exact ⟨k _ _ 0x51 e,ih q⟩
 | Yi ps =>
  have e:h.get? a=some { cls:=.none,data:=.fields ps }:=x
  show h'.get? a=some { cls:=.none,data:=.fields ps }
  exact k a _ 0x51 e
 | met f y =>
  have e:h.get? a=some (PySem.W.methodObj 0x4E (.ref y)):=x
  show h'.get? a=some (PySem.W.methodObj 0x4E (.ref y))
  exact k a _ 0x51 e
 | ext φ=>obtain ⟨p,⟨o,e⟩,st⟩:=x;exact ⟨st _ _ p fun o q=>k _ _ 0x51 q,⟨o,k _ _ 0x51 e⟩,st⟩
theorem oE.lt (x:oE P w H h) (e:H a=some o):a<h.objs.size:=(x a o e).lt
theorem oE.fresh (x:oE P w H h) (e:h.objs.size<=a):H a=none:=by
 cases q:H a with
 | none=>rfl
 | some u=>exact absurd (A0q (x.lt q) e) (A1r _)
theorem oE.kept (x:oE P w H h) (k:∀ b u,h.get? b=some u->h'.get? b=some u):oE P w H h':=fun a o e =>
 (x a o e).stay (fun b u _ q=>k b u q) (fun _ q=>q) fun _ _ q=>q
theorem oE.laid (x:oE P w H h) (k:∀ b u,h.get? b=some u->h'.get? b=some u) (hp:h.objs.size<=a) (new:cJ P w (upd H a o) h' a o):oE P w (upd H a o) h':=fun b u e=>by
 have hn:=x.fresh hp
 by_cases hb:b=a
 ·subst hb;rw [ao] at e;cases e;exact new
 ·rw [ak hb] at e;exact (x b u e).stay (fun c v _ q=>k c v q) (fun c q=>by rw [ak (au q hn)];exact q) fun c xs q=>by rw [ak (au q hn)];exact q
def Rd (H:Hp) (a:Addr) (u:HO):Prop:=H a=some u\/∃ o,H a=some (.gH o u)
theorem Rd.ok {u:HO} (r:Rd H a u) (x:oE P w H h):cJ P w H h a u:=by
 rcases r with r | ⟨o,r⟩
 ·exact x a u r
 ·obtain ⟨_,q⟩:=x a _ r;exact q
def Mut:Option HO->Prop
 | some (.lst _)=>True
 | some (.dK _)=>True
 | some (.dT _)=>True
 | some (.set _ _)=>True
 | some (.ins _ _ _)=>True
 | some (.ext _)=>True
 | _=>False
section
variable {x e:Addr}{o':HO}
theorem oE.write (ok:oE P w H h) (mu:Mut (H x)) (he:e=x\/H e=some (.own x)) (k:∀ b u,b≠e->h.get? b=some u->h'.get? b=some u) (heo:∃ u,h'.get? e=some u)
  (new:cJ P w (upd H x o') h' x o'):oE P w (upd H x o') h':=fun b u q=>by
 have nown:∀ c y,H c=some (.own y)->c≠x:=fun c y r z=>by subst z;rw [r] at mu;exact mu
 have ntup:∀ c xs,H c=some 0x35->c≠x:=fun c xs r z=>by subst z;rw [r] at mu;exact mu
 by_cases hb:b=x
 ·subst hb;rw [ao] at q;cases q;exact new
 ·rw [ak hb] at q
  by_cases hbe:b=e
  ·have q':H b=some (.own x):=by
    rcases he with z | z
    ·exact absurd (hbe.trans z) hb
    ·rw [hbe];exact z
   rw [q] at q';cases q';obtain ⟨v,hv⟩:=heo;exact ⟨v,by rw [hbe];exact hv⟩
  ·refine (ok b u q).stay (fun c v hc r=>k c v ?_ r) (fun c r=>by rw [ak (nown c b r)];exact r) fun c xs r=>by rw [ak (ntup c xs r)];exact r
   rcases hc with rfl | hc
   ·exact hbe
   ·rintro rfl;rcases he with z | z
    ·exact nown c b hc z
    ·rw [hc] at z;cases z;exact hb rfl
end
structure Un (fs ex:List Addr) (H H':Hp) (h h':Heap):Prop where
 keep:∀ b o,h.get? b=some o->H b=none->b∉fs->b∉ex->h'.get? b=some o
 slot:∀ b o,h.get? b=some o->H b=none->b∈fs->b∉ex->∃ sl,h'.get? b=some { o with slots:=sl }
 free:∀ b o,h.get? b=some o->H b=none->b∉ex->H' b=none
 there:∀ b o,h.get? b=some o->b∉ex->∃ o',h'.get? b=some o'
 tups:∀ b xs,H b=some 0x35->H' b=some 0x35
 uf:∀ b o u,H b=some (.gH o u)->H' b=some (.gH o u)
 yx:∀ b ps,H b=some (.Yi ps)->∃ more,H' b=some (.Yi (ps++more))
section
variable {fs fs' ex ex':List Addr}{h2:Heap}{x e:Addr}
theorem Un.any (u:Un fs ex H H1 h h1) {ob:Obj} (q:h.get? b=some ob) (n:H b=none) (hx:b∉ex):∃ sl,h1.get? b=some { ob with slots:=sl }:=by
 by_cases hb:b∈fs
 ·exact u.slot b ob q n hb hx
 ·exact ⟨ob.slots,u.keep b ob q n hb hx⟩
theorem Un.kept (k:∀ b u,h.get? b=some u->h'.get? b=some u):Un fs ex H H h h' :=
 ⟨fun b ob q _ _ _=>k b ob q,fun b ob q _ _ _=>⟨ob.slots,k b ob q⟩,fun _ _ _ n _=>n,fun b ob q _=>⟨ob,k b ob q⟩,fun _ _ q=>q,fun _ _ _ q=>q,fun _ ps q=>⟨#[],by rw [q];simp⟩⟩
theorem Un.refl:Un fs ex H H h h:=Un.kept fun _ _ q=>q
theorem Un.laid (k:∀ b u,h.get? b=some u->h'.get? b=some u) (hp:h.objs.size<=a) (hn:H a=none):Un fs ex H (upd H a o) h h' where
 keep:=fun b u q _ _ _=>k b u q
 slot:=fun b u q _ _ _=>⟨u.slots,k b u q⟩
 free:=fun b u q n _=>by rw [ak (A0I (A0q (A0t q) hp))];exact n
 there:=fun b u q _=>⟨u,k b u q⟩
 tups:=fun b xs q=>by rw [ak (au q hn)];exact q
 uf:=fun b u xs q=>by rw [ak (au q hn)];exact q
 yx:=fun b ps q=>⟨#[],by rw [ak (au q hn),q];simp⟩
theorem Un.write (mu:Mut (H x)) (he:e=x\/H e=some (.own x)) (k:∀ b u,b≠e->h.get? b=some u->h'.get? b=some u) (heo:∃ u,h'.get? e=some u):Un fs ex H (upd H x o) h h':=by
 have hx:∀ b,H b=none->b≠x:=fun b n z=>by subst z;rw [n] at mu;exact mu
 have hb:∀ b,H b=none->b≠e:=fun b n z=>by
  subst z;rcases he with r | r
  ·exact hx b n r
  ·rw [n] at r;cases r
 have hm:∀ b u,H b=some u->¬ Mut (some u)->b≠x:=fun b u q nm z=>by subst z;rw [q] at mu;exact nm mu
 refine ⟨fun b u q n _ _=>k b u (hb b n) q,fun b u q n _ _=>⟨u.slots,k b u (hb b n) q⟩,fun b u q n _=>by rw [ak (hx b n)];exact n,fun b u q _=>?_,
  fun b xs q=>by rw [ak (hm b _ q fun z=>z)];exact q,fun b u xs q=>by rw [ak (hm b _ q fun z=>z)];exact q,fun b ps q=>⟨#[],by rw [ak (hm b _ q fun z=>z),q];simp⟩⟩
 by_cases hbe:b=e
 ·subst hbe;exact heo
 ·exact ⟨u,k b u hbe q⟩
end
def trk (h:Heap) (H:Hp):List Addr:=(List.range h.objs.size).filter fun a=>(H a).isSome
def yC (h:Heap) (H:Hp):Heap:=PySem.W.hideAll h (trk h H)
theorem Lr (h:Heap) (H:Hp):(yC h H).objs.size=h.objs.size:=PySem.W.hideAll_size _ _
theorem Ov {o:Obj} (e:h.get? b=some o) (n:H b=none):(yC h H).get? b=some o :=
 PySem.W.hideAll_get _ e fun hm=>by
  have q:(H b).isSome=true:=(A0J.mp hm).2;rw [n] at q;simp at q
theorem Vy {o:Obj} (e:(yC h H).get? b=some o):h.get? b=some o/\H b=none:=by
 have e':h.get? b=some o:=PySem.W.of_hideAll (trk h H) e;refine ⟨e',?_⟩;cases q:H b with
 | none=>rfl
 | some x =>
  have hm:b∈trk h H:=A0J.mpr ⟨A4H.mpr (A0t e'),by simp [q]⟩;have z:(yC h H).get? b=none:=PySem.W.hideAll_none (trk h H) hm;rw [z] at e;cases e
structure Mod (K:PySem.W.Frag) (mg:Str->Option Value) (base:Heap):Prop where
 kin:K.In base
 glob:base.Ns mainGlobals mg
 blt:∃ mb,base.Ns builtinsNs mb/\∀ x:Str,x≠"__name__"->mb x=bootBuiltins x
 nolimit:base.NoLimit
structure Cx where
 prog:Program
 w:World
 K:PySem.W.Frag
 mg:Str->Option Value
 base:Heap
 A:Around
 N:List Str
 s₀:Shared
 H₀:Hp
 env:Env
 outer:List Env
 stack:List Env
 ex:List Addr
 fn:Str->Bool
 calm:Bool
 pn:List 0x16
 xe:Value->Shared->Prop
variable {X:Cx}
def frs (l:List Env):List Addr:=l.filterMap (·.frame)
abbrev Cx.fs (X:Cx):List Addr:=frs X.outer
def Vis (sc:Scope) (x:Str):Prop:=sc.names.lookup x=some .local\/sc.names.lookup x=some .cell\/sc.names.lookup x=some .free
def Loc (sc:Scope) (x:Str):Prop:=sc.names.lookup x=some .local\/sc.names.lookup x=some .cell
def Look (env:Env) (h:Heap) (m:Str->Option Value) (x:Str) (u:Value):Prop :=
 (env.kindOf x=some .local/\m x=some u)\/((env.kindOf x=some .cell\/env.kindOf x=some .free)/\∃ c,env.cells.lookup x=some c/\h.IsCell c (some u))
structure Cx.Ok (X:Cx):Prop where
 mod:Mod X.K X.mg X.base
 kind:X.env.scope.kind=.function
 glob:X.env.globals=mainGlobals
 blt:X.env.builtins=builtinsNs
 above:X.s₀.heap.objs.size<=X.env.locals
 inj:∀ x y c,X.env.cells.lookup x=some c->X.env.cells.lookup y=some c->x=y
 has:∀ x,(X.env.kindOf x=some .cell\/X.env.kindOf x=some .free)->∃ c,X.env.cells.lookup x=some c
 cab:∀ x c,X.fn x=true->X.env.cells.lookup x=some c->X.s₀.heap.objs.size<=c
 hd:X.calm=true->X.A.handled=none
 frames:X.A.frames=some X.stack
 stk:X.stack=X.outer\/(X.stack=X.env::X.outer/\X.env.frame=some X.env.locals)
 exf:∀ b∈X.ex,b≠X.env.locals/\∀ x c,X.env.cells.lookup x=some c->c≠b
 bs:∀ b o,X.base.get? b=some o->X.s₀.heap.get? b=some o/\X.H₀ b=none
 Ow:X.base.objs.size<=X.s₀.heap.objs.size
 Fi:∀ b o,X.base.get? b=some o->b∉X.ex
 Ls:∀ b∈X.ex,b∉X.fs
 qU:X.s₀.heap.FunFrames X.base X.outer
 Yj:∀ b∈X.fs,X.H₀ b=none
structure Inv (X:Cx) (pins:List 0x16) (σ:List (Option V)) (H:Hp) (s:Shared):Prop where
 ok:X.Ok
 os:s.os=X.s₀.os
 bare:AllBare s.gens
 base:Un X.fs X.ex X.H₀ H X.s₀.heap s.heap
 loc:∃ m,s.heap.Ns X.env.locals m/\∀ (i:Nat) (x:Str) (v:V),X.N[i]?=some x->σ[i]?=some (some v)->Vis X.env.scope x->∃ u,RelV v u/\Look X.env s.heap m x u
 cell:∀ x c,X.env.cells.lookup x=some c->∃ v,s.heap.IsCell c v
 free:H X.env.locals=none
 jX:∀ x c,X.env.cells.lookup x=some c->H c=none
 pin:∀ p∈X.pn++pins,s.heap.get? p.1=some p.2/\H p.1=none/\p.1≠X.env.locals/\p.1∉X.fs/\∀ v,p.2.data≠.cell v
 hok:oE X.prog X.w H s.heap
 len:σ.length=X.N.length
section
variable {σ:List (Option V)}
theorem Cx.Ok.nofr (ok:X.Ok) {o:Obj} (e:X.base.get? b=some o):b∉X.fs:=fun hb=>by
 have:=(ok.qU.mem hb).1;rw [e] at this;cases this
theorem Inv.bs (I:Inv X pins σ H s):∀ b o,X.base.get? b=some o->s.heap.get? b=some o/\H b=none:=fun b o e =>
 ⟨I.base.keep b o (I.ok.bs b o e).1 (I.ok.bs b o e).2 (I.ok.nofr e) (I.ok.Fi b o e),I.base.free b o (I.ok.bs b o e).1 (I.ok.bs b o e).2 (I.ok.Fi b o e)⟩
theorem Inv.bk (I:Inv X pins σ H s):∀ b o,X.base.get? b=some o->s.heap.get? b=some o:=fun b o e=>(I.bs b o e).1
theorem Inv.mod (I:Inv X pins σ H s):Mod X.K X.mg X.base:=I.ok.mod
theorem Inv.oO (I:Inv X pins σ H s):X.K.In s.heap:=I.ok.mod.kin.keeps I.bk
theorem Inv.fr (I:Inv X pins σ H s):∃ m,Fr X.base X.env.locals s.heap m :=
 let ⟨m,hn,_⟩:=I.loc
 ⟨m,hn,I.bk,A0O I.ok.Ow I.ok.above⟩
theorem Inv.lt (I:Inv X pins σ H s):X.env.locals<s.heap.objs.size:=let ⟨_,hn,_⟩:=I.loc;hn.lt
theorem Inv.sz (I:Inv X pins σ H s):X.s₀.heap.objs.size<=s.heap.objs.size:=A0O I.ok.above (A2k I.lt)
theorem Inv.nofs (I:Inv X pins σ H s)  (h:s.heap.objs.size<=a):a∉X.fs:=fun hb=>by
 obtain ⟨_,o,ho,_⟩:=I.ok.qU.mem hb;exact absurd (A0q (A0t ho) (A0O I.sz h)) (A1r _)
theorem Inv.Zd (I:Inv X pins σ H s):∀ x c,X.env.cells.lookup x=some c->c≠X.env.locals:=fun x c e z=>by
 obtain ⟨v,o,ho,hd⟩:=I.cell x c e;obtain ⟨m,⟨o',es,ep,ho',hd',_⟩,_⟩:=I.loc;rw [z,ho'] at ho;cases ho;rw [hd'] at hd;cases hd
theorem Inv.qU (I:Inv X pins σ H s):s.heap.FunFrames X.base X.outer:=by
 have all:∀ (l:List Env),(∀ b∈frs l,b∈X.fs)->X.s₀.heap.FunFrames X.base l->s.heap.FunFrames X.base l:=by
  intro l
  induction l with
  | nil=>intro _ _;trivial
  | cons env r ih =>
   intro hs hl;obtain ⟨hk,⟨L,o,hf,hn,ho,hd⟩,hr⟩:=hl;have hL:L∈X.fs:=hs L (by unfold frs;rw [A1P,hf];exact A0g);obtain ⟨sl,e⟩:=I.base.slot L o ho (I.ok.Yj L hL) hL fun z=>I.ok.Ls L z hL;exact ⟨hk,⟨L,_,hf,hn,e,hd⟩,ih (fun b hb=>hs b (by unfold frs;rw [A1P,hf];exact iT _ hb)) hr⟩
 exact all X.outer (fun _ hb=>hb) I.ok.qU
theorem Inv.stack (I:Inv X pins σ H s):s.heap.FunFrames X.base X.stack:=by
 rcases I.ok.stk with e | ⟨e,hf⟩
 ·rw [e];exact I.qU
 ·rw [e];obtain ⟨m,hn,_⟩:=I.loc;refine .cons (by rw [I.ok.kind];decide) hf hn ?_ I.qU;exact Heap.get?_none_of_le (A0O I.ok.Ow I.ok.above)
theorem Inv.yD (I:Inv X pins σ H s):∀ b∈frs X.stack,b∈X.env.locals::X.fs:=fun b hb=>by
 rcases I.ok.stk with e | ⟨e,hf⟩
 ·rw [e] at hb;exact iT _ hb
 ·rw [e] at hb;unfold frs at hb;rw [A1P,hf] at hb;exact hb
theorem Inv.yE (I:Inv X pins σ H s):∀ b∈frs X.stack,H b=none:=fun b hb=>by
 rcases A0d.mp (I.yD b hb) with e | hb
 ·rw [e];exact I.free
 ·obtain ⟨_,o,ho,_⟩:=I.ok.qU.mem hb;exact I.base.free b o ho (I.ok.Yj b hb) fun z=>I.ok.Ls b z hb
theorem Inv.step {g':Array GenState}{d':Drawn} (I:Inv X pins σ H s)
  (hch:∀ b∈ch,(b∈X.ex\/X.s₀.heap.objs.size<=b)/\b≠X.env.locals/\(∀ x c,X.env.cells.lookup x=some c->c≠b)/\∀ p∈X.pn++pins,p.1≠b)
  (keep:∀ b o,b≠X.env.locals->b∉X.fs->b∉ch->s.heap.get? b=some o->H b=none->h'.get? b=some o)
  (slot:∀ b o,b≠X.env.locals->b∈X.fs->b∉ch->s.heap.get? b=some o->H b=none->∃ sl,h'.get? b=some { o with slots:=sl }) (free:∀ b o,b∉ch->s.heap.get? b=some o->H b=none->H' b=none)
  (there:∀ b o,b∉ch->s.heap.get? b=some o->∃ o',h'.get? b=some o')
  (tups:∀ b xs,H b=some 0x35->H' b=some 0x35) (uf:∀ b o u,H b=some (.gH o u)->H' b=some (.gH o u)) (yx:∀ b ps,H b=some (.Yi ps)->∃ more,H' b=some (.Yi (ps++more)))
  (ns:∀ m,s.heap.Ns X.env.locals m->h'.Ns X.env.locals m) (hok:oE X.prog X.w H' h') (hg:AllBare g') :
  Inv X pins σ H' { s with heap:=h',gens:=g',drawn:=d',toks:=t' }:=by
 have neL:∀ b o,X.s₀.heap.get? b=some o->b≠X.env.locals:=fun b o e=>A0I (A0q (A0t e) I.ok.above);have neC:∀ b o,X.s₀.heap.get? b=some o->b∉X.ex->b∉ch:=fun b o e hx hb=>by
  rcases (hch b hb).1 with z | z
  ·exact hx z
  ·exact absurd (A0q (A0t e) z) (A1r _)
 have cellK:∀ x c,X.env.cells.lookup x=some c->∀ v,s.heap.IsCell c v->h'.IsCell c v:=fun x c e v ⟨o,ho,hd⟩=>by
  have nch:c∉ch:=fun z=>(hch c z).2.2.1 x c e rfl
  by_cases hc:c∈X.fs
  ·obtain ⟨sl,q⟩:=slot c o (I.Zd x c e) hc nch ho (I.jX x c e);exact ⟨_,q,hd⟩
  ·exact ⟨o,keep c o (I.Zd x c e) hc nch ho (I.jX x c e),hd⟩
 refine ⟨I.ok,I.os,hg,⟨fun b o e n hb hx=>?_,fun b o e n hb hx=>?_,fun b o e n hx=>?_,fun b o e hx=>?_,fun b xs e=>tups b xs (I.base.tups b xs e),fun b o xs e=>uf b o xs (I.base.uf b o xs e),fun b ps e=>?_⟩,?_,fun x c e=>?_,?_,fun x c e=>?_,fun p hp=>?_,hok,I.len⟩
 ·exact keep b o (neL b o e) hb (neC b o e hx) (I.base.keep b o e n hb hx) (I.base.free b o e n hx)
 ·obtain ⟨sl,e1⟩:=I.base.slot b o e n hb hx;obtain ⟨sl',e2⟩:=slot b _ (neL b o e) hb (neC b o e hx) e1 (I.base.free b o e n hx);exact ⟨sl',e2⟩
 ·obtain ⟨o',e1⟩:=I.base.there b o e hx;exact free b o' (neC b o e hx) e1 (I.base.free b o e n hx)
 ·obtain ⟨o',e1⟩:=I.base.there b o e hx;exact there b o' (neC b o e hx) e1
 ·obtain ⟨m1,e1⟩:=I.base.yx b ps e;obtain ⟨m2,e2⟩:=yx b _ e1;exact ⟨m1++m2,by rw [e2,Array.append_assoc]⟩
 ·obtain ⟨m,hn,hl⟩:=I.loc;refine ⟨m,ns m hn,fun i x v e1 e2 e3=>?_⟩;obtain ⟨u,r,l⟩:=hl i x v e1 e2 e3;refine ⟨u,r,?_⟩;rcases l with l | ⟨k,c,e,z⟩
  ·exact .inl l
  ·exact .inr ⟨k,c,e,cellK x c e _ z⟩
 ·obtain ⟨v,z⟩:=I.cell x c e;exact ⟨v,cellK x c e v z⟩
 ·obtain ⟨m,⟨o,_,_,ho,_⟩,_⟩:=I.loc;exact free _ o (fun z=>(hch _ z).2.1 rfl) ho I.free
 ·obtain ⟨v,o,ho,hd⟩:=I.cell x c e;exact free c o (fun z=>(hch c z).2.2.1 x c e rfl) ho (I.jX x c e)
 ·obtain ⟨e,n,ne,nf,d⟩:=I.pin p hp;have nch:p.1∉ch:=fun z=>(hch p.1 z).2.2.2 p hp rfl;exact ⟨keep p.1 p.2 ne nf nch e n,free p.1 p.2 nch e n,ne,nf,d⟩
theorem Inv.un (I:Inv X pins σ H s) (u:Un X.fs [] H H' s.heap h') (hok:oE X.prog X.w H' h'):Inv X pins σ H' { s with heap:=h',toks:=t' }:=by
 obtain ⟨m,⟨o,es,ep,ho,r⟩,_⟩:=id I.loc;obtain ⟨sl,hL⟩:=u.any ho I.free 0xA;exact I.step (g':=s.gens) (d':=s.drawn) (ch:=[]) (fun _ z=>nomatch z) (fun b o _ hb _ e n=>u.keep b o e n hb 0xA) (fun b o _ hb _ e n=>u.slot b o e n hb 0xA) (fun b o _ e n=>u.free b o e n 0xA) (fun b o _ e=>u.there b o e 0xA) u.tups u.uf u.yx (fun m' hm=>by
  obtain ⟨o',es',ep',ho',r'⟩:=hm;rw [ho] at ho';cases ho';exact ⟨_,es',ep',hL,r'⟩) hok I.bare
theorem Inv.call {g':Array GenState}{d':Drawn} (I:Inv X pins σ H s) (u:Un (frs X.stack) ch H H' s.heap h') (hok:oE X.prog X.w H' h') (hg:AllBare g')
  (hch:∀ b∈ch,(b∈X.ex\/X.s₀.heap.objs.size<=b)/\b≠X.env.locals/\(∀ x c,X.env.cells.lookup x=some c->c≠b)/\∀ p∈X.pn++pins,p.1≠b) :
  Inv X pins σ H' { s with heap:=h',gens:=g',drawn:=d',toks:=t' }:=by
 obtain ⟨m,⟨o,es,ep,ho,r⟩,_⟩:=id I.loc;obtain ⟨sl,hL⟩:=u.any ho I.free fun z=>(hch _ z).2.1 rfl;exact I.step (ch:=ch) hch (fun b o hL hb hc e n=>u.keep b o e n (fun z=>(A0d.mp (I.yD b z)).elim hL hb) hc) (fun b o _ _ hc e n=>u.any e n hc) (fun b o hc e n=>u.free b o e n hc) (fun b o hc e=>u.there b o e hc) u.tups u.uf u.yx (fun m' hm=>by
  obtain ⟨o',es',ep',ho',r'⟩:=hm;rw [ho] at ho';cases ho';exact ⟨_,es',ep',hL,r'⟩) hok hg
theorem Inv.turned (I:Inv X pins σ H s) (k:∀ b o,b≠it->s.heap.get? b=some o->h'.get? b=some o) (hn:H it=none) (hL:it≠X.env.locals)
  (h1:it∈X.ex\/X.s₀.heap.objs.size<=it) (h2:∀ x c,X.env.cells.lookup x=some c->c≠it) (h3:∀ p∈X.pn++pins,p.1≠it):Inv X pins σ H { s with heap:=h',toks:=t' }:=by
 have nit:∀ b u,H b=some u->b≠it:=fun b u e z=>by rw [z,hn] at e;cases e
 refine I.step (g':=s.gens) (d':=s.drawn) (ch:=[it]) (fun b hb=>?_) (fun b o _ _ hc e _=>k b o (fun z=>hc (by simp [z])) e) (fun b o _ _ hc e _=>⟨o.slots,k b o (fun z=>hc (by simp [z])) e⟩) (fun _ _ _ _ n=>n)
  (fun b o hc e=>⟨o,k b o (fun z=>hc (by simp [z])) e⟩) (fun _ _ e=>e) (fun _ _ _ e=>e) (fun b ps e=>⟨#[],by rw [e];simp⟩) (fun m hm=>?_) (fun b u e=>?_) I.bare
 ·have e:b=it:=by simpa using hb
  subst e;exact ⟨h1,hL,h2,h3⟩
 ·obtain ⟨o,es,ep,ho,r⟩:=hm;exact ⟨o,es,ep,k _ o (A0m hL) ho,r⟩
 ·refine (I.hok b u e).stay (fun c v hc q=>k c v ?_ q) (fun _ q=>q) fun _ _ q=>q;rcases hc with z | z
  ·rw [z];exact nit b u e
  ·exact nit c _ z
theorem Inv.tok (I:Inv X pins σ H s) (t:Nat):Inv X pins σ H { s with toks:=t }:=I.un (h':=s.heap) (t':=t) Un.refl I.hok
theorem Inv.kept (I:Inv X pins σ H s) (k:∀ b u,s.heap.get? b=some u->h'.get? b=some u):Inv X pins σ H { s with heap:=h',toks:=t' }:=I.un (Un.kept k) (I.hok.kept k)
theorem Inv.laid (I:Inv X pins σ H s) (k:∀ b u,s.heap.get? b=some u->h'.get? b=some u) (hp:s.heap.objs.size<=a) (new:cJ X.prog X.w (upd H a o) h' a o) :
  Inv X pins σ (upd H a o) { s with heap:=h',toks:=t' }:=I.un (Un.laid k hp (I.hok.fresh hp)) (I.hok.laid k hp new)
theorem Inv.write {x e:Addr} (I:Inv X pins σ H s) (mu:Mut (H x)) (he:e=x\/H e=some (.own x)) (k:∀ b u,b≠e->s.heap.get? b=some u->h'.get? b=some u) (heo:∃ u,h'.get? e=some u)
  (new:cJ X.prog X.w (upd H x o) h' x o):Inv X pins σ (upd H x o) { s with heap:=h',toks:=t' }:=I.un (Un.write mu he k heo) (I.hok.write mu he k heo new)
theorem Inv.weak {σ':List (Option V)} (I:Inv X pins σ H s) (hl:σ'.length=σ.length) (w:∀ (i:Nat) v,σ'[i]?=some (some v)->σ[i]?=some (some v)):Inv X pins σ' H s :=
 ⟨I.ok,I.os,I.bare,I.base,let ⟨m,hn,hl'⟩:=I.loc;⟨m,hn,fun i x v e1 e2 e3=>hl' i x v e1 (w i v e2) e3⟩,I.cell,I.free,I.jX,I.pin,I.hok,hl.trans I.len⟩
theorem Inv.J4 {Ox:List 0x16} (I:Inv X pins σ H s) (h:∀ p∈Ox,s.heap.get? p.1=some p.2/\H p.1=none/\p.1≠X.env.locals/\p.1∉X.fs/\∀ v,p.2.data≠.cell v):Inv X Ox σ H s :=
 ⟨I.ok,I.os,I.bare,I.base,I.loc,I.cell,I.free,I.jX,fun p hp=>(A0x.mp hp).elim (fun z=>I.pin p (A1l _ z)) (h p),I.hok,I.len⟩
theorem Bq (hN:N.Nodup) {x:Str} (a:N[i]?=some x) (b:N[j]?=some x):i=j:=by
 obtain ⟨h1,e1⟩:=A0l.mp a;obtain ⟨h2,e2⟩:=A0l.mp b;exact (List.getElem_inj hN).mp (e1.trans e2.symm)
theorem wD {M:Model}{x:Str}{Q:Unit->Shared->Prop} (I:Inv X pins σ H s) (hN:X.N.Nodup) (hi:X.N[i]?=some x) (hx:Loc X.env.scope x) (r:RelV v u)
  (h:∀ s',Inv X pins (σ.set i (some v)) H s'->(∃ a,Heap.SameBut a s.heap s'.heap/\(a=X.env.locals\/X.env.cells.lookup x=some a))->Q () s') (hf:X.fn x=true\/X.env.scope.names.lookup x=some .local:=by first | exact .inl rfl | exact .inr rfl | assumption):wpAny M A (storeName X.env x u) Q E s:=by
 obtain ⟨m,hn,hl⟩:=id I.loc;have hcls:(X.env.scope.kind==.class||(X.env.scope.kind==.module&&X.env.locals != X.env.globals))=false:=by rw [I.ok.kind];rfl
 have hiσ:i<σ.length:=by rw [I.len];exact (A0l.mp hi).1
 have Zd:=I.Zd;have tracked:∀ {a:Addr}{h':Heap},(∃ o,s.heap.get? a=some o/\H a=none)->Heap.SameBut a s.heap h'->oE X.prog X.w H h':=fun {a h'} ha hs b ob e=>by
  obtain ⟨_,_,hfree⟩:=ha;refine (I.hok b ob e).stay (fun c w' hc q=>(hs.2 c ?_).trans q) (fun _ q=>q) fun _ _ q=>q;rintro rfl;rcases hc with rfl | hc
  ·rw [hfree] at e;cases e
  ·rw [hfree] at hc;cases hc
 rcases hx with hk | hk
 ·refine wpAny_storeName_local hk hn (fun h' hn' hs=>?_) hcls;obtain ⟨oL,_,_,hoL,_⟩:=id hn;refine h _ ⟨I.ok,I.os,I.bare,⟨fun b o e n hb hx=>?_,fun b o e n hb hx=>?_,I.base.free,fun b o e hx=>?_,I.base.tups,I.base.uf,I.base.yx⟩,⟨_,hn',fun j y v' e1 e2 e3=>?_⟩,fun y c e=>?_,I.free,I.jX,fun p hp=>?_,tracked ⟨oL,hoL,I.free⟩ hs,by simpa using I.len⟩ ⟨_,hs,.inl rfl⟩
  ·exact (hs.2 b (A0I (A0q (A0t e) I.ok.above))).trans (I.base.keep b o e n hb hx)
  ·obtain ⟨sl,e1⟩:=I.base.slot b o e n hb hx;exact ⟨sl,(hs.2 b (A0I (A0q (A0t e) I.ok.above))).trans e1⟩
  ·obtain ⟨o',e1⟩:=I.base.there b o e hx;exact ⟨o',(hs.2 b (A0I (A0q (A0t e) I.ok.above))).trans e1⟩
  ·by_cases hj:j=i
   ·subst hj;rw [hi] at e1;cases e1;rw [List.getElem?_set_self hiσ] at e2;cases e2;exact ⟨u,r,.inl ⟨hk,by simp⟩⟩
   ·rw [A4h (A0m hj)] at e2;obtain ⟨u',r',q⟩:=hl j y v' e1 e2 e3;refine ⟨u',r',?_⟩;rcases q with ⟨k,e⟩ | ⟨k,c,e,z⟩
    ·refine .inl ⟨k,?_⟩;have:y≠x:=fun e=>hj (Bq hN e1 (e ▸ hi));simp [this,e]
    ·exact .inr ⟨k,c,e,z.sameBut hs (Zd y c e)⟩
  ·obtain ⟨w',z⟩:=I.cell y c e;exact ⟨w',z.sameBut hs (Zd y c e)⟩
  ·obtain ⟨e,n,ne,nf,d⟩:=I.pin p hp;exact ⟨(hs.2 p.1 ne).trans e,n,ne,nf,d⟩
 ·have hfn:X.fn x=true:=by
   rcases hf with z | z
   ·exact z
   ·rw [z] at hk;cases hk
  obtain ⟨c,hc⟩:=I.ok.has x (.inl hk);obtain ⟨w',z⟩:=I.cell x c hc;refine wpAny_storeName_cell I.ok.kind hk hc z (fun h' hc' hs=>?_);obtain ⟨oc,hoc,hocd⟩:=id z;refine h { s with heap:=h' } ⟨I.ok,I.os,I.bare,⟨fun b o e n hb hx=>?_,fun b o e n hb hx=>?_,I.base.free,fun b o e hx=>?_,I.base.tups,I.base.uf,I.base.yx⟩,⟨m,hn.sameBut hs (A0m (Zd x c hc)),fun j y v' e1 e2 e3=>?_⟩,fun y c' e=>?_,I.free,I.jX,fun p hp=>?_,tracked ⟨oc,hoc,I.jX x c hc⟩ hs,by simpa using I.len⟩ ⟨c,hs,.inr hc⟩
  ·exact (hs.2 b (A0I (A0q (A0t e) (I.ok.cab x c hfn hc)))).trans (I.base.keep b o e n hb hx)
  ·obtain ⟨sl,e1⟩:=I.base.slot b o e n hb hx;exact ⟨sl,(hs.2 b (A0I (A0q (A0t e) (I.ok.cab x c hfn hc)))).trans e1⟩
  ·obtain ⟨o',e1⟩:=I.base.there b o e hx;exact ⟨o',(hs.2 b (A0I (A0q (A0t e) (I.ok.cab x c hfn hc)))).trans e1⟩
  ·by_cases hj:j=i
   ·subst hj;rw [hi] at e1;cases e1;rw [List.getElem?_set_self hiσ] at e2;cases e2;exact ⟨u,r,.inr ⟨.inl hk,c,hc,hc'⟩⟩
   ·rw [A4h (A0m hj)] at e2;obtain ⟨u',r',q⟩:=hl j y v' e1 e2 e3;refine ⟨u',r',?_⟩;rcases q with q | ⟨k,c',e,z'⟩
    ·exact .inl q
    ·refine .inr ⟨k,c',e,z'.sameBut hs ?_⟩;rintro rfl;exact hj (Bq hN e1 (I.ok.inj _ _ _ e hc ▸ hi))
  ·by_cases hcc:c'=c
   ·subst hcc;exact ⟨_,hc'⟩
   ·obtain ⟨w2,z2⟩:=I.cell y c' e;exact ⟨w2,z2.sameBut hs hcc⟩
  ·obtain ⟨e,n,ne,nf,d⟩:=I.pin p hp;refine ⟨(hs.2 p.1 ?_).trans e,n,ne,nf,d⟩;intro q;rw [q,hoc] at e;have q':oc=p.2:=A0T e;exact d w' (by rw [<- q'];exact hocd)
theorem Br {M:Model}{x:Str}{Q:Unit->Shared->Prop} (I:Inv X pins σ H s) (hN:X.N.Nodup) (hi:X.N[i]?=some x) (hx:Loc X.env.scope x) (r:RelV v u)
  (h:∀ s',Inv X pins (σ.set i (some v)) H s'->Q () s') (hf:X.fn x=true\/X.env.scope.names.lookup x=some .local:=by first | exact .inl rfl | exact .inr rfl | assumption):wpAny M A (storeName X.env x u) Q E s :=
 wD I hN hi hx r (fun s' I' _=>h s' I') hf
theorem Inv.call' (I:Inv X pins σ H s) (ho:s'.os=s.os) (u:Un (frs X.stack) ch H H' s.heap s'.heap) (hok:oE X.prog X.w H' s'.heap) (hg:AllBare s'.gens)
  (hch:∀ b∈ch,(b∈X.ex\/X.s₀.heap.objs.size<=b)/\b≠X.env.locals/\(∀ x c,X.env.cells.lookup x=some c->c≠b)/\∀ p∈X.pn++pins,p.1≠b):Inv X pins σ H' s':=by
 obtain ⟨h',g',d',t',o'⟩:=s';have e:o'=s.os:=ho;subst e;exact I.call (g':=g') (t':=t') (d':=d') u hok hg hch
end
abbrev XK:=Value->Option Addr->Hp->Prop
abbrev St:=List (Option V)
variable {σ:St}
abbrev VK:=V->Hp->Prop
abbrev TE:=St->Hp->VK->Prop
variable {ta td te tl tv ty:TE}{Ol:List (TE×TE)}
abbrev TT:=St->Hp->(Bool->Hp->Prop)->Prop
variable {tt:TT}
abbrev TA:=St->Hp->(List V->Hp->Prop)->Prop
structure Ends where
 nx:St->Hp->Prop
 rt:VK
 bk:St->Hp->Prop:=fun _ _=>False
 ct:St->Hp->Prop:=fun _ _=>False
abbrev TS:=Ends->St->Hp->Prop
variable {tb:TS}
inductive EP (X:Cx) (pins:List 0x16) (σ:St) (Q:VK) (u:Value) (s':Shared):Prop
 | mk (v:V) (H':Hp) (_:Inv X pins σ H' s') (_:RelV v u) (_:Q v H'):EP X pins σ Q u s'
inductive TP (X:Cx) (pins:List 0x16) (σ:St) (Q:Bool->Hp->Prop) (b:Bool) (s':Shared):Prop
 | mk (H':Hp) (_:Inv X pins σ H' s') (_:Q b H'):TP X pins σ Q b s'
inductive AP (X:Cx) (pins:List 0x16) (σ:St) (Q:List V->Hp->Prop) (us:List Value) (s':Shared):Prop
 | mk (vs:List V) (H':Hp) (_:Inv X pins σ H' s') (_:Vals vs us) (_:Q vs H'):AP X pins σ Q us s'
def SP (X:Cx) (pins:List 0x16) (D:Ends) (f:Flow) (s':Shared):Prop :=
 match f with
 | .next=>∃ σ' H',Inv X pins σ' H' s'/\D.nx σ' H'
 | .brk=>∃ σ' H',Inv X pins σ' H' s'/\D.bk σ' H'
 | .cont=>∃ σ' H',Inv X pins σ' H' s'/\D.ct σ' H'
 | .ret u=>∃ v σ' H',Inv X pins σ' H' s'/\RelV v u/\D.rt v H'
def PE (X:Cx) (e:Expr) (t:TE):Prop :=
 ∀ (pins:List 0x16) (s:Shared) (σ:St) (H:Hp) (Q:VK),Inv X pins σ H s->t σ H Q->wpAny 0x9 X.A (eval e X.env) 0x37 X.xe s
def PT (X:Cx) (e:Expr) (t:TT):Prop :=
 ∀ (pins:List 0x16) (s:Shared) (σ:St) (H:Hp) (Q:Bool->Hp->Prop),Inv X pins σ H s->t σ H Q->wpAny 0x9 X.A (isTrue e X.env (eval e X.env)) (TP X pins σ Q) X.xe s
def PW (X:Cx) (e:Expr) (t:TT):Prop :=
 ∀ (whole:Sem Value) (pins:List 0x16) (s:Shared) (σ:St) (H:Hp) (Q:Bool->Hp->Prop),Inv X pins σ H s->t σ H Q->wpAny 0x9 X.A (isTrue e X.env whole) (TP X pins σ Q) X.xe s
theorem PW.pt {t:TT} (h:PW X e t):PT X e t:=h _
def PA (X:Cx) (es:List Expr) (t:TA):Prop :=
 ∀ (pos:Pos) (pins:List 0x16) (s:Shared) (σ:St) (H:Hp) (Q:List V->Hp->Prop),Inv X pins σ H s->t σ H Q->wpAny 0x9 X.A (spliced 0x4D) (AP X pins σ Q) X.xe s
def PS (X:Cx) (st:Stmt) (t:TS):Prop :=
 ∀ (pins:List 0x16) (s:Shared) (σ:St) (H:Hp) (D:Ends),Inv X pins σ H s->t D σ H->wpAny 0x9 X.A (exec st X.env) (SP X pins D) X.xe s
def EY (X:Cx) (st:List Stmt) (t:TS):Prop :=
 ∀ (pins:List 0x16) (s:Shared) (σ:St) (H:Hp) (D:Ends),Inv X pins σ H s->t D σ H->wpAny 0x9 X.A (execs st X.env) (SP X pins D) X.xe s
theorem cH {α:Type}{t:Sem α}{Q Q':α->Shared->Prop}{M:Model} (h:wpAny M A t Q E s) (hQ:∀ a s,Q a s->Q' a s):wpAny M A t Q' E s:=A1b h hQ fun _ _ x=>x
section
inductive Bs (i:Nat) (σ:L2.St) (H:Hp) (Q:VK):Prop
 | mk (v:V) (_:σ[i]?=some (some v)) (_:Q v H):Bs i σ H Q
def tC (v:V):TE:=fun _ H Q=>Q v H
theorem Ze {x:Str} (hN:X.N[i]?=some x) (hv:Vis X.env.scope x) (hd:0x30=false:=by decide) (hcd:(x==("__classdict__" : Str))=false:=by decide):PE X (.Name x pos) (Bs i):=by
 intro pins s σ H Q I h;obtain ⟨v,e,h⟩:=h;obtain ⟨m,hn,hl⟩:=I.loc;obtain ⟨u,r,l⟩:=hl i x v hN e hv;have fin:EP X pins σ Q u s:=⟨v,H,I,r,h⟩;rcases l with ⟨hk,hm⟩ | ⟨hk,c,hc,hcell⟩
 ·exact wpAny_Name (wpAny_loadName_local I.ok.kind hk hn hm fin) hd
 ·rcases hk with hk | hk
  ·exact wpAny_Name (wpAny_loadName_cell I.ok.kind hk hc hcell fin) hd
  ·exact wpAny_Name (wpAny_loadName_free I.ok.kind hk hc hcell fin hcd) hd
theorem aA {i j pos}:PE X (.Constant (.int i) j pos) (tC (.int i)):=fun _ _ _ H _ I h=>wpAny_Constant_int ⟨.int i,H,I.tok _,⟨_,rfl⟩,h⟩
theorem Bt {b j pos}:PE X (.Constant (.bool b) j pos) (tC (.bl b)):=fun _ _ _ H _ I h=>Constant_bool ⟨.bl b,H,I,rfl,h⟩
theorem lZ {j pos}:PE X (.Constant .none j pos) (tC .non):=fun _ _ _ H _ I h=>Constant_none ⟨.non,H,I,rfl,h⟩
theorem aK {x j pos}:PE X (.Constant (.str x) j pos) (tC (.str x)):=fun _ _ _ H _ I h=>Calls.Constant_str ⟨.str x,H,I.tok _,⟨_,rfl⟩,h⟩
def Gl (X:Cx) (x:Str):Prop:=X.env.kindOf x=some .globalImplicit
theorem pN {x:Str} (I:Inv X pins σ H s) (hg:Gl X x) (hm:X.mg x=some u) (h:Q u s)
  (hd:0x30=false:=by decide):wpAny 0x9 X.A (eval (.Name x pos) X.env) Q E s :=
 A4I I.ok.kind hg (Calls.loadGlobal_global (by rw [I.ok.glob];exact I.mod.glob.keeps I.bk) hm h) hd
theorem oY {x:Str} (I:Inv X pins σ H s) (hg:Gl X x) (hm:X.mg x=none) (hv:bootBuiltins x=some u) (h:Q u s)
  (hn:x≠"__name__":=by decide) (hd:0x30=false:=by decide):wpAny 0x9 X.A (eval (.Name x pos) X.env) Q E s:=by
 obtain ⟨mb,h1,h2⟩:=I.mod.blt;exact A4I I.ok.kind hg (Calls.loadGlobal_builtin (by rw [I.ok.glob];exact I.mod.glob.keeps I.bk) hm (by rw [I.ok.blt];exact h1.keeps I.bk) ((h2 x hn).trans hv) h) hd
theorem cR {x:Str} (hg:Gl X x) (hm:X.mg x=some u) (r:RelV v u) (hd:0x30=false:=by decide):PE X (.Name x pos) (tC v) :=
 fun _ _ _ H _ I h=>pN I hg hm ⟨v,H,I,r,h⟩ hd
theorem jd {x:Str} (hg:Gl X x) (hm:X.mg x=none) (hv:bootBuiltins x=some u) (r:RelV v u) (hn:x≠"__name__":=by decide) (hd:0x30=false:=by decide):PE X (.Name x pos) (tC v) :=
 fun _ _ _ H _ I h=>oY I hg hm hv ⟨v,H,I,r,h⟩ hn hd
variable {a b:Expr}{tb:TE}
def PC (X:Cx) (op:CmpOp) (a b:Expr) (t:TE):Prop :=
 ∀ (pins:List 0x16) (s:Shared) (σ:St) (H:Hp) (Q:VK),Inv X pins σ H s->t σ H Q ->
  wpAny 0x9 X.A (eval a X.env) (fun v s₁=>wpAny 0x9 X.A (eval b X.env) (fun u s₂=>wpAny 0x9 X.A (compareOp op v u) 0x37 X.xe s₂) X.xe s₁) X.xe s
theorem Bu (b:Expr)  (h:op≠.In) (h2:op≠.NotIn):behindInMarks op b=false:=by
 have e1:(op==CmpOp.In)=false:=by cases op <;> first | rfl | exact absurd rfl h
 have e2:(op==CmpOp.NotIn)=false:=by cases op <;> first | rfl | exact absurd rfl h2
 cases b <;> simp [behindInMarks,e1,e2]
def tIsN (ta:TE):TE:=fun σ H Q=>ta σ H fun x H1=>Q (.bl (decide (x=.non))) H1
theorem RelV.Oz {x:V}{v:Value} (r:RelV x v):(v==Value.none)=decide (x=.non):=by
 cases x with
 | non=>cases r;rfl
 | bl _=>cases r;rfl
 | int _=>obtain ⟨t,rfl⟩:=r;rfl
 | str _=>obtain ⟨t,rfl⟩:=r;rfl
 | J3 _=>obtain ⟨t,rfl⟩:=r;rfl
 | flt _=>obtain ⟨t,rfl⟩:=r;rfl
 | ref _=>cases r;rfl
 | ty _=>cases r;rfl
theorem OD {j pos'} (ha:PE X a ta):PC X .Is a (.Constant .none j pos') (tIsN ta):=by
 intro pins s σ H Q I h;refine cH 0x4C fun v s1 zq=>?_;obtain ⟨x,H1,I1,r1,q1⟩:=zq;exact Constant_none (is_none_gen ⟨.bl _,H1,I1,by rw [r1.Oz];rfl,q1⟩)
inductive tB_X (Q:Bool->Hp->Prop) (x:V) (H1:Hp):Prop
 | mk (c:Bool) (_:x=.bl c) (_:Q c H1):tB_X Q x H1
def tB (t:TE):TT:=fun σ H Q=>t σ H fun x H1=>tB_X Q x H1
theorem Fj {t:TE} (h:PC X op a b t) (h1:behindInMarks op b=false:=by first | exact Bu _ (by decide) (by decide) | rfl):PE X (.Compare a [op] [b] pos) t:=fun pins s σ H Q I hw=>wpAny_Compare1 (h pins s σ H Q I hw) h1
theorem yF {t:TE} (h:PC X op a b t) (h1:behindInMarks op b=false:=by first | exact Bu _ 0x5 0x5 | rfl):PT X (.Compare a [op] [b] pos) (tB t):=by
 intro pins s σ H Q I hw;refine wpAny_isTrue_Compare1 (cH (h pins s σ H _ I hw) fun v s1 h1=>cH h1 fun u s2 h2=>cH h2 fun c s3 ⟨x,H1,I1,r1,q1⟩=>?_) h1;obtain ⟨d,rfl,q⟩:=q1;cases r1;exact A2p ⟨H1,I1,q⟩
theorem dY {t:TE} (h:PE X e t) (he:∀ whole,isTrue e X.env whole=(do let v <- whole;standAt e.pos;holding [v] (truthy v)):=by intro _;rfl):PT X e (tB t):=by
 intro pins s σ H Q I hw;refine isTrue_plain (cH (h pins s σ H _ I hw) fun v s1 ⟨x,H1,I1,r1,q1⟩=>?_) (he _);obtain ⟨d,rfl,q⟩:=q1;cases r1;exact A2p ⟨H1,I1,q⟩
variable {tA tB':TT}{rest:List Expr}
def tAnd (t u:TT):TT:=fun σ H Q=>t σ H fun c H1=>if c=true then u σ H1 Q else Q false H1
def tOr (t u:TT):TT:=fun σ H Q=>t σ H fun c H1=>if c=true then Q true H1 else u σ H1 Q
def tNot (t:TT):TT:=fun σ H Q=>t σ H fun c H1=>Q (!c) H1
theorem jY (ha:PT X a tA):PW X (.BoolOp .And [a] pos) tA:=by
 intro wh pins s σ H Q I h;refine isTrue_and (cH (ha pins s σ H Q I h) fun c s1 e=>?_);cases c with
 | true=>exact isTrue_and_nil e
 | false=>exact e
theorem oZ (ha:PT X a tA):PW X (.BoolOp .Or [a] pos) tA:=by
 intro wh pins s σ H Q I h;refine isTrue_or (cH (ha pins s σ H Q I h) fun c s1 e=>?_);cases c with
 | false=>exact isTrue_or_nil e
 | true=>exact e
theorem ni (ha:PT X a tA) (hb:PW X (.BoolOp .And (b::rest) pos) tB'):PW X (.BoolOp .And (a::b::rest) pos) (tAnd tA tB'):=by
 intro wh pins s σ H Q I h;refine isTrue_and (cH 0x4C fun c s1 zq=>?_);obtain ⟨H1,I1,q1⟩:=zq;cases c with
 | true=>exact hb wh pins s1 σ H1 Q I1 q1
 | false=>exact ⟨H1,I1,q1⟩
theorem ug (ha:PT X a tA) (hb:PW X (.BoolOp .Or (b::rest) pos) tB'):PW X (.BoolOp .Or (a::b::rest) pos) (tOr tA tB'):=by
 intro wh pins s σ H Q I h;refine isTrue_or (cH 0x4C fun c s1 zq=>?_);obtain ⟨H1,I1,q1⟩:=zq;cases c with
 | true=>exact ⟨H1,I1,q1⟩
 | false=>exact hb wh pins s1 σ H1 Q I1 q1
theorem gP (ha:PT X a tA):PT X (.UnaryOp .Not a pos) (tNot tA):=by
 intro pins s σ H Q I h;exact isTrue_not (cH (ha pins s σ H (fun c H1=>Q (!c) H1) I h) fun c s1 ⟨H1,I1,q1⟩=>⟨H1,I1,q1⟩)
inductive J5 (tb:TE) (σ:L2.St) (Q:VK) (x:V) (H1:Hp):Prop
 | mk (c:Bool) (_:x=.bl c) (_:if c=true then tb σ H1 Q else Q (.bl false) H1):J5 tb σ Q x H1
def a1B (ta tb:TE):TE:=fun σ H Q=>ta σ H fun x H1=>J5 tb σ Q x H1
inductive J6 (Q:VK) (x:V) (H1:Hp):Prop
 | mk (c:Bool) (_:x=.bl c) (_:Q (.bl (!c)) H1):J6 Q x H1
def a1C (ta:TE):TE:=fun σ H Q=>ta σ H fun x H1=>J6 Q x H1
theorem um {op}{t:TE} (h:PE X a t):PE X (.BoolOp op [a] pos) t:=fun pins s σ H Q I hw=>BoolOp_one (h pins s σ H Q I hw)
theorem nj (ha:PE X a ta) (hb:PE X (.BoolOp .And (b::rest) pos) tb):PE X (.BoolOp .And (a::b::rest) pos) (a1B ta tb):=by
 intro pins s σ H Q I h;refine BoolOp_and (cH 0x4C fun v s1 zq=>?_);obtain ⟨x,H1,I1,r1,q1⟩:=zq;obtain ⟨c,rfl,q1⟩:=q1;cases r1;refine A2p ?_;cases c with
 | true=>exact hb pins s1 σ H1 Q I1 q1
 | false=>exact ⟨.bl false,H1,I1,rfl,q1⟩
theorem Zf (ha:PE X a ta):PE X (.UnaryOp .Not a pos) (a1C ta):=by
 intro pins s σ H Q I h;refine UnaryOp_ (cH 0x4C fun v s1 zq=>?_);obtain ⟨x,H1,I1,r1,q1⟩:=zq;obtain ⟨c,rfl,q1⟩:=q1;cases r1;exact not_of (A2p ⟨.bl (!c),H1,I1,rfl,q1⟩)
end
def bO (K:PySem.W.Frag) (H:Hp) (a:Addr) (xs:List V):Prop :=
 Rd H a 0x67 \/
  ∃ (o:Obj) (its:Array Value) (n:Nat),K.lookup a=some o/\o.cls=.type "list"/\o.dict=none/\o.data=.seq its n/\its.size<=sizeLine/\Vals xs its.toList
def cj (K:PySem.W.Frag) (H:Hp) (a:Addr) (xs:List V):Prop :=
 Rd H a 0x35 \/
  ∃ (o:Obj) (its:Array Value) (n:Nat),K.lookup a=some o/\o.cls=.type "tuple"/\o.data=.seq its n/\its.size<=sizeLine/\Vals xs its.toList
def absV:Value->Option V
 | .none=>some .non
 | .bool b=>some (.bl b)
 | .int i _=>some (.int i)
 | .str x _=>some (.str x)
 | .bytes b _=>some (.J3 b)
 | .float b _=>some (.flt b)
 | .ref a=>some 0x3C
 | .type n=>some (.ty n)
 | _=>none
theorem RelV.abs {x:V} (r:RelV x u):absV u=some x:=by
 cases x with
 | non=>cases r;rfl
 | bl _=>cases r;rfl
 | int _=>obtain ⟨t,rfl⟩:=r;rfl
 | str _=>obtain ⟨t,rfl⟩:=r;rfl
 | J3 _=>obtain ⟨t,rfl⟩:=r;rfl
 | flt _=>obtain ⟨t,rfl⟩:=r;rfl
 | ref _=>cases r;rfl
 | ty _=>cases r;rfl
theorem RelV.inj {x:V} (r:RelV x u) (q:RelV y u):x=y:=A0T (r.abs.symm.trans q.abs)
theorem Vals.inj:∀ {xs ys:List V}{us:List Value},Vals xs us->Vals ys us->xs=ys
 | _,_,_,.nil,.nil=>rfl
 | _,_,_,.cons r t,.cons r' t'=>by rw [r.inj r',Vals.inj t t']
theorem bO.of (h:H a=some 0x67):bO K H a xs:=.inl (.inl h)
theorem cj.of (h:H a=some 0x35):cj K H a xs:=.inl (.inl h)
theorem Inv.list (I:Inv X pins σ H s) (h:bO X.K H a xs):∃ its:List Value,Vals xs its/\PlainL s.heap a its.toArray/\xs.length<=sizeLine:=by
 rcases h with h | ⟨o,its,n,hk,hc,hd,hs,hz,r⟩
 ·obtain ⟨z,its,n,r,e⟩:=h.ok I.hok;exact ⟨its,r,⟨_,n,e,rfl,rfl,rfl⟩,z⟩
 ·refine ⟨its.toList,r,⟨o,n,I.oO a o hk,hc,hd,by simpa using hs⟩,?_⟩;have e:=r.length;simp only [A0L] at e;lia
theorem Inv.tuple (I:Inv X pins σ H s) (h:cj X.K H a xs):∃ its:List Value,Vals xs its/\IsTup s.heap a its.toArray/\xs.length<=sizeLine:=by
 rcases h with h | ⟨o,its,n,hk,hc,hs,hz,r⟩
 ·obtain ⟨z,its,r,p⟩:=h.ok I.hok;exact ⟨its,r,p,z⟩
 ·refine ⟨its.toList,r,⟨o,I.oO a o hk,hc,n,by simpa using hs⟩,?_⟩;have e:=r.length;simp only [A0L] at e;lia
theorem Inv.Bv (I:Inv X pins σ H s) (h:bO X.K H a xs) (h':bO X.K H a ys):xs=ys:=by
 obtain ⟨its,r,⟨o,n,e,_,_,d⟩,_⟩:=I.list h;obtain ⟨its',r',⟨o',n',e',_,_,d'⟩,_⟩:=I.list h';rw [e] at e';cases e';rw [d] at d';injection d' with d1 _;have:its=its':=by simpa using A1G Array.toList d1
 subst this;exact r.inj r'
theorem Inv.Lw (I:Inv X pins σ H s) (h:cj X.K H a xs) (h':cj X.K H a ys):xs=ys:=by
 obtain ⟨its,r,⟨o,e,_,n,d⟩,_⟩:=I.tuple h;obtain ⟨its',r',⟨o',e',_,n',d'⟩,_⟩:=I.tuple h';rw [e] at e';cases e';rw [d] at d';injection d' with d1 _;have:its=its':=by simpa using A1G Array.toList d1
 subst this;exact r.inj r'
abbrev Cx.wish (X:Cx) (E:Value->Shared->Prop):Cx:={ X with xe:=E }
abbrev Cx.nox (X:Cx):Cx:=X.wish fun _ _=>False
theorem Cx.Ok.wish (ok:X.Ok) (E:Value->Shared->Prop):(X.wish E).Ok :=
 ⟨ok.mod,ok.kind,ok.glob,ok.blt,ok.above,ok.inj,ok.has,ok.cab,ok.hd,ok.frames,ok.stk,ok.exf,ok.bs,ok.Ow,ok.Fi,ok.Ls,ok.qU,ok.Yj⟩
theorem Cx.Ok.nq (ok:(X.wish E).Ok):X.Ok :=
 ⟨ok.mod,ok.kind,ok.glob,ok.blt,ok.above,ok.inj,ok.has,ok.cab,ok.hd,ok.frames,ok.stk,ok.exf,ok.bs,ok.Ow,ok.Fi,ok.Ls,ok.qU,ok.Yj⟩
theorem Inv.wish (I:Inv X pins σ H s) (E:Value->Shared->Prop):Inv (X.wish E) pins σ H s:=⟨I.ok.wish E,I.os,I.bare,I.base,I.loc,I.cell,I.free,I.jX,I.pin,I.hok,I.len⟩
theorem Inv.nq (I:Inv (X.wish E) pins σ H s):Inv X pins σ H s:=⟨I.ok.nq,I.os,I.bare,I.base,I.loc,I.cell,I.free,I.jX,I.pin,I.hok,I.len⟩
theorem SP.nq {D:Ends}{f:Flow} (h:SP (X.wish E) pins D f s'):SP X pins D f s':=by
 cases f with
 | next=>obtain ⟨σ',H',I,q⟩:=h;exact ⟨σ',H',I.nq,q⟩
 | brk=>obtain ⟨σ',H',I,q⟩:=h;exact ⟨σ',H',I.nq,q⟩
 | cont=>obtain ⟨σ',H',I,q⟩:=h;exact ⟨σ',H',I.nq,q⟩
 | ret u=>obtain ⟨v,σ',H',I,r,q⟩:=h;exact ⟨v,σ',H',I.nq,r,q⟩
theorem EY.nox {st:List Stmt}{t:TS} (h:EY X.nox st t):EY X st t:=fun pins s σ H D I hw =>
 A1b (h pins s σ H D (I.wish _) hw) (fun _ _ q=>q.nq) fun _ _ z=>False.elim z
section
variable {rest:List Stmt}{t u:TS}
def a1D:TS:=fun D σ H=>D.nx σ H
def OJ (t u:TS):TS:=fun D σ H=>t { D with nx:=u D } σ H
theorem aU:EY X [] a1D:=fun _ _ σ H _ I h=>A4k ⟨σ,H,I,h⟩
theorem aq (h1:PS X st t) (h2:EY X rest u):EY X (st::rest) (OJ t u):=by
 intro pins s σ H D I h;refine wpAny_execs_cons (cH (h1 pins s σ H { D with nx:=u D } I h) fun f s1 q=>?_);cases f with
 | next =>
  obtain ⟨σ',H',I',q⟩:=q;exact h2 pins s1 σ' H' D I' q
 | ret v=>exact q
 | brk=>exact q
 | cont=>exact q
theorem aG (h1:PS X st t):EY X [st] t:=by
 intro pins s σ H D I h;refine wpAny_execs_cons (cH (h1 pins s σ H D I h) fun f s1 q=>?_);cases f with
 | next=>exact A4k q
 | ret v=>exact q
 | brk=>exact q
 | cont=>exact q
theorem Inv.quiet (I:Inv X pins σ H s):interactive X.env=false:=by simp [interactive,I.ok.kind]
def a1E (te:TE):TS:=fun D σ H=>te σ H fun _ H1=>D.nx σ H1
theorem bL (he:PE X e te) (hs:swapsWith e none pos.line X.env=pure false:=by rfl):PS X (.Expr e pos) (a1E te):=by
 intro pins s σ H D I h;exact wpAny_Expr_any (cH 0x5F fun v s1 ⟨x,H1,I1,r1,q1⟩=>⟨σ,H1,I1,q1⟩) I.quiet hs
def Vz (te:TE):TS:=fun D σ H=>te σ H D.rt
theorem aV (he:PE X e te):PS X (.Return (some e) pos) (Vz te):=by
 intro pins s σ H D I h;exact wpAny_Return_some (cH 0x5F fun v s1 ⟨x,H1,I1,r1,q1⟩=>⟨x,σ,H1,I1,r1,q1⟩)
def Ly (c:TT) (t u:TS):TS:=fun D σ H=>c σ H fun b H1=>if b=true then t D σ H1 else u D σ H1
theorem bN {c:Expr}{a b:List Stmt}{tc:TT} (hc:PT X c tc) (ha:EY X a t) (hb:EY X b u):PS X (.If c a b pos) (Ly tc t u):=by
 intro pins s σ H D I h;refine wpAny_If (cH (hc pins s σ H _ I h) fun d s1 zq=>?_);obtain ⟨H1,I1,q1⟩:=zq;cases d with
 | true=>exact ha pins s1 σ H1 D I1 q1
 | false=>exact hb pins s1 σ H1 D I1 q1
def Zg:TS:=fun _ _ _=>False
theorem cA {sts:List Stmt}:EY X sts Zg:=fun _ _ _ _ _ _ h=>h.elim
end
abbrev TG:=V->St->Hp->(St->Hp->Prop)->Prop
variable {g:TG}
abbrev Zh:=List V->St->Hp->(St->Hp->Prop)->Prop
def PG (X:Cx) (target:Expr) (t:TG):Prop :=
 ∀ (pins:List 0x16) (s:Shared) (σ:St) (H:Hp) (v:V) (u:Value) (Q:St->Hp->Prop),Inv X pins σ H s->RelV v u->t v σ H Q ->
  wpAny 0x9 X.A (assign target X.env u) (fun _ s'=>∃ σ' H',Inv X pins σ' H' s'/\Q σ' H') X.xe s
def PGs (X:Cx) (ts:List Expr) (t:Zh):Prop :=
 ∀ (pins:List 0x16) (s:Shared) (σ:St) (H:Hp) (vs:List V) (us:List Value) (Q:St->Hp->Prop),Inv X pins σ H s->Vals vs us->t vs σ H Q ->
  wpAny 0x9 X.A (assignInOrder ((assignEach ts X.env).map (·.2)) us) (fun _ s'=>∃ σ' H',Inv X pins σ' H' s'/\Q σ' H') X.xe s
def uq (i:Nat):TG:=fun v σ H Q=>Q (σ.set i (some v)) H
theorem bC {x:Str} (hN:X.N.Nodup) (hi:X.N[i]?=some x) (hx:Loc X.env.scope x) (hf:X.fn x=true\/X.env.scope.names.lookup x=some .local:=by first | exact .inl rfl | exact .inr rfl | assumption):PG X (.Name x pos) (uq i):=by
 intro pins s σ H v u Q I r h;exact wpAny_assign_Name (Br I hN hi hx r (fun s' I'=>⟨_,H,I',h⟩) hf)
def gNil:Zh:=fun vs σ H Q=>vs=[]/\Q σ H
inductive Yk (t:TG) (u:Zh) (vs:List V) (σ:L2.St) (H:Hp) (Q:L2.St->Hp->Prop):Prop
 | mk (v:V) (r:List V) (_:vs=v::r) (_:t v σ H fun σ' H'=>u r σ' H' Q):Yk t u vs σ H Q
theorem gM:PGs X [] gNil:=by
 intro pins s σ H vs us Q I r h;obtain ⟨e,h⟩:=h;subst e;cases r;exact assignInOrder_nil ⟨σ,H,I,h⟩
theorem bT {es:List Expr}{t:TG}{u:Zh} (h1:PG X e t) (h2:PGs X es u)
  (hs:(assignEach (e::es) X.env).map (·.2)=assign e X.env::(assignEach es X.env).map (·.2):=by rfl):PGs X (e::es) (Yk t u):=by
 intro pins s σ H vs us Q I r h;obtain ⟨v,vr,e1,h⟩:=h;subst e1;cases r with
 | cons r rr =>
  rw [hs];refine assignInOrder_cons (cH (h1 pins s σ H _ _ _ I r h) fun _ s1 zq=>?_);obtain ⟨σ1,H1,I1,q1⟩:=zq;exact h2 pins s1 σ1 H1 _ _ Q I1 rr q1
inductive Zi (K:W.Frag) (n:Nat) (t:Zh) (v:V) (σ:L2.St) (H:Hp) (Q:L2.St->Hp->Prop):Prop
 | mk (a:Addr) (xs:List V) (_:v=.ref a) (_:cj K H a xs) (_:xs.length=n) (_:t xs σ H Q):Zi K n t v σ H Q
theorem nu {es:List Expr}{k:Nat}{t:Zh} (hc:X.calm=true) (h:PGs X es t)
  (hn:(assignEach es X.env).length=n:=by rfl) (hst:(assignEach es X.env).findIdx? (·.1)=none:=by rfl):PG X (.Tuple es k pos) (Zi X.K n t):=by
 intro pins s σ H v u Q I r hw;obtain ⟨a,xs,e1,hq,hl,hw⟩:=hw;subst e1;cases r;obtain ⟨its,rv,ht,hz⟩:=I.tuple hq;refine assign_Tuple_tuple (I.ok.hd hc) ht (by simp [hn,<- hl,rv.length]) hst fun h' hx=>?_;have I1:Inv X pins σ H { s with heap:=h' }:=I.kept (t':=s.toks) fun b o e=>hx b o (A0I (A0t e)) e;exact h pins _ σ H xs _ Q I1 (by simpa using rv) hw
def tAsg (te:TE) (g:TG):TS:=fun D σ H=>te σ H fun x H1=>g x σ H1 D.nx
theorem yG (he:PE X e te) (hg:PG X tg g) (hs:swapsWithSole [tg] e pos.line X.env=pure false:=by rfl) (hw:swappedStores [tg] e X.env=pure none:=by rfl)
  (h1:(assignEach [tg] X.env).map (·.2)=[assign tg X.env]:=by rfl):PS X (.Assign [tg] e pos) (tAsg te g):=by
 intro pins s σ H D I h;refine wpAny_Assign_stores (cH 0x5F fun v s1 ⟨x,H1,I1,r1,q1⟩=>?_) hs hw;rw [h1];exact cH (hg pins s1 σ H1 x v _ I1 r1 q1) fun _ s2 q=>q
theorem aR {x:Str} (hN:X.N.Nodup) (hi:X.N[i]?=some x) (hx:Loc X.env.scope x) (he:PE X e te) (hs:swapsWith e (some (.Name x pos')) pos.line X.env=pure false:=by rfl) (hf:X.fn x=true\/X.env.scope.names.lookup x=some .local:=by first | exact .inl rfl | exact .inr rfl | assumption) :
  PS X (.Assign [.Name x pos'] e pos) (tAsg te (uq i)):=by
 intro pins s σ H D I h;refine wpAny_Assign_Name (cH 0x5F fun v s1 ⟨y,H1,I1,r1,q1⟩=>?_) hs;exact Br I1 hN hi hx r1 (fun s2 I2=>⟨_,H1,I2,q1⟩) hf
def Zj (c:TT) (tb:TS):TS:=fun D σ H=>∃ W:Nat->St->Hp->Prop,(∃ m,W m σ H)/\∀ m σ H,W m σ H ->
 c σ H fun b H1=>if b=true then ∃ N:St->Hp->Prop,(∀ σ' H',N σ' H'->∃ m',m'<m/\W m' σ' H')/\tb { D with nx:=N,ct:=N,bk:=D.nx } σ H1 else D.nx σ H1
theorem lG {c:Expr}{tc:TT} (hp:PassesOwn 0x9 X.A X.env X.xe) (hc:PT X c tc) (hb:EY X body tb):PS X (.While c body [] pos) (Zj tc tb):=by
 intro pins s σ H D I h;obtain ⟨W,⟨m0,w0⟩,turn⟩:=h;refine wpAny_While (codeAny_whileLoop (fun n s'=>∃ σ' H',Inv X pins σ' H' s'/\W n σ' H') ?_ m0 ⟨σ,H,I,w0⟩);rintro n s1 ⟨σ1,H1,I1,w1⟩;refine A2M hp (cH (hc pins s1 σ1 H1 _ I1 (turn n σ1 H1 w1)) fun b s2 zq=>?_);obtain ⟨H2,I2,q2⟩:=zq;cases b with
 | true =>
  obtain ⟨N,hN,q2⟩:=q2;rw [A0i rfl];refine A2M hp (cH (hb pins s2 σ1 H2 _ I2 q2) fun f s3 q3=>?_);cases f with
  | next =>
   obtain ⟨σ3,H3,I3,n3⟩:=q3;obtain ⟨m',hm,w3⟩:=hN σ3 H3 n3;exact ⟨m',hm,σ3,H3,I3,w3⟩
  | cont =>
   obtain ⟨σ3,H3,I3,n3⟩:=q3;obtain ⟨m',hm,w3⟩:=hN σ3 H3 n3;exact ⟨m',hm,σ3,H3,I3,w3⟩
  | brk=>exact q3
  | ret v=>exact q3
 | false =>
  rw [A0e A0o];exact A4k ⟨σ1,H2,I2,q2⟩
structure It where
 go:Nat->Hp->Prop
 J7:Nat->Hp->V->Hp->Prop
 stop:Nat->Hp->Prop
def j8 (X:Cx) (pins:List 0x16) (H:Hp) (b:Addr):Prop :=
 H b=none/\b≠X.env.locals/\b∉X.fs/\(b∈X.ex\/X.s₀.heap.objs.size<=b)/\(∀ x c,X.env.cells.lookup x=some c->c≠b)/\∀ p∈X.pn++pins,p.1≠b
theorem Inv.ur (I:Inv X pins σ H s) (hb:s.heap.objs.size<=b) (hn:H' b=none):j8 X pins H' b:=by
 refine ⟨hn,A3e (A0q I.lt hb),I.nofs hb,.inr (A0O I.sz hb),fun x c e z=>?_,fun p hp z=>?_⟩
 ·obtain ⟨v,q⟩:=I.cell x c e;exact absurd (A0q q.lt (by rw [z];exact hb)) (A1r _)
 ·exact absurd (A0q (A0t (I.pin p hp).1) (by rw [z];exact hb)) (A1r _)
structure Turn (P:Program) (w:World) (K:PySem.W.Frag) (tg:Expr) (J:It) (fp:List Addr) (it:Addr) (tn:Nat->Heap->Prop):Prop where
 mem:it∈fp
 obj:∀ i h,tn i h->∀ b∈fp,∃ o,h.get? b=some o/\∀ v,o.data≠.cell v
 keep:∀ i h h',tn i h->(∀ b∈fp,∀ o,h.get? b=some o->h'.get? b=some o)->tn i h'
 item:∀ (X:Cx),X.prog=P->X.w=w->X.K=K->X.calm=true->∀ (i:Nat) (pins:List 0x16) (s:Shared) (σ:St) (H:Hp) (E:Value->Shared->Prop),Inv X pins σ H s->(∀ b∈fp,j8 X pins H b)->tn i s.heap->J.go i H ->
  wpAny (model P w) X.A (pyNext 0x49) (fun r s1=>∃ u,r=some u /\
   wpAny (model P w) X.A (letOwnedTupleGo tg 0x49 u) (fun _ s2=>∃ x H',Inv X pins σ H' s2/\RelV x u/\J.J7 i H x H'/\tn (i+1) s2.heap/\∀ b∈fp,H' b=none) E s1) E s
 done:∀ (X:Cx),X.prog=P->X.w=w->X.K=K->X.calm=true->∀ (i:Nat) (pins:List 0x16) (s:Shared) (σ:St) (H:Hp) (E:Value->Shared->Prop),Inv X pins σ H s->(∀ b∈fp,j8 X pins H b)->tn i s.heap->J.stop i H ->
  wpAny (model P w) X.A (pyNext 0x49) (fun r s1=>r=none/\Inv X pins σ H s1) E s
 self:∀ (A:Around) (i:Nat) (s:Shared) (Q:Value->Shared->Prop) (E:Value->Shared->Prop),tn i s.heap->Q 0x49 s->wpAny (model P w) A (pyIter 0x49) Q E s
abbrev TI:=St->Hp->(It->Hp->Prop)->Prop
variable {wi:TI}
inductive PIE (X:Cx) (pins:List 0x16) (σ:St) (tg:Expr) (R:It->Hp->Prop) (itv:Value) (s2:Shared):Prop
 | mk (it:Addr) (fp:List Addr) (tn:Nat->Heap->Prop) (J:It) (H':Hp) (_:itv=.ref it) (_:Inv X pins σ H' s2) (_:Turn X.prog X.w X.K tg J fp it tn) (_:tn 0 s2.heap) (_:(∀ b∈fp,j8 X pins H' b)) (_:R J H'):PIE X pins σ tg R itv s2
def PI (X:Cx) (tg iter:Expr) (wi:TI):Prop :=
 ∀ (pins:List 0x16) (s:Shared) (σ:St) (H:Hp) (R:It->Hp->Prop),Inv X pins σ H s->wi σ H R ->
  wpAny 0x9 X.A (eval iter X.env) (fun v s1=>wpAny 0x9 X.A (pyIter v) (PIE X pins σ tg R) X.xe s1) X.xe s
theorem J8 {M:Model}{o:Obj}{n:String}{vs:Array Value}{Q:Unit->Shared->Prop} (ho:s.heap.get? it=some o) (hc:o.cls=.type n) (hd:o.data=.fields vs)
  (hn:["enumerate", "zip", "dict_itemiterator", "dict_reverseitemiterator", "odict_iterator", "itertools.zip_longest", "itertools.pairwise"].contains n=false) (hQ:Q () s):wpAny M A (letOwnedTupleGo tg 0x49 u) Q E s:=by
 unfold letOwnedTupleGo;cases tg <;> first
  | exact wpAny_pure hQ
  | (cases u <;> first
    | exact wpAny_pure hQ
    | (refine A0a (A5j ho ?_)
       rw [hc,hd]
       show wpAny M A (if (["enumerate", "zip", "dict_itemiterator", "dict_reverseitemiterator", "odict_iterator", "itertools.zip_longest", "itertools.pairwise"].contains n&&vs[0]?==some (rawInt _))=true then _ else _) Q E s
       rw [A0e (by intro h;rw [hn,Bool.false_and] at h;cases h)];exact wpAny_pure hQ))
def Zk (K:PySem.W.Frag) (a:Addr):It :=
 ⟨fun i H=>∃ xs x,bO K H a xs/\xs[i]?=some x,fun i H x H'=>H'=H/\∀ xs,bO K H a xs->xs[i]?=some x,fun i H=>∃ xs,bO K H a xs/\xs.length<=i⟩
def Zm (lo:Int) (n:Nat):It:=⟨fun i _=>i<n,fun i H x H'=>H'=H/\x=.int (lo+i),fun i _=>n<=i⟩
theorem Lz (a it:Addr):Turn P w K tg (Zk K a) [it] it (fun i h=>h.IsListIter it a i) where
 mem:=by simp
 obj:=fun i h st b hb=>by
  have e:b=it:=by simpa using hb
  subst e;obtain ⟨o,e,c,d⟩:=st;exact ⟨o,e,fun v z=>by rw [d] at z;cases z⟩
 keep:=fun i h h' st k=>st.at fun o e=>k it 0xA o e
 item:=by
  intro X hP hw hK hc i pins s σ H E I hf st hg;subst hP hw hK;obtain ⟨xs,x,hq,hx⟩:=hg;obtain ⟨its,rv,p,hz⟩:=I.list hq;obtain ⟨u,hu,ru⟩:=rv.get hx;obtain ⟨f0,f1,f2,f3,f4,f5⟩:=hf it 0xA;refine wpAny_pyNext_list_item st p.isList (x:=u) (by simpa using hu) fun h' st' sb=>?_;have I1:Inv X pins σ H { s with heap:=h' }:=I.turned (t':=s.toks) (fun b o hb e=>(sb.2 b hb).trans e) f0 f1 f3 f4 f5;obtain ⟨o,e,c,d⟩:=id st';exact ⟨u,rfl,J8 (s:={ s with heap:=h' }) e c d 0x5 ⟨x,H,I1,ru,⟨rfl,fun ys hy=>by rw [I.Bv hy hq];exact hx⟩,st',fun b hb=>(hf b hb).1⟩⟩
 done:=by
  intro X hP hw hK hc i pins s σ H E I hf st hg;subst hP hw hK;obtain ⟨xs,hq,hx⟩:=hg;obtain ⟨its,rv,p,hz⟩:=I.list hq;obtain ⟨f0,f1,f2,f3,f4,f5⟩:=hf it 0xA;have hl:=rv.length;exact wpAny_pyNext_list_end (I.ok.hd hc) st p.isList (by simp;lia) fun h' eb=>⟨rfl,I.turned (t':=s.toks) (fun b o hb e=>eb b o hb e) f0 f1 f3 f4 f5⟩
 self:=fun _ _ _ _ _ st h=>wpAny_pyIter_listiter st h
theorem Fl (it:Addr) (lo:Int) (n:Nat):Turn P w K tg (Zm lo n) [it] it (fun i h=>IsRangeIter h it (lo+(i:Nat) * 1) ((n:Int) - (i:Nat)) 1) where
 mem:=by simp
 obj:=fun i h st b hb=>by
  have e:b=it:=by simpa using hb
  subst e;exact ⟨_,st,fun v z=>by
   have z':Data.fields _=Data.cell v:=z;cases z'⟩
 keep:=fun i h h' st k=>k it 0xA _ st
 item:=by
  intro X hP hw hK hc i pins s σ H E I hf st hg;subst hP hw hK;obtain ⟨f0,f1,f2,f3,f4,f5⟩:=hf it 0xA;have W:=Walks.range (prog:=X.prog) (w:=X.w) (I.ok.hd hc) it lo 1 n;refine W.item i s _ _ hg st fun v h' tk hv st' kk=>?_;obtain ⟨t,rfl⟩:=hv;have I1:Inv X pins σ H { s with heap:=h',toks:=tk }:=I.turned (fun b o hb e=>kk b o (by simpa using hb) e) f0 f1 f3 f4 f5;refine ⟨_,rfl,J8 (s:={ s with heap:=h',toks:=tk }) (n:="range_iterator") st' rfl rfl 0x5 ⟨.int (lo+i),H,I1,⟨t,?_⟩,⟨rfl,rfl⟩,st',fun b hb=>(hf b hb).1⟩⟩;rw [Int.mul_one]
 done:=by
  intro X hP hw hK hc i pins s σ H E I hf st hg;subst hP hw hK;obtain ⟨f0,f1,f2,f3,f4,f5⟩:=hf it 0xA;exact wpAny_pyNext_range_end (I.ok.hd hc) st (by have:n<=i:=hg;lia) fun h' eb=>⟨rfl,I.turned (t':=s.toks) (fun b o hb e=>eb b o hb e) f0 f1 f3 f4 f5⟩
 self:=fun _ _ _ _ _ st h=>wpAny_pyIter_rangeiter st h
inductive J9 (K:W.Frag) (R:It->Hp->Prop) (x:V) (H1:Hp):Prop
 | mk (a:Addr) (_:x=.ref a) (_:(∃ xs,bO K H1 a xs)) (_:R (Zk K a) H1):J9 K R x H1
def a1F (K:PySem.W.Frag) (tl:TE):TI:=fun σ H R=>tl σ H fun x H1=>J9 K R x H1
theorem eY {l:Expr} (hl:PE X l tl):PI X tg l (a1F X.K tl):=by
 intro pins s σ H R I h;refine cH (hl pins s σ H _ I h) fun v s1 zq=>?_;obtain ⟨x,H1,I1,r1,q1⟩:=zq;obtain ⟨a,e,⟨xs,hq⟩,q⟩:=q1;subst e;cases r1;obtain ⟨its,rv,p,hz⟩:=I1.list hq;refine A3o p.isList ?_;refine ⟨s1.heap.objs.size,[s1.heap.objs.size],_,_,H1,rfl,I1.kept (t':=s1.toks) fun b o e=>A0b _ e,Lz a _,⟨_,A0n _ rfl,rfl,rfl⟩,fun b hb=>?_,q⟩;have e:b=s1.heap.objs.size:=by simpa using hb
 subst e;exact I1.ur 0x2D (I1.hok.fresh 0x2D)
theorem P0 {R:It->Hp->Prop}{lo hi:Int}{t u v:Tok}{tk:Nat} (I:Inv X pins σ H s) (h1:-(2 ^ 62)<=lo) (h2:lo<2 ^ 62) (h3:-(2 ^ 62)<=hi) (h4:hi<2 ^ 62)
  (q:R (Zm lo (hi - lo).toNat) H):wpAny 0x9 X.A (pyIter 0x14) (PIE X pins σ tg R) E { s with heap:=s.heap.push { cls:=.type "range",data:=.fields #[.int lo t,.int hi u,.int 1 v] },toks:=tk }:=by
 refine wpAny_pyIter_range (IsRange.new ..) (small_one h1 h2 h3 h4) ?_;have I1:Inv X pins σ H { s with heap:=s.heap.push { cls:=.type "range",data:=.fields #[.int lo t,.int hi u,.int 1 v] },toks:=tk }:=I.kept fun b o e=>A0b _ e;refine ⟨(s.heap.push { cls:=.type "range",data:=.fields #[.int lo t,.int hi u,.int 1 v] }).objs.size,[(s.heap.push { cls:=.type "range",data:=.fields #[.int lo t,.int hi u,.int 1 v] }).objs.size],_,_,H,rfl,
  I1.kept (t':=tk) fun b o e=>A0b _ e,Fl _ lo (hi - lo).toNat,?_,fun b hb=>?_,q⟩
 ·have e1:lo+((0:Nat):Int) * 1=lo:=by simp
  have e2:(((hi - lo).toNat:Nat):Int) - ((0:Nat):Int)=Builtin.Range.rangeSize lo hi 1:=by rw [rangeSize_one];split <;> lia
  show IsRangeIter _ _ (lo+((0:Nat):Int) * 1) ((((hi - lo).toNat:Nat):Int) - ((0:Nat):Int)) 1
  rw [e1,e2];exact A0n _ rfl
 ·have e:b=(s.heap.push { cls:=.type "range",data:=.fields #[.int lo t,.int hi u,.int 1 v] }).objs.size:=by simpa using hb
  subst e;exact I1.ur 0x2D (I1.hok.fresh 0x2D)
inductive Ja (R:It->Hp->Prop) (vs:List V) (H1:Hp):Prop
 | mk (j:Int) (_:vs=[.int j]) (_:-(2 ^ 62)<=j) (_:j<2 ^ 62) (_:R (Zm 0 j.toNat) H1):Ja R vs H1
def a1G (ta:TA):TI:=fun σ H R=>ta σ H fun vs H1=>Ja R vs H1
theorem lH {a:Expr}{ta:TA}{p:Pos} (hg:Gl X "range") (hm:X.mg "range"=none) (ha:PA X [a] ta) (hs:starEach [a] X.env=[(false,eval a X.env)]:=by rfl):PI X tg (.Call (.Name "range" p) [a] [] pos) (a1G ta):=by
 intro pins s σ H R I h;refine Call_ (oY I hg hm boot_range (A2v (cH 0x6C fun us s1 ⟨vs,H1,I1,r1,q1⟩=>?_) hs rfl));obtain ⟨j,e,q1,q2,q⟩:=q1;subst e;cases r1 with
 | cons r rr =>
  cases rr;obtain ⟨t,rfl⟩:=r;exact call_range_1 (P0 I1 0x2 0x2 q1 q2 (by simpa using q))
def tFor (wi:TI) (g:TG) (tb:TS):TS:=fun D σ H=>wi σ H fun J H1=>∃ W:Nat->Nat->St->Hp->Prop,(∃ m,W 0 m σ H1)/\∀ i m σ H,W i m σ H ->
 (J.stop i H/\D.nx σ H)\/(J.go i H/\∃ N:St->Hp->Prop,(∀ σ' H',N σ' H'->∃ m',m'<m/\W (i+1) m' σ' H')/\∀ x H',J.J7 i H x H'->g x σ H' fun σ2 H2=>tb { D with nx:=N,ct:=N,bk:=D.nx } σ2 H2)
def qW (fp:List Addr) (h:Heap):List 0x16:=fp.filterMap fun b=>(h.get? b).map fun o=>(b,o)
theorem gj {o:Obj} (hb:b∈fp) (e:h.get? b=some o):(b,o)∈qW fp h:=A4J.mpr ⟨b,hb,by rw [e];rfl⟩
theorem LC {p:Addr×Obj} (hp:p∈qW fp h):p.1∈fp/\h.get? p.1=some p.2:=by
 obtain ⟨b,hb,e⟩:=A4J.mp hp;cases q:h.get? b with
 | none=>rw [q] at e;cases e
 | some o =>
  rw [q] at e;have e':(b,o)=p:=A0T e;subst e';exact ⟨hb,q⟩
theorem Inv.pinned (I:Inv X pins σ H s) (hf:∀ b∈fp,j8 X pins H b) (ho:∀ b∈fp,∃ o,s.heap.get? b=some o/\∀ v,o.data≠.cell v):Inv X (pins++qW fp s.heap) σ H s :=
 I.J4 fun p hp=>(A0x.mp hp).elim (fun z=>I.pin p (A0y _ z)) fun z=>by
  obtain ⟨hb,e⟩:=LC z;obtain ⟨f0,f1,f2,_⟩:=hf p.1 hb;obtain ⟨o,e',d⟩:=ho p.1 hb;rw [e] at e';cases e';exact ⟨e,f0,f1,f2,d⟩
theorem Inv.lJ {pl:List 0x16} (I:Inv X (pins++pl) σ H s):Inv X pins σ H s:=I.J4 fun p hp=>I.pin p (A0y _ (A1l _ hp))
theorem gJ (hp:PassesOwn 0x9 X.A X.env X.xe) (hc:X.calm=true) (hi:PI X tg iter wi) (hg:PG X tg g) (hb:EY X body tb)
  (hs:∀ x,foldedSetIterable iter X.env x=pure x:=by intro _;rfl):PS X (.For tg iter body [] pos) (tFor wi g tb):=by
 intro pins s σ H D I h;refine wpAny_For (cH (hi pins s σ H _ I h) fun v s1 h1=>cH h1 fun itv s2 h2=>?_) hs;obtain ⟨it,fp,tn,J,H2,e,I2,T,st2,f2,W,⟨m0,w0⟩,turn⟩:=h2;subst e;have stat:∀ {H':Hp},0x7F->∀ b∈fp,j8 X pins H' b:=fun hn b hb=>⟨hn b hb,(f2 b hb).2⟩;refine codeAny_forLoop_any (fun n s'=>∃ i σ' H',Inv X pins σ' H' s'/\tn i s'.heap/\0x7F/\W i n σ' H') ?_ m0 ⟨0,σ,H2,I2,st2,fun b hb=>(f2 b hb).1,w0⟩;rintro n s3 ⟨i,σ3,H3,I3,st3,Yl,w3⟩;rcases turn i n σ3 H3 w3 with ⟨stop,qn⟩ | ⟨go,N,hN,step⟩
 ·refine A2M hp (cH (T.done X rfl rfl rfl hc i pins s3 σ3 H3 X.xe I3 (stat Yl) st3 stop) fun r s4 zq=>?_);obtain ⟨hr,I4⟩:=zq;subst hr;exact A4k ⟨σ3,H3,I4,qn⟩
 ·refine A2M hp (cH (T.item X rfl rfl rfl hc i pins s3 σ3 H3 X.xe I3 (stat Yl) st3 go) fun r s4 zq=>?_);obtain ⟨u,hr,h4⟩:=zq;subst hr;refine A2M hp (cH h4 fun _ s5 zq=>?_);obtain ⟨x,H5,I5,r5,y5,Pa,fr5⟩:=zq;have I5':=I5.pinned (stat fr5) (T.obj _ _ Pa);refine A2M hp (cH (hg _ s5 σ3 H5 x u _ I5' r5 (step x H5 y5)) fun _ s6 zq=>?_);obtain ⟨σ6,H6,I6,q6⟩:=zq;refine A2M hp (cH (hb _ s6 σ6 H6 _ I6 q6) fun f s7 q7=>?_);have again:∀ {σ7:St}{H7:Hp},Inv X (pins++qW fp s5.heap) σ7 H7 s7->N σ7 H7->∃ m,m<n/\∃ i σ' H',Inv X pins σ' H' s7/\tn i s7.heap/\0x7F/\W i m σ' H':=fun {σ7 H7} I7 n7=>by
   obtain ⟨m',hm,w7⟩:=hN σ7 H7 n7;refine ⟨m',hm,i+1,σ7,H7,I7.lJ,T.keep _ _ _ Pa fun b hb o e=>(I7.pin (b,o) (A0y _ (A0y _ (gj hb e)))).1,fun b hb=>?_,w7⟩;obtain ⟨o,e,d⟩:=T.obj _ _ Pa b hb;exact (I7.pin (b,o) (A0y _ (A0y _ (gj hb e)))).2.1
  cases f with
  | next=>obtain ⟨σ7,H7,I7,n7⟩:=q7;exact again I7 n7
  | cont=>obtain ⟨σ7,H7,I7,n7⟩:=q7;exact again I7 n7
  | brk=>obtain ⟨σ7,H7,I7,q7⟩:=q7;exact ⟨σ7,H7,I7.lJ,q7⟩
  | ret v=>obtain ⟨x7,σ7,H7,I7,r7,q7⟩:=q7;exact ⟨x7,σ7,H7,I7.lJ,r7,q7⟩
theorem gq {D:Ends} (Pv:Nat->St->Hp->Prop) (h0:Pv 0 σ H) (hl:∀ i σ H,i<=xs.length->Pv i σ H->bO K H a xs)
  (hs:∀ i x σ H,xs[i]?=some x->Pv i σ H->g x σ H fun σ2 H2=>tb { D with nx:=Pv (i+1),ct:=Pv (i+1),bk:=D.nx } σ2 H2) (hd:∀ σ H,Pv xs.length σ H->D.nx σ H) :
  ∃ W:Nat->Nat->St->Hp->Prop,(∃ m,W 0 m σ H)/\∀ i m σ H,W i m σ H ->
   ((Zk K a).stop i H/\D.nx σ H)\/((Zk K a).go i H/\∃ N:St->Hp->Prop,(∀ σ' H',N σ' H'->∃ m',m'<m/\W (i+1) m' σ' H')/\∀ x H',(Zk K a).J7 i H x H'->g x σ H' fun σ2 H2=>tb { D with nx:=N,ct:=N,bk:=D.nx } σ2 H2):=by
 refine ⟨fun i m σ H=>m=xs.length - i/\i<=xs.length/\Pv i σ H,⟨xs.length,by simp,A0X _,h0⟩,?_⟩;rintro i m σ H ⟨rfl,hi,p⟩;have q:=hl i σ H hi p
 by_cases hlt:i<xs.length
 ·refine .inr ⟨⟨xs,xs[i],q,by simp [hlt]⟩,Pv (i+1),fun σ' H' p'=>⟨xs.length - (i+1),by lia,rfl,hlt,p'⟩,fun x H' y=>?_⟩;obtain ⟨e,y⟩:=y;subst e;exact hs i x σ _ (y xs q) p
 ·have e:i=xs.length:=by lia
  subst e;exact .inl ⟨⟨xs,q,A0f _⟩,hd σ H p⟩
theorem lK {lo:Int}{D:Ends} (Pv:Nat->St->Hp->Prop) (h0:Pv 0 σ H)
  (hs:∀ i σ H,i<n->Pv i σ H->g (.int (lo+i)) σ H fun σ2 H2=>tb { D with nx:=Pv (i+1),ct:=Pv (i+1),bk:=D.nx } σ2 H2) (hd:∀ σ H,Pv n σ H->D.nx σ H) :
  ∃ W:Nat->Nat->St->Hp->Prop,(∃ m,W 0 m σ H)/\∀ i m σ H,W i m σ H ->
   ((Zm lo n).stop i H/\D.nx σ H)\/((Zm lo n).go i H/\∃ N:St->Hp->Prop,(∀ σ' H',N σ' H'->∃ m',m'<m/\W (i+1) m' σ' H')/\∀ x H',(Zm lo n).J7 i H x H'->g x σ H' fun σ2 H2=>tb { D with nx:=N,ct:=N,bk:=D.nx } σ2 H2):=by
 refine ⟨fun i m σ H=>m=n - i/\i<=n/\Pv i σ H,⟨n,by simp,A0X _,h0⟩,?_⟩;rintro i m σ H ⟨rfl,hi,p⟩
 by_cases hlt:i<n
 ·refine .inr ⟨hlt,Pv (i+1),fun σ' H' p'=>⟨n - (i+1),by lia,rfl,hlt,p'⟩,fun x H' y=>?_⟩;obtain ⟨e,y⟩:=y;subst e y;exact hs i σ _ hlt p
 ·have e:i=n:=by lia
  subst e;exact .inl ⟨A0f _,hd σ H p⟩
abbrev R2:=V->V->Hp->VK->Prop
def nA (X:Cx) (f:Value->Value->Sem Value) (r:R2):Prop :=
 ∀ (pins:List 0x16) (s:Shared) (σ:St) (H:Hp) (x y:V) (v u:Value) (Q:VK),Inv X pins σ H s->RelV x v->RelV y u->r x y H Q ->
  wpAny 0x9 X.A (f v u) 0x37 X.xe s
def UnR (X:Cx) (f:Value->Sem Value) (r:V->Hp->VK->Prop):Prop :=
 ∀ (pins:List 0x16) (s:Shared) (σ:St) (H:Hp) (x:V) (v:Value) (Q:VK),Inv X pins σ H s->RelV x v->r x H Q ->
  wpAny 0x9 X.A (f v) 0x37 X.xe s
def iy (X:Cx) (f:Value) (r:List V->Hp->VK->Prop):Prop :=
 ∀ (pins:List 0x16) (s:Shared) (σ:St) (H:Hp) (xs:List V) (us:List Value) (Q:VK),Inv X pins σ H s->Vals xs us->r xs H Q ->
  wpAny 0x9 X.A (call f us) 0x37 X.xe s
def tOp (r:R2) (ta tb:TE):TE:=fun σ H Q=>ta σ H fun x H1=>tb σ H1 fun y H2=>r x y H2 Q
def tUn (r:V->Hp->VK->Prop) (ta:TE):TE:=fun σ H Q=>ta σ H fun x H1=>r x H1 Q
inductive rI (C:Int->Int->Prop) (g:Int->Int->V) (x y:V) (H:Hp) (Q:VK):Prop
 | mk (i j:Int) (_:x=.int i) (_:y=.int j) (_:C i j) (_:Q (g i j) H):rI C g x y H Q
inductive Ym (g:Int->Int->V) (x y:V) (H:Hp) (Q:VK):Prop
 | mk (i j:Int) (_:x=.int i) (_:y=.int j) (_:Q (g i j) H):Ym g x y H Q
inductive rU (g:Int->V) (x:V) (H:Hp) (Q:VK):Prop
 | mk (i:Int) (_:x=.int i) (_:Q (g i) H):rU g x H Q
section
variable {a b c:Expr}{tb tc:TE}
theorem Zn (ha:PE X a ta) (hb:PE X b tb) {R:V->V->Hp->Prop} (I:Inv X pins σ H s)
  (h:ta σ H fun x H1=>tb σ H1 fun y H2=>R x y H2) {f:Value->Value->Sem Value}
  (hf:∀ v u s2 x y H2,Inv X pins σ H2 s2->RelV x v->RelV y u->R x y H2->wpAny 0x9 X.A (f v u) Q X.xe s2) :
  wpAny 0x9 X.A (eval a X.env) (fun v s₁=>wpAny 0x9 X.A (eval b X.env) (fun u s₂=>wpAny 0x9 X.A (f v u) Q X.xe s₂) X.xe s₁) X.xe s:=by
 refine cH 0x4C fun v s1 zq=>?_;obtain ⟨x,H1,I1,r1,q1⟩:=zq;refine cH (hb pins s1 σ H1 _ I1 q1) fun u s2 zq=>?_;obtain ⟨y,H2,I2,r2,q2⟩:=zq;exact hf v u s2 x y H2 I2 r1 r2 q2
theorem aY {op:Operator}{r:R2} (ho:nA X (binaryOp op) r) (ha:PE X a ta) (hb:PE X b tb):PE X (.BinOp a op b pos) (tOp r ta tb):=by
 intro pins s σ H Q I h;exact wpAny_BinOp (Zn ha hb I h fun v u s2 x y H2 I2 rx ry q=>ho pins s2 σ H2 x y v u Q I2 rx ry q)
theorem uw {op:UnaryOp}{r:V->Hp->VK->Prop} (ho:UnR X (unaryOp op) r) (ha:PE X a ta):PE X (.UnaryOp op a pos) (tUn r ta):=by
 intro pins s σ H Q I h;exact UnaryOp_ (cH 0x4C fun v s1 ⟨x,H1,I1,r1,q1⟩=>ho pins s1 σ H1 x v Q I1 r1 q1)
theorem opI {f:Value->Value->Sem Value}{C:Int->Int->Prop}{g:Int->Int->Int}
  (rule:∀ (i j:Int) (t u:Tok) (s:Shared) (Q:Value->Shared->Prop) (E:Value->Shared->Prop),C i j->Q (.int (g i j) s.toks) { s with toks:=s.toks+1 }->wpAny 0x9 X.A (f (.int i t) (.int j u)) Q E s) :
  nA X f (rI C fun i j=>.int (g i j)):=by
 intro pins s σ H x y v u Q I rx ry h;obtain ⟨i,j,rfl,rfl,hc,q⟩:=h;obtain ⟨t,rfl⟩:=rx;obtain ⟨t',rfl⟩:=ry;exact rule i j t t' s _ _ hc ⟨.int (g i j),H,I.tok _,⟨_,rfl⟩,q⟩
theorem opI0 {f:Value->Value->Sem Value}{g:Int->Int->Int}
  (rule:∀ (i j:Int) (t u:Tok) (s:Shared) (Q:Value->Shared->Prop) (E:Value->Shared->Prop),Q (.int (g i j) s.toks) { s with toks:=s.toks+1 }->wpAny 0x9 X.A (f (.int i t) (.int j u)) Q E s) :
  nA X f (Ym fun i j=>.int (g i j)):=by
 intro pins s σ H x y v u Q I rx ry h;obtain ⟨i,j,rfl,rfl,q⟩:=h;obtain ⟨t,rfl⟩:=rx;obtain ⟨t',rfl⟩:=ry;exact rule i j t t' s _ _ ⟨.int (g i j),H,I.tok _,⟨_,rfl⟩,q⟩
theorem Zo {f:Value->Value->Sem Value}{g:Int->Int->Bool}
  (rule:∀ (i j:Int) (t u:Tok) (s:Shared) (Q:Value->Shared->Prop) (E:Value->Shared->Prop),Q (.bool (g i j)) s->wpAny 0x9 X.A (f (.int i t) (.int j u)) Q E s) :
  nA X f (Ym fun i j=>.bl (g i j)):=by
 intro pins s σ H x y v u Q I rx ry h;obtain ⟨i,j,rfl,rfl,q⟩:=h;obtain ⟨t,rfl⟩:=rx;obtain ⟨t',rfl⟩:=ry;exact rule i j t t' s _ _ ⟨.bl (g i j),H,I,rfl,q⟩
def CDiv (i j:Int):Prop:=0<j/\j<1073741824
def CPow (i j:Int):Prop:=0<=j/\j<=1000000/\i.natAbs<2 ^ 64
def Zq (i j:Int):Prop:=(-(2 ^ 64)<i/\i<2 ^ 64)\/(-(2 ^ 64)<j/\j<2 ^ 64)
theorem Zq.ok {i j:Int} (h:Zq i j):IntMulOk i j:=by
 rcases h with ⟨h1,h2⟩ | ⟨h1,h2⟩
 ·exact .of_left (intBits_le_64 h1 h2)
 ·exact .of_right (intBits_le_64 h1 h2)
theorem cZ:nA X (binaryOp .Add) (Ym fun i j=>.int (i+j)):=opI0 fun _ _ _ _ _ _ _ q=>add_int q
theorem yH:nA X (binaryOp .Sub) (Ym fun i j=>.int (i - j)):=opI0 fun _ _ _ _ _ _ _ q=>sub_int q
theorem kY:nA X (binaryOp .Mult) (rI Zq fun i j=>.int (i * j)):=opI fun _ _ _ _ _ _ _ hc q=>mul_int q hc.ok
theorem jB:nA X (binaryOp .FloorDiv) (rI CDiv fun i j=>.int (i / j)):=opI fun i j _ _ _ _ _ hc q=>by
 have h1:(0:Int)<j:=hc.1;have h2:j<1073741824:=hc.2;exact floordiv_int 0x2 (by rw [Int.fdiv_eq_ediv_of_nonneg i 0x2];exact q) (.inl (PyProof.noPylong_small 0x2))
theorem bY:nA X (binaryOp .Mod) (rI (fun _ j=>0<j) fun i j=>.int (i % j)):=opI fun i j _ _ _ _ _ hc q=>by
 have h1:(0:Int)<j:=hc;exact mod_int' 0x2 (by rw [Int.fmod_eq_emod_of_nonneg i 0x2];exact q)
theorem Zr:nA X (binaryOp .Pow) (rI CPow fun i j=>.int (i ^ j.toNat)):=opI fun _ _ _ _ _ _ _ hc q=>pow_int_small hc.1 hc.2.1 hc.2.2 q
theorem unI {f:Value->Sem Value}{g:Int->Int}
  (rule:∀ (i:Int) (t:Tok) (s:Shared) (Q:Value->Shared->Prop) (E:Value->Shared->Prop),Q (.int (g i) s.toks) { s with toks:=s.toks+1 }->wpAny 0x9 X.A (f (.int i t)) Q E s) :
  UnR X f (rU fun i=>.int (g i)):=by
 intro pins s σ H x v Q I rx h;obtain ⟨i,rfl,q⟩:=h;obtain ⟨t,rfl⟩:=rx;exact rule i t s _ _ ⟨.int (g i),H,I.tok _,⟨_,rfl⟩,q⟩
theorem pq:UnR X (unaryOp .USub) (rU fun i=>.int (-i)):=unI fun _ _ _ _ _ q=>neg_int q
def Pb:V->V->Bool
 | .non,.non=>true | .non,.int _=>true | .int _,.non=>true | .non,.bl _=>true | .bl _,.non=>true | .non,.str _=>true | .str _,.non=>true
 | .int _,.int _=>true | .bl _,.bl _=>true | .str _,.str _=>true | .J3 _,.J3 _=>true
 | .int _,.str _=>true | .str _,.int _=>true | .bl _,.str _=>true | .str _,.bl _=>true
 | _,_=>false
def rEq:R2:=fun x y H Q=>Pb x y=true/\Q (.bl (decide (x=y))) H
def rNe:R2:=fun x y H Q=>Pb x y=true/\Q (.bl (!decide (x=y))) H
theorem Jb {i j:Int}:decide (V.int i=V.int j)=(i==j):=by
 rw [A1n];simp
theorem Pg {i j:Bool}:decide (V.bl i=V.bl j)=(i==j):=by
 rw [A1n];simp
theorem gC {i j:Str}:decide (V.str i=V.str j)=(i==j):=by
 rw [A1n];simp
theorem Jc {i j:Array UInt8}:decide (V.J3 i=V.J3 j)=(i.toList==j.toList):=by
 rw [A1n];cases i;cases j;simp
theorem cB {Q:VK}{k k':Bool} (I:Inv X pins σ H s) (q:Q (.bl k) H) (e:k=k'):EP X pins σ Q (.bool k') s:=by
 subst e;exact ⟨.bl k,H,I,rfl,q⟩
theorem dI:nA X (compareOp .Eq) rEq:=by
 intro pins s σ H x y v u Q I rx ry h;obtain ⟨hs,q⟩:=h;cases x with
 | non =>
  cases rx;cases y with
  | non=>cases ry;exact PySem.EqNone.eq_none_none 0x41
  | bl j=>cases ry;exact PySem.EqNone.eq_none_bool 0x41
  | int j=>obtain ⟨t',rfl⟩:=ry;exact PySem.EqNone.eq_none_int 0x41
  | str j=>obtain ⟨t',rfl⟩:=ry;exact PySem.EqNone.eq_none_str 0x41
  | _=>exact absurd 0x2A A0o
 | bl i =>
  cases rx;cases y with
  | non=>cases ry;exact PySem.EqNone.eq_bool_none 0x41
  | bl j=>cases ry;exact eq_bool (cB I q Pg)
  | str j=>obtain ⟨t',rfl⟩:=ry;exact PySem.EqMixed.eq_bool_str 0x41
  | _=>exact absurd 0x2A A0o
 | int i =>
  obtain ⟨t,rfl⟩:=rx;cases y with
  | non=>cases ry;exact PySem.EqNone.eq_int_none 0x41
  | int j=>obtain ⟨t',rfl⟩:=ry;exact eq_int (cB I q Jb)
  | str j=>obtain ⟨t',rfl⟩:=ry;exact PySem.EqMixed.eq_int_str 0x41
  | _=>exact absurd 0x2A A0o
 | str i =>
  obtain ⟨t,rfl⟩:=rx;cases y with
  | non=>cases ry;exact PySem.EqNone.eq_str_none 0x41
  | bl j=>cases ry;exact PySem.EqMixed.eq_str_bool 0x41
  | int j=>obtain ⟨t',rfl⟩:=ry;exact PySem.EqMixed.eq_str_int 0x41
  | str j=>obtain ⟨t',rfl⟩:=ry;exact eq_str (cB I q gC)
  | _=>exact absurd 0x2A A0o
 | J3 i =>
  obtain ⟨t,rfl⟩:=rx;cases y with
  | J3 j=>obtain ⟨t',rfl⟩:=ry;exact PySem.W.eq_bytes (cB I q Jc)
  | _=>exact absurd 0x2A A0o
 | _=>cases y <;> exact absurd 0x2A A0o
theorem nF:nA X (compareOp .NotEq) rNe:=by
 intro pins s σ H x y v u Q I rx ry h;obtain ⟨hs,q⟩:=h;cases x with
 | non =>
  cases rx;cases y with
  | non=>cases ry;exact PySem.EqNone.ne_none_none 0x41
  | bl j=>cases ry;exact PySem.EqNone.ne_none_bool 0x41
  | int j=>obtain ⟨t',rfl⟩:=ry;exact PySem.EqNone.ne_none_int 0x41
  | str j=>obtain ⟨t',rfl⟩:=ry;exact PySem.EqNone.ne_none_str 0x41
  | _=>exact absurd 0x2A A0o
 | bl i =>
  cases rx;cases y with
  | non=>cases ry;exact PySem.EqNone.ne_bool_none 0x41
  | bl j=>cases ry;exact ne_bool (cB I q (A1G not Pg))
  | str j=>obtain ⟨t',rfl⟩:=ry;exact PySem.EqMixed.ne_bool_str 0x41
  | _=>exact absurd 0x2A A0o
 | int i =>
  obtain ⟨t,rfl⟩:=rx;cases y with
  | non=>cases ry;exact PySem.EqNone.ne_int_none 0x41
  | int j=>obtain ⟨t',rfl⟩:=ry;exact ne_int (cB I q (A1G not Jb))
  | str j=>obtain ⟨t',rfl⟩:=ry;exact PySem.EqMixed.ne_int_str 0x41
  | _=>exact absurd 0x2A A0o
 | str i =>
  obtain ⟨t,rfl⟩:=rx;cases y with
  | non=>cases ry;exact PySem.EqNone.ne_str_none 0x41
  | bl j=>cases ry;exact PySem.EqMixed.ne_str_bool 0x41
  | int j=>obtain ⟨t',rfl⟩:=ry;exact PySem.EqMixed.ne_str_int 0x41
  | str j=>obtain ⟨t',rfl⟩:=ry;exact ne_str (cB I q (A1G not gC))
  | _=>exact absurd 0x2A A0o
 | J3 i =>
  obtain ⟨t,rfl⟩:=rx;cases y with
  | J3 j=>obtain ⟨t',rfl⟩:=ry;exact PySem.W.ne_bytes (cB I q (A1G not Jc))
  | _=>exact absurd 0x2A A0o
 | _=>cases y <;> exact absurd 0x2A A0o
theorem ux:nA X (compareOp .Lt) (Ym fun i j=>.bl (decide (i<j))):=Zo fun _ _ _ _ _ _ _ q=>lt_int q
theorem Bw:nA X (compareOp .LtE) (Ym fun i j=>.bl (decide (i<=j))):=Zo fun _ _ _ _ _ _ _ q=>le_int q
theorem Ph:nA X (compareOp .Gt) (Ym fun i j=>.bl (decide (j<i))):=Zo fun _ _ _ _ _ _ _ q=>gt_int q
theorem Pj:nA X (compareOp .Is) (fun x y H Q=>y=.non/\Q (.bl (decide (x=.non))) H):=by
 intro pins s σ H x y v u Q I rx ry h;obtain ⟨rfl,q⟩:=h;cases ry;refine is_none_gen (cB I q ?_);cases x <;> first
  | (cases rx;rfl)
  | (obtain ⟨t,rfl⟩:=rx;rfl)
theorem Jd:nA X (compareOp .IsNot) (fun x y H Q=>y=.non/\Q (.bl (!decide (x=.non))) H):=by
 intro pins s σ H x y v u Q I rx ry h;obtain ⟨rfl,q⟩:=h;cases ry;refine isnot_none_gen (cB I q ?_);cases x <;> first
  | (cases rx;rfl)
  | (obtain ⟨t,rfl⟩:=rx;rfl)
theorem bB (b:Expr)  (h:op≠.In:=by decide) (h2:op≠.NotIn:=by decide):behindInMarks op b=false:=by
 have e1:(op==CmpOp.In)=false:=by cases op <;> first | rfl | exact absurd rfl h
 have e2:(op==CmpOp.NotIn)=false:=by cases op <;> first | rfl | exact absurd rfl h2
 cases b <;> simp [behindInMarks,e1,e2]
theorem je {r:R2} (ho:nA X (compareOp op) r) (ha:PE X a ta) (hb:PE X b tb) (hm:behindInMarks op b=false):PE X (.Compare a [op] [b] pos) (tOp r ta tb):=by
 intro pins s σ H Q I h;exact wpAny_Compare1 (Zn ha hb I h fun v u s2 x y H2 I2 rx ry q=>ho pins s2 σ H2 x y v u Q I2 rx ry q) hm
inductive Je (Q:Bool->Hp->Prop) (x:V) (H':Hp):Prop
 | mk (k:Bool) (_:x=.bl k) (_:Q k H'):Je Q x H'
def a1H (t:TE):TT:=fun σ H Q=>t σ H fun x H'=>Je Q x H'
theorem aQ {r:R2} (ho:nA X (compareOp op) r) (ha:PE X a ta) (hb:PE X b tb) (hm:behindInMarks op b=false):PT X (.Compare a [op] [b] pos) (a1H (tOp r ta tb)):=by
 intro pins s σ H Q I h;refine wpAny_isTrue_Compare1 (cH 0x4C fun v s1 ⟨x,H1,I1,r1,q1⟩=>cH (hb pins s1 σ H1 _ I1 q1) fun u s2 ⟨y,H2,I2,r2,q2⟩ =>
  cH (ho pins s2 σ H2 x y v u _ I2 r1 r2 q2) fun c s3 ⟨z,H3,I3,r3,k,e,q3⟩=>?_) hm
 subst e;cases r3;exact A2p ⟨H3,I3,q3⟩
inductive BJ (r':R2) (tc:TE) (σ:L2.St) (Q:VK) (y z:V) (H3:Hp):Prop
 | mk (k:Bool) (_:z=.bl k) (_:(if k=true then tc σ H3 fun w' H4=>r' y w' H4 Q else Q (.bl false) H3)):BJ r' tc σ Q y z H3
def Zt (r r':R2) (ta tb tc:TE):TE:=fun σ H Q=>ta σ H fun x H1=>tb σ H1 fun y H2=>r x y H2 fun z H3=>BJ r' tc σ Q y z H3
theorem BK {op':CmpOp}{r r':R2} (ho:nA X (compareOp op) r) (ho':nA X (compareOp op') r') (ha:PE X a ta) (hb:PE X b tb) (hc:PE X c tc)
  (hm:lastMarks [op,op'] [b,c]=false:=by with_unfolding_all rfl):PE X (.Compare a [op,op'] [b,c] pos) (Zt r r' ta tb tc):=by
 intro pins s σ H Q I h;refine Compare_chain (cH 0x4C fun v s1 ⟨x,H1,I1,r1,q1⟩=>chain_link (cH (hb pins s1 σ H1 _ I1 q1) fun u s2 ⟨y,H2,I2,r2,q2⟩ =>
  cH (ho pins s2 σ H2 x y v u _ I2 r1 r2 q2) fun d s3 ⟨z,H3,I3,r3,k,e,q3⟩=>?_)) hm
 subst e;cases r3;refine A2p ?_;cases k with
 | false=>exact ite_ff ⟨.bl false,H3,I3,rfl,q3⟩
 | true=>exact ite_tt (chain_last (cH (hc pins s3 σ H3 _ I3 q3) fun w' s4 ⟨z',H4,I4,r4,q4⟩=>ho' pins s4 σ H4 y z' u w' Q I4 r2 r4 q4))
theorem uy:(sizeLine:Nat)<2 ^ 63:=by rw [A1e];decide
theorem uz:nA X (binaryOp .Add) (fun x y H Q=>∃ i j,x=.str i/\y=.str j/\i.length+j.length<=sizeLine/\Q (.str (i++j)) H):=by
 intro pins s σ H x y v u Q I rx ry h;obtain ⟨i,j,rfl,rfl,hz,q⟩:=h;obtain ⟨t,rfl⟩:=rx;obtain ⟨t',rfl⟩:=ry;exact add_str (fun t' tk=>⟨.str (i++j),H,I.tok _,⟨_,rfl⟩,q⟩) hz
theorem vals1 {x:V} (r:Vals [x] us):∃ u,us=[u]/\RelV x u:=by
 cases r with
 | cons r1 r2=>cases r2;exact ⟨_,rfl,r1⟩
theorem vals2 {x:V} (r:Vals [x,y] us):∃ u w',us=[u,w']/\RelV x u/\RelV y w':=by
 cases r with
 | cons r1 r2 =>
  cases r2 with
  | cons r3 r4=>cases r4;exact ⟨_,_,rfl,r1,r3⟩
theorem wF (hc:X.calm=true):iy X (.builtin "max") (fun xs H Q=>∃ i j,xs=[.int i,.int j]/\Q (.int (if j > i then j else i)) H):=by
 intro pins s σ H xs us Q I r h;obtain ⟨i,j,rfl,q⟩:=h;obtain ⟨u,w',rfl,⟨t,rfl⟩,⟨t',rfl⟩⟩:=vals2 r;refine max_two_ints (I.ok.hd hc) fun h' tk k=>⟨_,H,I.kept k,?_,q⟩
 by_cases hj:j > i
 ·rw [A0i hj,A0i hj];exact ⟨_,rfl⟩
 ·rw [A0e hj,A0e hj];exact ⟨_,rfl⟩
theorem wG (hc:X.calm=true):iy X (.builtin "min") (fun xs H Q=>∃ i j,xs=[.int i,.int j]/\Q (.int (if j<i then j else i)) H):=by
 intro pins s σ H xs us Q I r h;obtain ⟨i,j,rfl,q⟩:=h;obtain ⟨u,w',rfl,⟨t,rfl⟩,⟨t',rfl⟩⟩:=vals2 r;refine min_two_ints (I.ok.hd hc) fun h' tk k=>⟨_,H,I.kept k,?_,q⟩
 by_cases hj:j<i
 ·rw [A0i hj,A0i hj];exact ⟨_,rfl⟩
 ·rw [A0e hj,A0e hj];exact ⟨_,rfl⟩
end
structure Fp (h:Heap) (x dx C:Addr) (mA:Str->Option Value):Prop where
 obj:h.get? x=some (PySem.W.instObj C dx)
 ns:h.Ns1 dx mA
 ne:dx≠x
theorem LQ (n:h.Ns1 dx mA):∃ od,h.get? dx=some od/\∀ name,PySem.W.lookIn name od=some (mA name):=by
 obtain ⟨o,es,ep,ho,hd,hk,_,hm⟩:=n;refine ⟨o,ho,fun name=>?_⟩;have e:=hm name;unfold nsFind findBy at e;rw [<- Array.find?_toList] at e;unfold PySem.W.lookIn;rw [hd];dsimp only
 split
 ·rename_i y q
  rw [q] at e;exact A1G some e
 ·rename_i q
  rw [q] at e;have a:es.toList.any (·.refKey)=false:=by
   rw [A3T];intro y hy;obtain ⟨z,t,hkey⟩:=hk y (Array.mem_toList_iff.mp hy);simp [DictEntry.refKey,hkey]
  have a':¬ es.toList.any (·.refKey)=true:=by rw [a];exact A0o
  rw [A0e a'];exact A1G some e
theorem Fp.look {x:Addr} (I:Fp h x dx C mA):∃ od,PySem.W.InstAt h x (PySem.W.instObj C dx) C (some od)/\∀ name,PySem.W.lookIn name od=some (mA name) :=
 let ⟨od,ho,hl⟩:=LQ I.ns
 ⟨od,⟨I.obj,rfl,rfl,ho⟩,hl⟩
section
variable {x:Addr}{v:Value}
theorem get_map {expr:Bool} (X:K.In s.heap) (I:Fp s.heap x dx C mA) (hg:PySem.W.plainGet K C name=true) (hh:PySem.W.hasDictIn K C=true)
  (ha:PySem.W.findIn K 0x87 name=some none) (hv:mA name=some v) (hv':PySem.W.handedIn v=true) (h:Q v { s with toks:=s.toks+1 }) :
  wpAny 0xC A (getAttr (.ref x) name expr) Q E s:=by
 obtain ⟨od,J,hl⟩:=I.look;exact PySem.W.get_value X J (A4s hg).1 (PySem.W.findObj_own hh ha rfl (by rw [hl,hv])) hv' h
theorem Pk {Q:Value×List Value->Shared->Prop} (X:K.In s.heap) (I:Fp s.heap x dx C mA) (hg:PySem.W.plainGet K C name=true)
  (hf:PySem.W.findIn K 0x87 name=some (some 0x4E)) (ht:PySem.W.isFn K 0x4E=true) (hv:mA name=none) (h:Q (.ref f,[.ref x]) s) :
  wpAny 0xC A (getMethod (.ref x) name pl) Q E s:=by
 obtain ⟨od,J,hl⟩:=I.look;exact PySem.W.method_fn X J (A4s hg).1 (A4s hg).2 hf (A3N.mp ht) (by show (PySem.W.lookIn name od).map (·.isSome)=some false;rw [hl,hv];rfl) h
theorem VB {ns:List Str}{Q:Unit->Shared->Prop} (X:K.In s.heap) (I:Fp s.heap x dx C mA)
  (hs:PySem.W.findIn K 0x87 "__setattr__"=some (some (.builtin "object.__setattr__"))) (hp:PySem.W.plainOver K C=true) (ht:PySem.W.takerIn K C name=some none) (hh:PySem.W.hasDictIn K C=true)
  (hw:PySem.Within mA ns) (hsz:ns.length<=sizeLine)
  (h:∀ h',Fp h' x dx C (fun y=>if y=name then some v else mA y)->Heap.SameBut dx s.heap h'->Q () { s with heap:=h',toks:=s.toks+2 }) :
  wpAny 0xC A (setAttr (.ref x) name v) Q E s:=by
 obtain ⟨od,J,hl⟩:=I.look;refine PySem.W.set_plain X J hs (PySem.W.osa_open (s:={ s with toks:=s.toks+1 }) (r:=none) X J hp ht fun b=>?_);obtain ⟨cd,hc,hd'⟩:=PySem.W.any_some hh;have hx:s.heap.get? x=some ⟨.ref C,some dx,.plain,#[]⟩:=I.obj;refine A0a (wpAny_pure (A0a (A0a (wpAny_loadPart hx (A0a (PySem.W.Looks.here (s:={ s with toks:=s.toks+1 }) (PySem.W.looks_clsIn X hc) ?_))))));rw [hd'];refine wpAny_pure (a:=some dx) (A0a (wpAny_pure (A0a ?_)));refine wpAny_nsSet1 (s:={ s with toks:=s.toks+1 }) I.ns fun h' hn2 hs2=>?_;obtain ⟨oD,esD,epD,hoD,hdD,hcD⟩:=hn2.count (PySem.Within.cons name v hw);refine A0a (wpAny_lookBehind hoD (by rw [hdD];exact pastItsLine_dict (A0O hcD (by rw [oX];lia))) ?_);exact wpAny_pure (h _ ⟨(hs2.2 _ (A0m I.ne)).trans I.obj,hn2,I.ne⟩ hs2)
theorem Pn {R:Result->Shared->Prop}{vs:List Value} (X:K.In s.heap) (hm:PySem.W.makesIn K C=true)
  (hi:PySem.W.findIn K 0x87 "__init__"=some (some 0x4E)) (hf:PySem.W.typeIn K 0x4E=some (.type "function"))
  (h:codeAny 0xC (A.under (.builtin "type.__call__" ⟨.ref C::vs,kw⟩)) (.call 0x4E ⟨.ref 0x12::vs,kw⟩) (PySem.W.InitBack 0x12 R)
   { s with heap:=(0x47).push 0x7B }) :
  codeAny 0xC A (.call 0x87 ⟨vs,kw⟩) R s:=by
 obtain ⟨hh,g,d,t,os⟩:=s;exact PySem.W.make_core (PySem.W.makes_of X hm) (PySem.W.looks_findIn X hi) (fun self=>PySem.W.bind_fn X self hf) 0x51 h
end
def nG (f:Str) (v:V):List 0x81->List 0x81
 | []=>[(f,v)]
 | (g,x)::r=>if g=f then (g,v)::r else (g,x)::nG f v r
theorem rW (f g:Str) (v:V):∀ fs:List 0x81,(nG f v fs).lookup g=if g=f then some v else fs.lookup g
 | []=>by
  show List.lookup g [(f,v)]=_
  by_cases h:g=f
  ·have hb:(g==f)=true:=A3N.mpr h;simp only [List.lookup,hb,A0i h]
  ·have hb:(g==f)=false:=A1J.mpr h;simp only [List.lookup,hb,A0e h]
 | (k,x)::r=>by
  have ih:=rW f g v r;rw [show nG f v ((k,x)::r)=(if k=f then (k,v)::r else (k,x)::nG f v r) from rfl]
  by_cases hk:k=f
  ·rw [A0i hk]
   by_cases h:g=k
   ·have hb:(g==k)=true:=A3N.mpr h;simp only [List.lookup,hb,A0i (h.trans hk)]
   ·have hb:(g==k)=false:=A1J.mpr h;simp only [List.lookup,hb,A0e (fun e:g=f=>h (e.trans hk.symm))]
  ·rw [A0e hk]
   by_cases h:g=k
   ·have hb:(g==k)=true:=A3N.mpr h;simp only [List.lookup,hb,A0e (fun e:g=f=>hk (h.symm.trans e))]
   ·have hb:(g==k)=false:=A1J.mpr h;simp only [List.lookup,hb];exact ih
theorem qX (f:Str) (v:V):∀ fs:List 0x81,f∈(nG f v fs).map (·.1)/\∀ g,g∈fs.map (·.1)->g∈(nG f v fs).map (·.1)
 | []=>⟨by simp [nG],fun g h=>by simp at h⟩
 | (k,x)::r=>by
  obtain ⟨i1,i2⟩:=qX f v r;rw [show nG f v ((k,x)::r)=(if k=f then (k,v)::r else (k,x)::nG f v r) from rfl]
  by_cases hk:k=f
  ·rw [A0i hk];subst hk;exact ⟨by simp,fun g h=>by simpa using h⟩
  ·rw [A0e hk];refine ⟨?_,fun g h=>?_⟩
   ·rw [A0h];exact iT _ i1
   ·rw [A0h] at h ⊢;rcases A0d.mp h with e | e
    ·exact A0d.mpr (.inl e)
    ·exact iT _ (i2 g e)
theorem rY (f:Str) (v:V):∀ fs:List 0x81,(nG f v fs).length<=fs.length+1
 | []=>by simp [nG]
 | (k,x)::r=>by
  have ih:=rY f v r;rw [show nG f v ((k,x)::r)=(if k=f then (k,v)::r else (k,x)::nG f v r) from rfl]
  by_cases hk:k=f
  ·rw [A0i hk,oX,oX];lia
  ·rw [A0e hk,oX,oX];lia
theorem jA.some_of {o:Option Value} (r:jA (some v) o):∃ u,o=some u/\RelV v u:=by
 cases o with
 | none=>exact (show False from r).elim
 | some u=>exact ⟨u,rfl,r⟩
theorem jA.none_of {o:Option Value} (r:jA none o):o=none:=by
 cases o with
 | none=>rfl
 | some u=>exact (show False from r).elim
theorem LR (r:RelV v u):PySem.W.handedIn u=true:=by
 cases v with
 | non=>cases (show u=Value.none from r);rfl
 | bl b=>cases (show u=Value.bool b from r);rfl
 | int i=>obtain ⟨t,e⟩:=(show ∃ t,u=Value.int i t from r);cases e;rfl
 | str x=>obtain ⟨t,e⟩:=(show ∃ t,u=Value.str x t from r);cases e;rfl
 | J3 b=>obtain ⟨t,e⟩:=(show ∃ t,u=Value.bytes b t from r);cases e;rfl
 | flt b=>obtain ⟨t,e⟩:=(show ∃ t,u=Value.float b t from r);cases e;rfl
 | ref a=>cases (show u=Value.ref a from r);rfl
 | ty n=>cases (show u=Value.type n from r);rfl
section
variable {fs:List 0x81}
theorem sX (hok:oE P w H h) (e:H a=some (.ins C dx fs)):∃ mA,Fp h a dx C mA/\(∀ f,jA (fs.lookup f) (mA f))/\PySem.Within mA (fs.map (·.1))/\fs.length<=1000/\H dx=some (.own a):=by
 obtain ⟨d,z,ne,ob,mA,n,r,q⟩:=(show cJ P w H h a (.ins C dx fs) from hok a _ e)
 exact ⟨mA,⟨ob,n,ne⟩,r,q,z,d⟩
end
structure Cls (K:PySem.W.Frag) (C:Addr):Prop where
 pg:PySem.W.plainGet K C Str.empty=true
 hd:PySem.W.hasDictIn K C=true
 po:PySem.W.plainOver K C=true
 sa:PySem.W.findIn K 0x87 "__setattr__"=some (some (.builtin "object.__setattr__"))
theorem Cls.get (c:Cls K C) (f:Str):PySem.W.plainGet K C f=true:=c.pg
def dJ (K:PySem.W.Frag) (C:Addr) (f:Str):Prop:=PySem.W.findIn K 0x87 f=some none
theorem dJ.taker {f:Str} (n:dJ K C f):PySem.W.takerIn K C f=some none:=by
 unfold PySem.W.takerIn;rw [show PySem.W.findIn K 0x87 f=some none from n]
 rfl
structure Con (K:PySem.W.Frag) (C:Addr) (f:Str) (v:V) (u:Value):Prop where
 at_:PySem.W.findIn K 0x87 f=some (some u)
 rel:RelV v u
 get:PySem.W.specialIn K u "__get__"=some none
 cp:PySem.W.copiedNames.contains f=false
structure Meth (K:PySem.W.Frag) (C:Addr) (m:Str) (f:Addr):Prop where
 at_:PySem.W.findIn K 0x87 m=some (some 0x4E)
 fn:PySem.W.isFn K 0x4E=true
 kp:PySem.W.keepIn K 0x4E=true
section
variable {fs:List 0x81}{f:Str}
theorem Fq {b:Bool} (I:Inv X pins σ H s) (e:H a=some (.ins C dx fs)) (c:Cls X.K C) (n:dJ X.K C f) (l:fs.lookup f=some v)
  (h:∀ u s',Inv X pins σ H s'->RelV v u->Q u s'):wpAny 0x9 A (getAttr 0x3C f b) Q E s:=by
 obtain ⟨mA,O,r,_,_,_⟩:=sX I.hok e;obtain ⟨u,hu,ru⟩:=jA.some_of (v:=v) (o:=mA f) (by rw [<- l];exact r f);exact get_map I.oO O (c.get f) c.hd n hu (LR ru) (h u _ (I.tok _) ru)
theorem uD {m:Str}{g:Addr}{Q:Value×List Value->Shared->Prop} (I:Inv X pins σ H s) (e:H a=some (.ins C dx fs)) (c:Cls X.K C) (k:Meth X.K C m g) (l:fs.lookup m=none)
  (h:Q (.ref g,[.ref a]) s):wpAny 0x9 A (getMethod 0x3C m pl) Q E s:=by
 obtain ⟨mA,O,r,_,_,_⟩:=sX I.hok e;have hn:mA m=none:=jA.none_of (by rw [<- l];exact r m);exact Pk I.oO O (c.get m) k.at_ k.fn hn h
theorem Ft {Q:Unit->Shared->Prop} (I:Inv X pins σ H s) (e:H a=some (.ins C dx fs)) (c:Cls X.K C) (n:dJ X.K C f) (hl:fs.length<1000) (ry:RelV y u)
  (h:∀ s',Inv X pins σ (upd H a (.ins C dx (nG f y fs))) s'->Q () s'):wpAny 0x9 A (setAttr 0x3C f u) Q E s:=by
 obtain ⟨mA,O,r,wi,_,ho⟩:=sX I.hok e;have hz:(fs.map (·.1)).length<=sizeLine:=by rw [bV,A1e];lia
 refine VB I.oO O c.sa c.po n.taker c.hd wi hz fun h' O' sb=>h _ ?_;have hd:∃ o,h'.get? dx=some o:=let ⟨o,_,_,e',_⟩:=O'.ns;⟨o,e'⟩
 refine I.write (x:=a) (e:=dx) 0x57 (.inr ho) (fun b q hb z=>(sb.2 b hb).trans z) hd ?_;refine ⟨by rw [ak O.ne];exact ho,?_,O.ne,O'.obj,_,O'.ns,fun g=>?_,fun g hg=>?_⟩
 ·have:=rY f y fs;lia
 ·show jA ((nG f y fs).lookup g) (if g=f then some u else mA g)
  rw [rW]
  by_cases q:g=f
  ·rw [A0i q,A0i q];exact ry
  ·rw [A0e q,A0e q];exact r g
 ·by_cases q:g=f
  ·rw [q];exact (qX f y fs).1
  ·refine (qX f y fs).2 g (wi g fun z=>hg ?_)
   show (if g=f then some u else mA g)=none
   rw [A0e q];exact z
theorem Inv.made (I:Inv X pins σ H s):Inv X pins σ (upd (upd H s.heap.objs.size (.own 0x12)) 0x12 (.ins C s.heap.objs.size []))
  { s with heap:=(0x47).push 0x7B }:=by
 have e1:(0x47).get? s.heap.objs.size=some PySem.W.emptyDict:=A0n s.heap rfl;have e2:((0x47).push 0x7B).get? 0x12=some 0x7B:=by
  have:=A0n 0x47 (o:=PySem.W.instObj C s.heap.objs.size) rfl
  rwa [A1S] at this
 have e3:(0x47).Ns s.heap.objs.size (fun _=>none):=⟨PySem.W.emptyDict,#[],_,e1,rfl,(fun e he=>absurd he 0xA),fun _=>rfl⟩;have I1:=I.laid (a:=s.heap.objs.size) (o:=.own 0x12) (h':=s.heap.push PySem.W.emptyDict) (t':=s.toks) (fun b u q=>A0b _ q) 0x2D ⟨_,e1⟩;refine I1.laid (a:=s.heap.objs.size+1) (o:=.ins C s.heap.objs.size []) (t':=s.toks) (fun b u q=>A0b _ q) (Nat.le_of_eq (A1S _ _)) ?_;have ne:s.heap.objs.size≠s.heap.objs.size+1:=A0I (A3a _);refine ⟨by rw [ak ne,ao],A0X _,ne,e2,fun _=>none,(Heap.Ns1.of_empty e3).at fun o q=>A0b _ q,fun _=>True.intro,fun y hy=>absurd rfl hy⟩
theorem VD {f:Str} (hb:attributeBase e f env (eval e env)=eval e env)
  (h:wpAny 0xC A (eval e env) (fun o s₁=>wpAny 0xC A (getAttr o f true) Q E s₁) E s):wpAny 0xC A (eval (.Attribute e f pos) env) Q E s :=
 Attribute_any_ h (by rw [arm_eval_Attribute,hb])
end
inductive Pq (K:W.Frag) (f:Str) (Q:VK) (x:V) (H1:Hp):Prop
 | mk (a C dx:Addr) (fs:List (Prod Str V)) (v:V) (_:x=.ref a) (_:H1 a=some (.ins C dx fs)) (_:Cls K C) (_:dJ K C f) (_:fs.lookup f=some v) (_:Q v H1):Pq K f Q x H1
def tFld (K:PySem.W.Frag) (ta:TE) (f:Str):TE:=fun σ H Q=>ta σ H fun x H1=>Pq K f Q x H1
inductive yI (K:W.Frag) (f:Str) (D:Ends) (σ:L2.St) (y x:V) (H2:Hp):Prop
 | mk (a C dx:Addr) (fs:List (Prod Str V)) (_:x=.ref a) (_:H2 a=some (.ins C dx fs)) (_:Cls K C) (_:dJ K C f) (_:fs.length<1000) (_:D.nx σ (upd H2 a (.ins C dx (nG f y fs)))):yI K f D σ y x H2
def Zu (K:PySem.W.Frag) (ta tv:TE) (f:Str):TS:=fun D σ H=>tv σ H fun y H1=>ta σ H1 fun x H2=>yI K f D σ y x H2
def Zv (X:Cx) (op:Operator) (rd:V->V->Hp->VK->Prop):Prop :=
 ∀ (pins:List 0x16) (s:Shared) (σ:St) (H:Hp) (x y:V) (u v:Value) (Q:VK),Inv X pins σ H s->RelV x u->RelV y v->rd x y H Q->wpAny 0x9 X.A (inplaceOp op u v) 0x37 X.xe s
section
variable {o:Expr}{f:Str}{tpos:Pos}
theorem bA (he:PE X e ta) (hb:attributeBase e f X.env (eval e X.env)=eval e X.env):PE X (.Attribute e f pos) (tFld X.K ta f):=by
 intro pins s σ H Q I h;refine VD hb (cH 0x5F fun u s1 zq=>?_);obtain ⟨x,H1,I1,rx,a,C,dx,fs,v,ex,ea,c,n,l,q⟩:=zq;subst ex;obtain rfl:u=Value.ref a:=rx;exact Fq I1 ea c n l fun u' s2 I2 ru=>⟨v,H1,I2,ru,q⟩
theorem dM (ha:PE X o ta) (hv:PE X value tv) (hs:swapsWith value (some (.Attribute o f pos')) pos.line X.env=pure false):PS X (.Assign [.Attribute o f pos'] value pos) (Zu X.K ta tv f):=by
 intro pins s σ H D I h;refine plainObj_wpAny_Assign_Attribute (cH (hv pins s σ H _ I h) fun u s1 ⟨y,H1,I1,ry,q⟩=>cH (ha pins s1 σ H1 _ I1 q) fun ov s2 ⟨x,H2,I2,rx,a,C,dx,fs,ex,ea,c,n,l,q2⟩=>?_) hs;subst ex;obtain rfl:ov=Value.ref a:=rx;exact Ft I2 ea c n l ry fun s3 I3=>⟨σ,_,I3,q2⟩
inductive rAdd (x y:V) (H:Hp) (Q:VK):Prop
 | mk (i j:Int) (_:x=.int i) (_:y=.int j) (_:Q (.int (i+j)) H):rAdd x y H Q
inductive rSub (x y:V) (H:Hp) (Q:VK):Prop
 | mk (i j:Int) (_:x=.int i) (_:y=.int j) (_:Q (.int (i - j)) H):rSub x y H Q
theorem Px:Zv X .Add rAdd:=by
 rintro pins s σ H x y u v Q I rx ry ⟨i,j,rfl,rfl,q⟩;obtain ⟨t,rfl⟩:=(show ∃ t,u=Value.int i t from rx)
 obtain ⟨t',rfl⟩:=(show ∃ t',v=Value.int j t' from ry)
 exact PyProof.Rows.iadd_int ⟨.int (i+j),H,I.tok _,⟨_,rfl⟩,q⟩
theorem Pz:Zv X .Sub rSub:=by
 rintro pins s σ H x y u v Q I rx ry ⟨i,j,rfl,rfl,q⟩;obtain ⟨t,rfl⟩:=(show ∃ t,u=Value.int i t from rx)
 obtain ⟨t',rfl⟩:=(show ∃ t',v=Value.int j t' from ry)
 exact PyProof.Rows.isub_int ⟨.int (i - j),H,I.tok _,⟨_,rfl⟩,q⟩
end
section
variable {c:Value}{b:Bool}
inductive pO (K:PySem.W.Frag) (H:Hp):V->Value->Prop where
 | non:pO K H .non (.type "NoneType")
 | bl (x:Bool):pO K H (.bl x) (.type "bool")
 | int (i:Int):pO K H (.int i) (.type "int")
 | str (x:Str):pO K H (.str x) (.type "str")
 | flt (x:UInt64):pO K H (.flt x) (.type "float")
 | lst {a:Addr}{xs:List V} (e:H a=some 0x67):pO K H 0x3C (.type "list")
 | gH {a:Addr}{o:Obj}{xs:List V} (e:H a=some (.gH o 0x67)):pO K H 0x3C (.type "list")
 | tup {a:Addr}{xs:List V} (e:H a=some 0x35):pO K H 0x3C (.type "tuple")
 | dK {a:Addr}{kvs:List 0x2C} (e:H a=some 0x15):pO K H 0x3C (.type "dict")
 | dT {a:Addr}{kvs:List (List Key×V)} (e:H a=some (.dT kvs)):pO K H 0x3C (.type "dict")
 | ins {a C dx:Addr}{fs:List 0x81} (e:H a=some (.ins C dx fs)) (cl:Cls K C) (ha:PySem.W.findIn K 0x87 "__class__"=some (some 0x65))
   (hn:PySem.W.specialIn K 0x65 "__get__"=some (some (.builtin "getset_descriptor.__get__"))) (htk:PySem.W.takesIn K 0x65=some true)
   (hm:PySem.W.mroIn K C (.type "object")=some true):pO K H 0x3C 0x87
theorem Ma {x:V}{t:Value} (I:Inv X pins σ H s) (rx:RelV x u) (ty:pO X.K H x t) (e:PySem.W.kitOne X.K t c=some b) (h:∀ tk,Q (.bool b) { s with toks:=tk }) :
  wpAny 0x9 A (call (.builtin "isinstance") [u,c]) Q E s:=by
 cases ty with
 | non=>cases (show u=Value.none from rx);exact A1N PySem.W.kitx_none I.oO True.intro e 0x53 h
 | bl y=>cases (show u=Value.bool y from rx);exact A1N PySem.W.kitx_bool I.oO True.intro e 0x53 h
 | int i=>obtain ⟨t,q⟩:=(show ∃ t,u=Value.int i t from rx);cases q;exact A1N PySem.W.kitx_int I.oO True.intro e 0x53 h
 | str y=>obtain ⟨t,q⟩:=(show ∃ t,u=Value.str y t from rx);cases q;exact A1N PySem.W.kitx_str I.oO True.intro e 0x53 h
 | flt y=>obtain ⟨t,q⟩:=(show ∃ t,u=Value.float y t from rx);cases q;exact A1N PySem.W.kitx_float I.oO True.intro e 0x53 h
 | @lst a xs ea =>
  cases 0x8B
  obtain ⟨_,_,n,_,h1⟩:=(show cJ X.prog X.w H s.heap a 0x67 from I.hok a _ ea)
  exact A1N PySem.W.kitx_list I.oO ⟨_,h1,rfl⟩ e 0x53 h
 | @gH a ob xs ea =>
  cases 0x8B
  obtain ⟨_,_,_,n,_,h1⟩:=(show cJ X.prog X.w H s.heap a (.gH ob 0x67) from I.hok a _ ea)
  exact A1N PySem.W.kitx_list I.oO ⟨_,h1,rfl⟩ e 0x53 h
 | @tup a xs ea =>
  cases 0x8B
  obtain ⟨_,_,_,p⟩:=(show cJ X.prog X.w H s.heap a 0x35 from I.hok a _ ea)
  obtain ⟨o,h1,h2,_⟩:=p;exact A1N PySem.W.kitx_tuple I.oO ⟨o,h1,h2⟩ e 0x53 h
 | @dK a kvs ea =>
  cases 0x8B
  obtain ⟨_,_,vs,_,p⟩:=(show cJ X.prog X.w H s.heap a 0x15 from I.hok a _ ea)
  obtain ⟨o,es,ep,h1,h2,_⟩:=p;exact A1N PySem.W.kitx_dict I.oO ⟨o,h1,h2.1⟩ e 0x53 h
 | @dT a kvs ea =>
  cases 0x8B
  obtain ⟨_,_,xs,_,o,es,ep,h1,h2,_⟩:=(show cJ X.prog X.w H s.heap a (.dT kvs) from I.hok a _ ea)
  exact A1N PySem.W.kitx_dict I.oO ⟨o,h1,h2.1⟩ e 0x53 h
 | @ins a C dx fs ea cl ha hn htk hm =>
  cases 0x8B
  obtain ⟨mA,O,_⟩:=sX I.hok ea;obtain ⟨od,J,_⟩:=O.look;exact A1N (PySem.W.kitx_own (cl.get _) cl.hd ha hn htk hm) I.oO J e 0x53 h
end
structure cM (k:Nat) (A:Around):Prop where
 hd:A.handled=none
 dp:A.depth+3 * k+5<recursionLimit
 un:A.units+16 * k+200<cLine
theorem cM.mono {k:Nat} (r:cM k A) (h:j<=k):cM j A:=⟨r.hd,by have:=r.dp;lia,by have:=r.un;lia⟩
theorem cM.deeper {k:Nat} (r:cM (k+1) A) (env:Env):cM k (A.deeper env) :=
 ⟨r.hd,by have:=r.dp;show A.depth+1+3 * k+5<_;lia,by have:=r.un;show A.units+3+16 * k+200<_;lia⟩
theorem cM.in1 {k:Nat} (r:cM (k+1) A):cM k A.in1 :=
 ⟨r.hd,by have:=r.dp;show A.depth+3 * k+5<_;lia,by have:=r.un;show A.units+1+16 * k+200<_;lia⟩
theorem Fv:(A.under (.builtin "type.__call__" ⟨.ref C::us,kw⟩)).depth=A.depth+1:=by
 first | rfl | simp [Around.under,Code.weight,Code.isCreation,Code.isGuard,Code.isCaller,Code.frames,Code.isFrame,guardIds]
theorem Fw:(A.under (.builtin "type.__call__" ⟨.ref C::us,kw⟩)).units=A.units+1:=by
 first | rfl | simp [Around.under,Code.cUnits,Code.frames,Code.isFrame]
theorem cM.make {k:Nat} (r:cM (k+1) A) (C:Addr) (us:List Value) (kw:List 0x73):cM k (A.under (.builtin "type.__call__" ⟨.ref C::us,kw⟩)) :=
 ⟨r.hd,by have:=r.dp;rw [Fv];lia,by have:=r.un;rw [Fw];lia⟩
theorem cM.depth {k:Nat} (r:cM k A):A.depth<recursionLimit:=by have:=r.dp;lia
theorem cM.units {k:Nat} (r:cM k A):A.units+64<cLine:=by have:=r.un;lia
def nH:TA:=fun _ H Q=>Q [] H
def rZ (ta:TE) (tr:TA):TA:=fun σ H Q=>ta σ H fun x H1=>tr σ H1 fun xs H2=>Q (x::xs) H2
section
variable {es:List Expr}{t:TA}
theorem aC:PA X [] nH:=fun _ _ _ _ H Q I h=>A2N ⟨[],H,I,.nil,h⟩
theorem aj (ha:PE X e te) (hr:PA X es t) (hs:starEach (e::es) X.env=0x3E::starEach es X.env:=by rfl):PA X (e::es) (rZ te t):=by
 intro pos pins s σ H Q I h;rw [hs]
 show wpAny _ _ (spliced (0x3E::backTo pos (starEach es X.env))) _ _ s
 refine A1U (cH 0x4C fun u s1 zq=>?_);obtain ⟨x,H1,I1,r1,q1⟩:=zq;exact cH (hr pos pins s1 σ H1 _ I1 q1) fun us s2 ⟨xs,H2,I2,r2,q2⟩=>⟨x::xs,H2,I2,.cons r1 r2,q2⟩
def VF (t:TA):TE:=fun σ H Q=>t σ H fun xs H1=>xs.length<=sizeLine/\∀ p,H1 p=none->Q 0x48 (upd H1 p 0x35)
def Zw (t:TA):TE:=fun σ H Q=>t σ H fun xs H1=>xs.length<=sizeLine/\∀ p,H1 p=none->Q 0x48 (upd H1 p 0x67)
theorem cP {x1} (h:PA X es t):PE X (.Tuple es x1 pos) (VF t):=by
 intro pins s σ H Q I hq;refine wpAny_Tuple_spliced (cH (h pos pins s σ H _ I hq) fun us s1 ⟨xs,H1,I1,r,z,q⟩=>⟨by rw [<- r.length];exact z,?_⟩);have hf:H1 s1.heap.objs.size=none:=I1.hok.fresh 0x2D;refine ⟨.ref s1.heap.objs.size,upd H1 s1.heap.objs.size 0x35,I1.laid (t':=s1.toks) (fun b u e=>A0b _ e) 0x2D ?_,rfl,q _ hf⟩;exact ⟨z,us,r,⟨_,A0n _ rfl,rfl,_,rfl⟩⟩
theorem dN (h:PA X es t):PE X (.List es pos) (Zw t):=by
 intro pins s σ H Q I hq;refine wpAny_List_spliced (cH (h pos pins s σ H _ I hq) fun us s1 ⟨xs,H1,I1,r,z,q⟩=>⟨by rw [<- r.length];exact z,?_⟩);have hf:H1 s1.heap.objs.size=none:=I1.hok.fresh 0x2D;refine ⟨.ref s1.heap.objs.size,upd H1 s1.heap.objs.size 0x67,I1.laid (t':=s1.toks) (fun b u e=>A0b _ e) 0x2D ?_,rfl,q _ hf⟩;exact ⟨z,us,0,r,A0n _ rfl⟩
end
abbrev Sp:=List V->Hp->VK->XK->Prop
variable {sp:Sp}
abbrev Jf:=List Env->Hp->Shared->XK->Value->Shared->Prop
variable {CX:Jf}
structure w6 (P:Program) (w:World) (K:PySem.W.Frag) (mg:Str->Option Value) (base:Heap) (A:Around) (outer:List Env) (s:Shared) (H:Hp):Prop where
 frames:A.frames=some outer
 mod:Mod K mg base
 bs:∀ b o,base.get? b=some o->s.heap.get? b=some o/\H b=none
 Ow:base.objs.size<=s.heap.objs.size
 qU:s.heap.FunFrames base outer
 Yj:∀ b∈frs outer,H b=none
 hok:oE P w H s.heap
 bare:AllBare s.gens
inductive CE (outer:List Env) (P:Program) (w:World) (H:Hp) (s:Shared) (Q:VK) (u:Value) (s':Shared):Prop
 | mk (v:V) (H':Hp) (_:s'.os=s.os) (_:AllBare s'.gens) (_:Un (frs outer) [] H H' s.heap s'.heap) (_:oE P w H' s'.heap) (_:RelV v u) (_:Q v H'):CE outer P w H s Q u s'
def CR (CX:Jf) (outer:List Env) (P:Program) (w:World) (H:Hp) (s:Shared) (Q:VK) (E:XK) (r:Result) (s':Shared):Prop :=
 match r with
 | .ok (.ret u)=>CE outer P w H s Q u s'
 | .ok _=>False
 | .error e=>CX outer H s E e s'
structure aJ (P:Program) (w:World) (K:PySem.W.Frag) (mg:Str->Option Value) (base:Heap) (CX:Jf) (k:Nat) (f:Addr) (fd:FuncData) (ps:List Str) (sp:Sp):Prop where
 len:∀ vs H Q E,sp vs H Q E->vs.length=ps.length
 run:∀ (A:Around) (outer:List Env) (s:Shared) (H:Hp) (args:Args) (us:List Value) (vs:List V) (Q:VK) (E:XK),cM k A->w6 P w K mg base A outer s H->BindsTo s fd args (ps.zip us)->Vals vs us->sp vs H Q E ->
  codeAny (model P w) A (.call 0x4E args) (CR CX outer P w H s Q E) s
theorem aJ.mono {k:Nat} (F:aJ P w K mg base CX j f fd ps sp) (h:j<=k) :
  aJ P w K mg base CX k f fd ps sp:=⟨F.len,fun A outer s H args us vs Q E hr=>F.run A outer s H args us vs Q E (hr.mono h)⟩
theorem w6.make (e:w6 P w K mg base A outer s H) (C:Addr) (us:List Value) (kw:List 0x73) :
  w6 P w K mg base (A.under (.builtin "type.__call__" ⟨.ref C::us,kw⟩)) outer s H:=⟨by first | exact e.frames | (simpa [Around.under,Code.envs,Code.isFrame,pushEnvs] using e.frames),e.mod,e.bs,e.Ow,e.qU,e.Yj,e.hok,e.bare⟩
theorem w6.in1 (e:w6 P w K mg base A outer s H) :
  w6 P w K mg base A.in1 outer s H:=⟨e.frames,e.mod,e.bs,e.Ow,e.qU,e.Yj,e.hok,e.bare⟩
theorem Inv.env0 (I:Inv X pins σ H s):w6 X.prog X.w X.K X.mg X.base X.A X.stack s H :=
 ⟨I.ok.frames,I.ok.mod,I.bs,A0O I.ok.Ow I.sz,I.stack,I.yE,I.hok,I.bare⟩
theorem Inv.after {Q:VK} (I:Inv X pins σ H s) (h:CE X.stack X.prog X.w H s Q u s'):EP X pins σ Q u s':=by
 obtain ⟨v,H',os,bare,un,hok,r,q⟩:=h;obtain ⟨hh,g,d,t,os'⟩:=s';obtain rfl:os'=s.os:=os;exact ⟨v,H',I.call (h':=hh) (g':=g) (d':=d) (t':=t) (ch:=[]) un hok bare (fun b z=>absurd z 0xA),r,q⟩
def Yn (sp:Sp) (pP:List V) (E:XK) (t:TA):TE:=fun σ H Q=>t σ H fun vs H1=>sp (vs++pP) H1 Q E
inductive Jg (C:Addr) (m:Str) (sp:Sp) (pP:List V) (E:XK) (t:TA) (σ:L2.St) (Q:VK) (x:V) (H1:Hp):Prop
 | mk (a dx:Addr) (fs:List (Prod Str V)) (_:x=.ref a) (_:H1 a=some (.ins C dx fs)) (_:fs.lookup m=none) (_:t σ H1 fun vs H2=>sp (x::(vs++pP)) H2 Q E):Jg C m sp pP E t σ Q x H1
def Yo (C:Addr) (m:Str) (sp:Sp) (pP:List V) (E:XK) (ta:TE) (t:TA):TE:=fun σ H Q=>ta σ H fun x H1=>Jg C m sp pP E t σ Q x H1
def Yp (C:Addr) (sp:Sp) (pP:List V) (E:XK) (t:TA):TE:=fun σ H Q=>t σ H fun vs H1=>∀ x dx,H1 x=none->H1 dx=none->dx≠x ->
 sp (.ref x::(vs++pP)) (upd (upd H1 dx (.own x)) x (.ins C dx [])) (fun v H2=>v=.non/\Q (.ref x) H2) E
def Binds (K:PySem.W.Frag) (fd:FuncData) (ps:List Str) (ds:List Value):Prop :=
 ∀ (s:Shared) (us:List Value),K.In s.heap->(us++ds).length=ps.length->BindsTo s fd ⟨us,[]⟩ (ps.zip (us++ds))
theorem Binds.all (h:∀ us:List Value,us.length=ps.length->bindArgs fd ⟨us,[]⟩=pure (ps.zip us)):Binds K fd ps []:=fun s us _ hl=>by
 rw [A1u] at hl ⊢;exact .of_eq (h us hl)
def Passes (CX:Jf) (X:Cx) (E:XK):Prop:=∀ (pins:List 0x16) (σ:St) (H:Hp) (s:Shared) (e:Value) (s':Shared),Inv X pins σ H s->CX X.stack H s E e s'->X.xe e s'
section
variable {k:Nat}{pP:List V}{ds:List Value}{E:XK}{x m:Str}{p:Pos}{o:Expr}{es:List Expr}{t:TA}
theorem uE {Q:VK}{vs:List V} (F:aJ X.prog X.w X.K X.mg X.base CX k f fd ps sp) (hr:cM k X.A) (hb:Binds X.K fd ps ds) (hd:Vals pP ds) (hx:Passes CX X E)
  (I:Inv X pins σ H s) (r:Vals vs us) (h:sp (vs++pP) H Q E):wpAny 0x9 X.A (call 0x4E us) 0x37 X.xe s:=by
 have r2:Vals (vs++pP) (us++ds):=r.append hd;have hl:(us++ds).length=ps.length:=by rw [<- r2.length];exact F.len _ _ _ _ h
 refine wpAny_call (A3t (F.run X.A X.stack s H ⟨us,[]⟩ (us++ds) (vs++pP) Q E hr I.env0 (hb s us I.oO hl) r2 h) fun r s' hq=>?_);cases r with
 | error e=>exact hx pins σ H s e s' I hq
 | ok fl =>
  cases fl with
  | ret u=>exact I.after hq
  | next=>exact False.elim hq
  | brk=>exact False.elim hq
  | cont=>exact False.elim hq
theorem bF (F:aJ X.prog X.w X.K X.mg X.base CX k f fd ps sp) (hr:cM k X.A) (hg:Gl X x) (hm:X.mg x=some 0x4E) (hk:PySem.W.keepIn X.K 0x4E=true) (hb:Binds X.K fd ps ds) (hd:Vals pP ds) (hx:Passes CX X E)
  (ha:PA X (e::es) t) (hdb:0x30=false:=by decide) (he:starEach (e::es) X.env=0x3E::starEach es X.env:=by rfl) (hpl:(0x4D).any (·.1)=false:=by rfl) :
  PE X (.Call (.Name x p) (e::es) [] pos) (Yn sp pP E t):=by
 intro pins s σ H Q I h;refine A1V (pN I hg hm ?_ hdb);refine A3O (h₀:=X.base) I.ok.mod.kin hk (cH 0x6C fun us s1 ⟨vs,H1,I1,r,q⟩=>⟨I1.oO,?_⟩) he hpl;exact uE F hr hb hd hx I1 r q
theorem PB (F:aJ X.prog X.w X.K X.mg X.base CX k f fd ps sp) (hr:cM k X.A) (hg:Gl X x) (hm:X.mg x=some 0x4E) (hk:PySem.W.keepIn X.K 0x4E=true) (hb:Binds X.K fd ps ds) (hd:Vals pP ds) (hx:Passes CX X E)
  (hdb:0x30=false:=by decide):PE X (.Call (.Name x p) [] [] pos) (Yn sp pP E nH):=by
 intro pins s σ H Q I h;refine A1V (pN I hg hm ?_ hdb);exact A4t I.oO hk (uE (us:=[]) F hr hb hd hx I .nil h)
theorem bU (he:PE X o ta) (c:Cls X.K C) (hm:Meth X.K C m f) (F:aJ X.prog X.w X.K X.mg X.base CX k f fd ps sp) (hr:cM k X.A) (hb:Binds X.K fd ps ds) (hd:Vals pP ds) (hx:Passes CX X E) (ha:PA X (e::es) t)
  (hst:starEach (e::es) X.env=0x3E::starEach es X.env:=by rfl) (hpl:(0x4D).any (·.1)=false:=by rfl)
  (ht:eval (.Call (.Attribute o m apos) (e::es) [] pos) X.env=(do
   let ov <- eval o X.env
   standAt apos.atName
   let (f,first) <- holding [ov] (getMethod ov m pl)
   callWith pos f first (backTo pos (starEach (e::es) X.env)) (backToKw pos (keywordEach [] X.env))):=by rfl) :
  PE X (.Call (.Attribute o m apos) (e::es) [] pos) (Yo C m sp pP E ta t):=by
 intro pins s σ H Q I h;refine PySem.W.methodCall_KW (pl:=pl) (cH 0x5F fun u s1 ⟨x,H1,I1,rx,a,dx,fs,ex,ea,l,q⟩=>?_) ht;subst ex;obtain rfl:u=Value.ref a:=rx;refine uD I1 ea c hm l ?_;refine A3O (first:=[.ref a]) (h₀:=X.base) I.ok.mod.kin hm.kp (cH (ha pos pins s1 σ H1 _ I1 q) fun us s2 ⟨vs,H2,I2,r,q2⟩=>⟨I2.oO,?_⟩) hst hpl
 exact uE (us:=.ref a::us) (vs:=.ref a::vs) F hr hb hd hx I2 (.cons rfl r) q2
theorem ji (he:PE X o ta) (c:Cls X.K C) (hm:Meth X.K C m f) (F:aJ X.prog X.w X.K X.mg X.base CX k f fd ps sp) (hr:cM k X.A) (hb:Binds X.K fd ps ds) (hd:Vals pP ds) (hx:Passes CX X E)
  (ht:eval (.Call (.Attribute o m apos) [] [] pos) X.env=(do
   let ov <- eval o X.env
   standAt apos.atName
   let (f,first) <- holding [ov] (getMethod ov m pl)
   callWith pos f first (backTo pos (starEach [] X.env)) (backToKw pos (keywordEach [] X.env))):=by rfl) :
  PE X (.Call (.Attribute o m apos) [] [] pos) (Yo C m sp pP E ta nH):=by
 intro pins s σ H Q I h;refine PySem.W.methodCall_KW (pl:=pl) (cH 0x5F fun u s1 ⟨x,H1,I1,rx,a,dx,fs,ex,ea,l,q⟩=>?_) ht;subst ex;obtain rfl:u=Value.ref a:=rx;refine uD I1 ea c hm l ?_;exact A4t (first:=[.ref a]) I1.oO hm.kp (uE (us:=[.ref a]) (vs:=[.ref a]) F hr hb hd hx I1 (.cons rfl .nil) q)
structure Mk (K:PySem.W.Frag) (C f:Addr):Prop where
 makes:PySem.W.makesIn K C=true
 init:PySem.W.findIn K 0x87 "__init__"=some (some 0x4E)
 fn:PySem.W.isFn K 0x4E=true
 kp:PySem.W.keepIn K 0x87=true
theorem BP {Q:VK}{vs:List V} (M:Mk X.K C f) (F:aJ X.prog X.w X.K X.mg X.base CX k f fd ps sp) (hr:cM (k+1) X.A) (hb:Binds X.K fd ps ds) (hd:Vals pP ds)
  (hx:Passes CX X E) (I:Inv X pins σ H s) (r:Vals vs us)
  (h:∀ x dx,H x=none->H dx=none->dx≠x->sp (.ref x::(vs++pP)) (upd (upd H dx (.own x)) x (.ins C dx [])) (fun v H2=>v=.non/\Q (.ref x) H2) E) :
  wpAny 0x9 X.A (call 0x87 us) 0x37 X.xe s:=by
 have hq:=h 0x12 s.heap.objs.size (I.hok.fresh (A2d _)) 0x3D (A0I (A3a _));have I2:=Inv.made (C:=C) I;have r2:Vals (V.ref 0x12::(vs++pP)) (Value.ref 0x12::(us++ds)):=.cons rfl (r.append hd);have hl:(Value.ref 0x12::us++ds).length=ps.length:=by
  have e:=r2.length;rw [F.len _ _ _ _ hq] at e;exact e.symm
 refine wpAny_call (Pn (f:=f) I.oO M.makes M.init (A3N.mp M.fn) (A3t (F.run _ X.stack _ _ ⟨Value.ref 0x12::us,[]⟩ (Value.ref 0x12::(us++ds)) _ _ E (hr.make C us [])
  (I2.env0.make C us []) (hb _ (Value.ref 0x12::us) I2.oO hl) r2 hq) fun r s' hq'=>?_))
 cases r with
 | error e=>exact hx pins σ _ _ e s' I2 hq'
 | ok fl =>
  cases fl with
  | ret u =>
   obtain ⟨v,H',I3,rv,ev,q3⟩:=I2.after hq';subst ev;exact ⟨rv,⟨V.ref 0x12,H',I3,rfl,q3⟩⟩
  | next=>exact False.elim hq'
  | brk=>exact False.elim hq'
  | cont=>exact False.elim hq'
theorem sY (M:Mk X.K C f) (F:aJ X.prog X.w X.K X.mg X.base CX k f fd ps sp) (hr:cM (k+1) X.A) (hg:Gl X x) (hm:X.mg x=some 0x87) (hb:Binds X.K fd ps ds) (hd:Vals pP ds) (hx:Passes CX X E)
  (ha:PA X (e::es) t) (hdb:0x30=false:=by decide) (he:starEach (e::es) X.env=0x3E::starEach es X.env:=by rfl) (hpl:(0x4D).any (·.1)=false:=by rfl) :
  PE X (.Call (.Name x p) (e::es) [] pos) (Yp C sp pP E t):=by
 intro pins s σ H Q I h;refine A1V (pN I hg hm ?_ hdb);refine A3O (h₀:=X.base) I.ok.mod.kin M.kp (cH 0x6C fun us s1 ⟨vs,H1,I1,r,q⟩=>⟨I1.oO,?_⟩) he hpl;exact BP M F hr hb hd hx I1 r q
theorem PJ (M:Mk X.K C f) (F:aJ X.prog X.w X.K X.mg X.base CX k f fd ps sp) (hr:cM (k+1) X.A) (hg:Gl X x) (hm:X.mg x=some 0x87) (hb:Binds X.K fd ps ds) (hd:Vals pP ds) (hx:Passes CX X E)
  (hdb:0x30=false:=by decide):PE X (.Call (.Name x p) [] [] pos) (Yp C sp pP E nH):=by
 intro pins s σ H Q I h;refine A1V (pN I hg hm ?_ hdb);exact A4t I.oO M.kp (BP (us:=[]) M F hr hb hd hx I .nil h)
end
def PK (X:Cx) (kws:List Keyword) (t:TA):Prop :=
 ∀ (pos:Pos) (pins:List 0x16) (s:Shared) (σ:St) (H:Hp) (Q:List V->Hp->Prop),Inv X pins σ H s->t σ H Q->wpAny 0x9 X.A (evalAll ((backToKw pos (keywordEach kws X.env)).map (·.2))) (AP X pins σ Q) X.xe s
section
variable {k:Nat}{E:XK}{x m:Str}{p kpos:Pos}{o:Expr}{es:List Expr}{kws:List Keyword}{t tk:TA}{nm:Option Str}
theorem Zx:PK X [] nH:=fun _ _ _ _ H Q I h=>wpAny_evalAll_nil ⟨[],H,I,.nil,h⟩
theorem VG (ha:PE X e te) (hr:PK X kws t):PK X (⟨nm,e,kpos⟩::kws) (rZ te t):=by
 intro pos pins s σ H Q I h
 show wpAny _ _ (evalAll ((do let v <- eval e X.env;standAt pos;pure v)::(backToKw pos (keywordEach kws X.env)).map (·.2))) _ _ s
 refine wpAny_evalAll_cons (A0a (cH 0x4C fun u s1 ⟨x,H1,I1,r1,q1⟩=>A0a (A2l 0x13)));exact cH (hr pos pins s1 σ H1 _ I1 q1) fun us s2 ⟨xs,H2,I2,r2,q2⟩=>⟨x::xs,H2,I2,.cons r1 r2,q2⟩
structure KBinds (K:PySem.W.Frag) (fd:FuncData) (ps ks:List Str) (g:List Value->List Value->List Value) (gV:List V->List V->List V):Prop where
 to:∀ (s:Shared) (us ws:List Value),K.In s.heap->(g us ws).length=ps.length->BindsTo s fd ⟨us,ks.zip ws⟩ (ps.zip (g us ws))
 rel:∀ {vs:List V}{us:List Value}{zs:List V}{ws:List Value},Vals vs us->Vals zs ws->Vals (gV vs zs) (g us ws)
variable {g:List Value->List Value->List Value}{gV:List V->List V->List V}
end
structure aO (N P:List Str) (sc:Scope):Prop where
 kind:sc.kind=.function
 co:sc.isCoroutine=false
 gen:sc.isGenerator=false
 nd:N.Nodup
 pre:N.take P.length=P
 par:∀ x∈P,sc.names.lookup x=some .local\/sc.names.lookup x=some .cell
 Zy:∀ y∈sc.names,y.2≠.free
theorem wH {kindOf:Str->Option NameKind}{x:Str}:∀ {binds:List 0x73}{m:Str->Option Value},(∀ v,(x,v)∉binds)->bindL kindOf binds m x=m x
 | [],_,_=>rfl
 | (n,v)::r,m,h=>by
  unfold bindL;rw [wH fun w hw=>h w (iT _ hw)]
  split
  ·have:x≠n:=by rintro rfl;exact h v A0g
   simp [this]
  ·rfl
theorem wI {kindOf:Str->Option NameKind}{x:Str}:∀ {binds:List 0x73}{m:Str->Option Value},(∀ v,(x,v)∉binds)->bindC kindOf binds m x=m x
 | [],_,_=>rfl
 | (n,v)::r,m,h=>by
  unfold bindC;rw [wI fun w hw=>h w (iT _ hw)]
  split
  ·rfl
  ·have:x≠n:=by rintro rfl;exact h v A0g
   simp [this]
theorem wJ {kindOf:Str->Option NameKind}{x:Str}{v:Value}:∀ {P:List Str}{vs:List Value}{i:Nat}{m:Str->Option Value},P.Nodup->P[i]?=some x->vs[i]?=some v->kindOf x=some .local ->
  bindL kindOf (P.zip vs) m x=some v
 | [],_,_,_,_,h,_,_=>by simp at h
 | _::_,[],_,_,_,_,h,_=>by simp at h
 | p::P,w::vs,0,m,nd,h1,h2,hk=>by
  simp at h1 h2;subst h1;subst h2
  show bindL kindOf ((p,w)::P.zip vs) m p=_
  unfold bindL;rw [wH fun v hv=>(A0M.mp nd).1 (A3K hv).1,A0i hk];simp
 | p::P,w::vs,i+1,m,nd,h1,h2,hk=>by
  show bindL kindOf ((p,w)::P.zip vs) m x=_
  unfold bindL;exact wJ (i:=i) (A0M.mp nd).2 (by simpa using h1) (by simpa using h2) hk
theorem wK {kindOf:Str->Option NameKind}{x:Str}{v:Value}:∀ {P:List Str}{vs:List Value}{i:Nat}{m:Str->Option Value},P.Nodup->P[i]?=some x->vs[i]?=some v->kindOf x≠some .local ->
  bindC kindOf (P.zip vs) m x=some v
 | [],_,_,_,_,h,_,_=>by simp at h
 | _::_,[],_,_,_,_,h,_=>by simp at h
 | p::P,w::vs,0,m,nd,h1,h2,hk=>by
  simp at h1 h2;subst h1;subst h2
  show bindC kindOf ((p,w)::P.zip vs) m p=_
  unfold bindC;rw [wI fun v hv=>(A0M.mp nd).1 (A3K hv).1,A0e hk];simp
 | p::P,w::vs,i+1,m,nd,h1,h2,hk=>by
  show bindC kindOf ((p,w)::P.zip vs) m x=_
  unfold bindC;exact wK (i:=i) (A0M.mp nd).2 (by simpa using h1) (by simpa using h2) hk
def start (N:List Str) (vs:List V):St:=vs.map some++List.replicate (N.length - vs.length) none
def Fx (CX:Jf) (P:Program) (w:World) (K:PySem.W.Frag) (mg:Str->Option Value) (base:Heap) (N:List Str) (qual:Str) (scope:Scope) (f:Addr) (cd:Value) (A:Around) (outer:List Env) (s:Shared) (H:Hp) (E:XK):Cx where
 prog:=P
 w:=w
 K:=K
 mg:=mg
 base:=base
 A:=A.deeper 0x5B
 N:=N
 s₀:=s
 H₀:=H
 env:=envOfC qual scope s.heap.objs.size f cd
 outer:=outer
 stack:=envOfC qual scope s.heap.objs.size f cd::outer
 ex:=[]
 calm:=true
 fn:=fun _=>true
 pn:=[]
 xe:=fun e s'=>wpAny (model P w) (A.deeper 0x5B) (leaving 0x5B e) (fun _ s''=>CX outer H s E e s'') (fun e' s''=>CX outer H s E e' s'') s'
theorem BZ {sc:Scope}{x:Str} (h:sc.names.lookup x=some .cell):∃ c,(cellsFrom n sc.names []).lookup x=some c:=by
 have q:=PySem.W.cellsFrom_some sc.names n [] (.inl h);exact A2T.mp q
theorem Mg {s1:Shared}{E:XK}{vs:List V}
  (S:aO N ps scope) (hd:A.handled=none) (e0:w6 P w K mg base A outer s H) (hl:vs.length=ps.length) (r:Vals vs us)
  (x:InCallC s s.heap.objs.size (bindL (0x5B).kindOf (ps.zip us) fun _=>none) (cellsFrom 0x12 scope.names []) (bindC (0x5B).kindOf (ps.zip us) fun _=>none) s1) :
  Inv (Fx CX P w K mg base N qual scope f cd A outer s H E) [] (start N vs) H s1:=by
 have hpl:ps.length<=N.length:=by have:=A1G List.length S.pre;rw [A0G] at this;lia
 obtain ⟨h1,tk,rfl,hk⟩:=x.done;have noA:∀ b:Addr,b∉(Fx CX P w K mg base N qual scope f cd A outer s H E).ex:=fun b z=>absurd (show b∈([]:List Addr) from z) 0xA
 refine ⟨⟨e0.mod,S.kind,rfl,rfl,A0f _,fun y z c h1 h2=>?_,fun y hy=>?_,fun y c _ h=>?_,fun _=>hd,Around.frames_deeper e0.frames,.inr ⟨rfl,rfl⟩,fun b z=>absurd z (noA b),e0.bs,e0.Ow,fun b _ _=>noA b,fun b z=>absurd z (noA b),e0.qU,e0.Yj⟩,
  rfl,e0.bare,Un.kept hk,⟨_,x.toInCall.ns,fun i y v h1 h2 h3=>?_⟩,fun y c h=>⟨_,x.cell y c h⟩,e0.hok.fresh 0x2D,fun y c h=>?_,fun p hp=>absurd (show p∈([]:List 0x16) from hp) 0xA,e0.hok.kept hk,?_⟩
 ·exact name_of_addr x.apart (A1j h1) (A1j h2)
 ·have hy:scope.names.lookup y=some .cell\/scope.names.lookup y=some .free:=hy;rcases hy with hy | hy
  ·exact BZ hy
  ·exact absurd rfl (S.Zy _ (A1j hy))
 ·exact A2k (x.above y c (A1j h))
 ·have hi:i<vs.length:=by
   unfold start at h2
   by_cases hi:i<vs.length
   ·exact hi
   ·rw [A0W (by simpa using hi)] at h2;rw [A3Q] at h2
    split at h2 <;> cases h2
  have ha:vs[i]?=some v:=by
   unfold start at h2;rw [A1q (by simpa using hi),jW] at h2;cases e:vs[i]? with
   | none=>rw [e] at h2;cases h2
   | some a=>rw [e] at h2;cases h2;rfl
  obtain ⟨u,hu,rv⟩:=r.get ha;have hp:ps[i]?=some y:=by
   rw [<- S.pre,List.getElem?_take_of_lt 0x2];exact h1
  have ndP:ps.Nodup:=by rw [<- S.pre];exact S.nd.sublist (List.take_sublist _ _)
  refine ⟨u,rv,?_⟩;rcases S.par y (vY hp) with k | k
  ·exact .inl ⟨k,wJ ndP hp hu k⟩
  ·obtain ⟨c,e⟩:=BZ (n:=s.heap.objs.size+1) k;refine .inr ⟨.inl k,c,e,?_⟩;have q:=x.cell y c e;rw [wK ndP hp hu (by show scope.names.lookup y≠_;rw [k];decide)] at q
   exact q
 ·exact e0.hok.fresh (A2k (x.above y c (A1j h)))
 ·unfold start
  show _=N.length
  rw [iw,bV,A1R];lia
theorem Yq {k:Nat}{params:Arguments}{dV kV doc pm cdv ct oc:Value}{an od:Option Addr}
  {osl:Array (Option Value)} (lk:K.lookup f=some ⟨oc,od,.func (PySem.W.fnOf name qual params body scope dV kV doc pm an cdv ct),osl⟩) (hcd:PySem.W.codeIn K cdv qual=true) (S:aO N ps scope)
  (len:∀ vs H Q E,sp vs H Q E->vs.length=ps.length)
  (hbody:∀ (A:Around) (outer:List Env) (s:Shared) (H:Hp) (vs:List V) (Q:VK) (E:XK),cM k (A.deeper (envOfC qual scope s.heap.objs.size f cdv))->sp vs H Q E ->
   ∃ t,EY (Fx CX P w K mg base N qual scope f cdv A outer s H E) body t/\t { nx:=fun _ H'=>Q .non H',rt:=Q } (start N vs) H) :
  aJ P w K mg base CX (k+1) f (PySem.W.fnOf name qual params body scope dV kV doc pm an cdv ct) ps sp:=by
 refine ⟨len,fun A outer s H args us vs Q E hr e0 hb r hsp=>?_⟩;have hl:=len _ _ _ _ hsp;have KX:K.In s.heap:=e0.mod.kin.keeps fun b o e=>(e0.bs b o e).1;have lim:s.heap.NoLimit:=e0.mod.nolimit.keeps fun b o e=>(e0.bs b o e).1;have hkind:∀ y∈ps.zip us,scope.names.lookup y.1=some .local\/(scope.names.lookup y.1=some .cell/\((cellsFrom 0x12 scope.names []).lookup y.1).isSome=true):=fun ⟨n,v⟩ hy=>by
  rcases S.par n (A3K hy).1 with q | q
  ·exact .inl q
  ·exact .inr ⟨q,PySem.W.cellsFrom_some _ _ _ (.inl q)⟩
 refine codeAny_call_function hr.depth (KX _ _ lk) rfl S.co S.gen rfl (PySem.W.codeRec_of KX hcd) (hb _ _ _ _ ?_);refine wpAny_newFunctionEnv_cells S.kind hkind fun env he s1 x=>?_;subst he;refine ⟨lim.keeps x.toInCall.keep,codeAny_func ?_⟩;obtain ⟨t,ht,hq⟩:=hbody A outer s H vs Q E (hr.deeper _) hsp;have I:Inv (Fx CX P w K mg base N qual scope f cdv A outer s H E) [] (start N vs) H s1:=Mg S hr.hd e0 hl r x;refine A1b (ht [] s1 (start N vs) H _ I hq) (fun fl s' hs=>?_) fun e s' hs=>hs;have fin:∀ {σ':St}{H':Hp}{v:V}{u:Value},Inv (Fx CX P w K mg base N qual scope f cdv A outer s H E) [] σ' H' s'->RelV v u->Q v H'->CE outer P w H s Q u s' :=
  fun {σ' H' v u} J rv q=>⟨v,H',J.os,J.bare,J.base,J.hok,rv,q⟩
 cases fl with
 | ret u =>
  obtain ⟨v,σ',H',J,rv,q⟩:=hs;exact fin J rv q
 | next =>
  obtain ⟨σ',H',J,q⟩:=hs;exact fin (v:=V.non) (u:=Value.none) J rfl q
 | brk =>
  obtain ⟨_,_,_,q⟩:=hs;exact False.elim q
 | cont =>
  obtain ⟨_,_,_,q⟩:=hs;exact False.elim q
section
variable {x:Str}{p:Pos}{es:List Expr}{t:TA}{id:String}{r:List V->Hp->VK->Prop}
def tCB (r:List V->Hp->VK->Prop) (t:TA):TE:=fun σ H Q=>t σ H fun vs H1=>r vs H1 Q
theorem bG (hc:iy X (.builtin id) r) (hg:Gl X x) (hm:X.mg x=none) (hv:bootBuiltins x=some (.builtin id)) (ha:PA X (e::es) t) (hn:x≠"__name__":=by decide) (hdb:0x30=false:=by decide)
  (he:starEach (e::es) X.env=0x3E::starEach es X.env:=by rfl) (hpl:(0x4D).any (·.1)=false:=by rfl):PE X (.Call (.Name x p) (e::es) [] pos) (tCB r t):=by
 intro pins s σ H Q I h;refine A1V (oY I hg hm hv ?_ hn hdb);exact PyProof.Rows.callWith_builtin1 (cH 0x6C fun us s1 ⟨vs,H1,I1,r1,q1⟩=>hc pins s1 σ H1 vs us Q I1 r1 q1) he hpl
theorem fU (hc:iy X (.type T) r) (hg:Gl X x) (hm:X.mg x=none) (hv:bootBuiltins x=some (.type T)) (ha:PA X (e::es) t) (hn:x≠"__name__":=by decide) (hdb:0x30=false:=by decide)
  (he:starEach (e::es) X.env=0x3E::starEach es X.env:=by rfl) (hpl:(0x4D).any (·.1)=false:=by rfl):PE X (.Call (.Name x p) (e::es) [] pos) (tCB r t):=by
 intro pins s σ H Q I h;refine A1V (oY I hg hm hv ?_ hn hdb);exact A2v (cH 0x6C fun us s1 ⟨vs,H1,I1,r1,q1⟩=>hc pins s1 σ H1 vs us Q I1 r1 q1) he hpl
end
end L2
variable {xs ys:List L2.V}{H H' H1 H2:L2.Hp}{o:L2.HO}{X:L2.Cx}{v y:L2.V}{σ:L2.St}{ta td te tl tv ty:L2.TE}{tb:L2.TS}{g:L2.TG}{du ho hs kvs lo ow:List (L2.Key×L2.V)}{wi:L2.TI}{fs':List (PySem.Str×L2.V)}{CX:L2.Jf}{sp:L2.Sp}{tt:L2.TT}{Ol:List (L2.TE×L2.TE)}{dat:PySem.Addr->List L2.V}
namespace HT
open PySem PyProof.Rows
section
open PySem.SeqAt
open PySem.AutoSeq1 (wpAny_loadPart')
open PySem.MeetsSeq PySem.MeetsSeq2 PySem.MeetsSeq3
end
theorem VH {vs ws:List Value} (ht:IsTup s.heap t vs.toArray) (hb:IsTup s.heap b ws.toArray) (hv:vs≠[])
  (h1:ws=[]->Q 0x70 s) (h2:ws≠[]->Q 0x14 { s with heap:=s.heap.push { cls:=.type "tuple",data:=.seq (vs++ws).toArray } })
  (hsz:vs.length+ws.length<=sizeLine):wpAny 0xC A (binaryOp .Add 0x70 (.ref b)) Q E s:=by
 obtain ⟨⟨cls,dd,data,sl⟩,ho,hc,n,hd⟩:=id ht;obtain ⟨⟨cls2,dd2,data2,sl2⟩,ho2,hc2,n2,hd2⟩:=id hb;simp only at hc hd hc2 hd2;subst hc hd hc2 hd2;have e:vs.toArray++ws.toArray=(vs++ws).toArray:=by simp
 by_cases hw:ws=[]
 ·exact concat_meets ⟨_,ho,rfl⟩ ⟨_,ho2,rfl⟩ noFill_tuple_add seq_tuple_add PySem.F.slot_tuple_add PySem.F.entry_tuple_add (PySem.F.args_tuple_add_2 _ _)
   (tuple_addW1 t b vs.toArray ws.toArray n n2 dd dd2 sl sl2 (by simpa using hv) (by simp [hw])) ⟨ho,ho2,h1 hw⟩
 ·refine concat_meets ⟨_,ho,rfl⟩ ⟨_,ho2,rfl⟩ noFill_tuple_add seq_tuple_add PySem.F.slot_tuple_add PySem.F.entry_tuple_add (PySem.F.args_tuple_add_2 _ _)
   (tuple_addW2 t b vs.toArray ws.toArray n n2 dd dd2 sl sl2 (by simpa using hv) (by simpa using hw) (by rw [A0s,A0s];exact hsz)) ⟨ho,ho2,?_⟩
  rw [e];exact h2 hw
def eN (n d:Nat):Option Int->Nat
 | none=>d
 | some v=>if v<0 then (v+(n:Int)).toNat else min v.toNat n
theorem jZ (n d k:Nat):eN n d (some (k:Int))=min k n:=by
 show (if (k:Int)<0 then ((k:Int)+(n:Int)).toNat else min (k:Int).toNat n)=min k n
 rw [A0e 0x2,A1Z]
theorem PL (n d:Nat) (hd:d<=n) (o:Option Int):eN n d o<=n:=by
 cases o with
 | none=>exact hd
 | some v =>
  show (if v<0 then (v+(n:Int)).toNat else min v.toNat n)<=n
  by_cases hv:v<0
  ·rw [A0i hv];lia
  ·rw [A0e hv];exact Nat.min_le_right _ _
theorem Jh (v:Int) (n d:Nat):(if v<0 then max (v+(n:Int)) 0 else min v (n:Int))=((eN n d (some v):Nat):Int):=by
 show (if v<0 then max (v+(n:Int)) 0 else min v (n:Int))=(((if v<0 then (v+(n:Int)).toNat else min v.toNat n):Nat):Int)
 by_cases hv:v<0
 ·simp only [A0i hv];lia
 ·simp only [A0e hv];lia
theorem Fy (lo hi:Option Int) (n:Nat):Builtin.Slice.sliceAdjust lo hi 1 (n:Int)=(((eN n 0 lo:Nat):Int),((eN n n hi:Nat):Int)):=by
 have h1:¬ ((1:Int)<0):=by lia
 unfold Builtin.Slice.sliceAdjust;simp only [h1,A2O];refine Prod.ext ?_ ?_
 ·cases lo with
  | none=>rfl
  | some v=>exact Jh v n 0
 ·cases hi with
  | none=>rfl
  | some v=>exact Jh v n n
theorem Fz (i j:Nat):Builtin.Slice.slicePlaces (i:Int) (j:Int) 1=j - i:=by
 unfold Builtin.Slice.slicePlaces;have h1:(1:Int) > 0:=by lia
 simp only [h1,A3u,Int.ediv_one]
 split <;> lia
theorem uF {v:Value}{o:Option Int}{Q:Option Int->Shared->Prop} (p:IsPart v o) (h:Q o s):wpAny 0xC A (Builtin.Slice.slicePartIndex v) Q E s:=by
 cases p with
 | none=>exact slicePart_none h
 | int i t=>exact slicePart_int h
theorem lM {lo:Option Int}{Q:Int×Int×Nat->Shared->Prop} (hs:s.heap.IsSliceOf sl vl vu .none) (pl:IsPart vl lo) (pu:IsPart vu hi)
  (h:Q (((eN n 0 lo:Nat):Int),1,eN n n hi - eN n 0 lo) s):wpAny 0xC A (Builtin.Slice.sliceApplied (.ref sl) (pure (n:Int))) Q E s:=by
 obtain ⟨os,hos,hcs,hds⟩:=id hs;unfold Builtin.Slice.sliceApplied Builtin.Slice.sliceFields;refine A0a (A0a (A1Q hos hds (x:=vl) rfl (A0a (A1Q hos hds (x:=vu) rfl (A0a (A1Q hos hds (x:=.none) rfl 0x13))))));refine A0a (slicePart_none ?_)
 show wpAny _ _ (if ((1:Int)==0)=true then _ else _) _ _ s
 rw [A0e 0x5];refine A0a (uF pl (A0a (uF pu (A0a 0x13))))
 show wpAny _ _ (match Builtin.Slice.sliceAdjust lo hi 1 (n:Int) with | (lo,hi)=>pure (lo,(1:Int),Builtin.Slice.slicePlaces lo hi 1)) _ _ s
 rw [Fy lo hi n]
 show wpAny _ _ (pure (((eN n 0 lo:Nat):Int),(1:Int),Builtin.Slice.slicePlaces ((eN n 0 lo:Nat):Int) ((eN n n hi:Nat):Int) 1)) _ _ s
 rw [Fz];exact wpAny_pure h
theorem PN (xs:Array Value) (i k:Nat):((List.range k).filterMap fun (m:Nat)=>xs[((i:Int)+(m:Int) * 1).toNat]?).toArray=((xs.toList.drop i).take k).toArray:=by
 have e:(fun (m:Nat)=>xs[((i:Int)+(m:Int) * 1).toNat]?)=fun m=>xs[i+m]?:=by
  funext m
  have:((i:Int)+(m:Int) * 1).toNat=i+m:=by lia
  rw [this]
 rw [e];have:=pick_run xs i k;rw [List.filterMap_map] at this;have e2:((fun x=>xs[x]?)∘fun x=>i+x)=fun m=>xs[i+m]?:=rfl;rw [e2] at this;rw [this]
theorem pQ {items:Array Value}{lo:Option Int} (ht:IsTup s.heap t items) (hs:s.heap.IsSliceOf sl vl vu .none) (pl:IsPart vl lo) (pu:IsPart vu hi)
  (hw:¬ (eN items.size 0 lo=0/\eN items.size items.size hi=items.size))
  (h:Q 0x14 { s with heap:=s.heap.push { cls:=.type "tuple",data:=.seq ((items.toList.drop (eN items.size 0 lo)).take 0x24).toArray } })
  (hsz:items.size<=sizeLine):wpAny 0xC A (getItem 0x70 (.ref sl)) Q E s:=by
 have Ji:sizeOk (.seq ((items.toList.drop (eN items.size 0 lo)).take 0x24).toArray):=by
  show ((items.toList.drop (eN items.size 0 lo)).take 0x24).toArray.size<=sizeLine
  rw [A0s,A0G,A1H,A0L];lia
 have hj:eN items.size items.size hi<=items.size:=PL _ _ 0x2D hi;obtain ⟨os,hos,hcs,hds⟩:=id hs;have hTs:s.TypeIs (.ref sl) "slice":=⟨os,hos,hcs⟩;unfold getItem
 try with_reducible refine A1T ?_
 first | refine A0a 0x13 | skip
 refine A0a (wpAny_sequenceKey ht.typeIs 0x5 ?_);refine A0a (A1c (name:=Str.ofString "__getitem__") ht.typeIs A1t
  (A0Z A1t ht.typeIs entry_tuple_getitem ?_ (args_tuple_getitem _ _)))
 show wpAny _ _ (Builtin.Tuple.tupleItemsOf 0x70 >>= _) _ _ s
 refine A0a (tupleItemsOf_ ht ?_);refine A0a (A4v hTs ?_);rw [A0i 0x5];refine A0a (lM hs pl pu ?_);have hno:¬ ((((eN items.size 0 lo:Nat):Int)==0&&(1:Int)==1&&0x24==items.size)=true):=by
  intro q;rw [A0Y,A0Y] at q;have q1:((eN items.size 0 lo:Nat):Int)=0:=A4y q.1.1;have q2:eN items.size items.size hi - eN items.size 0 lo=items.size:=A4y q.2;exact hw ⟨by lia,by lia⟩
 show wpAny _ _ (if (((eN items.size 0 lo:Nat):Int)==0&&(1:Int)==1&&0x24==items.size)=true then _ else _) _ _ s
 rw [A0e hno,PN]
 first
  | exact A0a (m:=Builtin.Tuple.tupleExact _) (A1x (wpAny_pure ⟨_,rfl,wpAny_pure h⟩) Ji)
  | exact A0a (m:=Builtin.Tuple.tupleExact _) (A1x (A0a (wpAny_pure (wpAny_pure ⟨_,rfl,wpAny_pure h⟩))) Ji)
  | exact A0a (A0a (m:=Builtin.Tuple.tupleExact _) (A1x (wpAny_pure (wpAny_pure ⟨_,rfl,wpAny_pure h⟩)) Ji))
  | exact A0a (A0a (m:=Builtin.Tuple.tupleExact _) (A1x (wpAny_pure ⟨_,rfl,wpAny_pure h⟩) Ji))
end HT
namespace L2
open PySem PySem.Spec PyProof.Rows
abbrev TO:=St->Hp->(Option Int->Hp->Prop)->Prop
def PO (X:Cx) (e:Option Expr) (t:TO):Prop :=
 ∀ (pins:List 0x16) (s:Shared) (σ:St) (H:Hp) (Q:Option Int->Hp->Prop),Inv X pins σ H s->t σ H Q ->
  wpAny 0x9 X.A (evalPart e X.env) (fun u s'=>∃ o H',Inv X pins σ H' s'/\IsPart u o/\Q o H') X.xe s
def VJ:TO:=fun _ H Q=>Q none H
inductive Jj (Q:Option Int->Hp->Prop) (x:V) (H1:Hp):Prop
 | mk (i:Int) (_:x=.int i) (_:Q (some i) H1):Jj Q x H1
def a1I (t:TE):TO:=fun σ H Q=>t σ H fun x H1=>Jj Q x H1
section
variable {lo hi:Option Expr}{tl th:TO}{p2:Pos}
theorem fY:PO X none VJ:=by
 intro pins s σ H Q I h;rw [evalPart_none];exact wpAny_pure ⟨none,H,I,.none,h⟩
theorem cF (h:PE X e te):PO X (some e) (a1I te):=by
 intro pins s σ H Q I hw;rw [evalPart_some];refine cH (h pins s σ H _ I hw) fun u s1 zq=>?_;obtain ⟨x,H1,I1,r1,q1⟩:=zq;obtain ⟨i,rfl,q⟩:=q1;obtain ⟨t,rfl⟩:=r1;exact ⟨some i,H1,I1,.int i t,q⟩
inductive Yr (X:Cx) (pins:List (Prod Addr Obj)) (s:Shared) (σ:L2.St) (v:Value) (sl:Addr) (Q:VK):Prop
 | mk (T id:String) (_:typeLookup (.type T) "__getitem__"=pure (some (.builtin id))) (_:s.TypeIs v T) (_:wpAny 0x9 X.A (getItem v (.ref sl)) 0x37 X.xe s):Yr X pins s σ v sl Q
def SlR (X:Cx) (r:V->Option Int->Option Int->Hp->VK->Prop):Prop :=
 ∀ (pins:List 0x16) (s:Shared) (σ:St) (H:Hp) (x:V) (v vl vu:Value) (lo hi:Option Int) (sl:Addr) (Q:VK),Inv X pins σ H s->RelV x v->s.heap.IsSliceOf sl vl vu .none->IsPart vl lo->IsPart vu hi->r x lo hi H Q ->
  Yr X pins s σ v sl Q
def tSl (r:V->Option Int->Option Int->Hp->VK->Prop) (te:TE) (tl th:TO):TE:=fun σ H Q=>te σ H fun x H1=>tl σ H1 fun l H2=>th σ H2 fun u H3=>r x l u H3 Q
theorem fj {r:V->Option Int->Option Int->Hp->VK->Prop} (hr:SlR X r) (he:PE X e te) (hl:PO X lo tl) (hu:PO X hi th):PE X (.Subscript e (.Slice lo hi none p2) pos) (tSl r te tl th):=by
 intro pins s σ H Q I h;refine Subscript_ (cH 0x5F fun v s1 zq=>?_);obtain ⟨x,H1,I1,r1,q1⟩:=zq;refine wpAny_Slice (cH (hl pins s1 σ H1 _ I1 q1) fun vl s2 ⟨l,H2,I2,pl,q2⟩=>cH (hu pins s2 σ H2 _ I2 q2) fun vu s3 zq=>?_);obtain ⟨u,H3,I3,pu,q3⟩:=zq;rw [evalPart_none];refine wpAny_pure ?_;have I4:Inv X pins σ H3 { s3 with heap:=s3.heap.push { cls:=.type "slice",data:=.fields #[vl,vu,.none] } }:=I3.kept (t':=s3.toks) fun b ob q=>A0b _ q;obtain ⟨T,id,hT,ht,hg⟩:=hr pins { s3 with heap:=s3.heap.push { cls:=.type "slice",data:=.fields #[vl,vu,.none] } } σ H3 x v vl vu l u s3.heap.objs.size Q I4 r1 (Heap.IsSliceOf.new ..) pl pu q3
 show wpAny 0x9 X.A (subscriptTail e (.Slice lo hi none p2) v (.ref s3.heap.objs.size)) 0x37 X.xe { s3 with heap:=s3.heap.push { cls:=.type "slice",data:=.fields #[vl,vu,.none] } }
 exact tail_any (ops:=[.ref s3.heap.objs.size,v]) ht hT hg 0x11
def gK (xs:List V) (lo hi:Option Int):List V:=(xs.drop (HT.eN xs.length 0 lo)).take 0x76
theorem kE (xs:List V) (lo hi:Option Int):(gK xs lo hi).length<=xs.length:=by
 unfold gK;rw [A0G,A1H];lia
inductive rSlT (K:W.Frag) (x:V) (lo hi:Option Int) (H:Hp) (Q:VK):Prop
 | mk (a:Addr) (xs:List V) (_:x=.ref a) (_:cj K H a xs) (_:¬ (HT.eN xs.length 0 lo=0/\HT.eN xs.length xs.length hi=xs.length)) (_:∀ p,H p=none->Q 0x48 (upd H p (.tup (gK xs lo hi)))):rSlT K x lo hi H Q
theorem Zz:SlR X (rSlT X.K):=by
 intro pins s σ H x v vl vu lo hi sl Q I rx hs pl pu h;obtain ⟨a,xs,rfl,hx,hw,q⟩:=h;cases rx;obtain ⟨its,r,ht,hz⟩:=I.tuple hx;have hlen:its.toArray.size=xs.length:=by rw [A0s];exact r.length.symm
 refine ⟨"tuple",_,A1t.lookup,ht.typeIs,?_⟩;refine HT.pQ ht hs pl pu (by rw [hlen];exact hw) ?_ (by rw [hlen];exact hz);rw [hlen];refine ⟨.ref s.heap.objs.size,_,I.laid (t':=s.toks) (o:=.tup (gK xs lo hi)) (fun b ob q=>A0b _ q) 0x2D ?_,rfl,q _ 0x3D⟩;exact ⟨A0O (kE xs lo hi) hz,_,(r.drop (HT.eN xs.length 0 lo)).take 0x76,IsTup.new _ _⟩
inductive Ys (K:W.Frag) (x y:V) (H:Hp) (Q:VK):Prop
 | mk (a b:Addr) (xs ys:List V) (_:x=.ref a) (_:y=.ref b) (_:cj K H a xs) (_:cj K H b ys) (_:xs≠[]) (_:xs.length+ys.length<=sizeLine) (_:(ys=[]->Q 0x3C H)) (_:(ys≠[]->∀ p,H p=none->Q 0x48 (upd H p (.tup (xs++ys))))):Ys K x y H Q
theorem Vals.yJ (r:Vals xs us):us=[]↔xs=[]:=by
 cases r with
 | nil=>simp
 | cons _ _=>simp
theorem VL:nA X (binaryOp .Add) (Ys X.K):=by
 intro pins s σ H x y v u Q I rx ry h;obtain ⟨a,b,xs,ys,rfl,rfl,ha,hb,hx,hz,q1,q2⟩:=h;cases rx;cases ry;obtain ⟨its,r1,p1,_⟩:=I.tuple ha;obtain ⟨its2,r2,p2,_⟩:=I.tuple hb;refine HT.VH p1 p2 (fun z=>hx (r1.yJ.mp z)) (fun z=>⟨.ref a,H,I,rfl,q1 (r2.yJ.mp z)⟩) (fun z=>?_) (by rw [<- r1.length,<- r2.length];exact hz);refine ⟨.ref s.heap.objs.size,_,I.laid (t':=s.toks) (o:=.tup (xs++ys)) (fun b ob q=>A0b _ q) 0x2D ?_,rfl,q2 (fun w=>z (r2.yJ.mpr w)) _ 0x3D⟩;exact ⟨by rw [iw];exact hz,_,r1.append r2,IsTup.new _ _⟩
end
def Yt (n:Nat) (i:Int):Option Nat:=if 0<=i then (if i<n then some i.toNat else none) else if -(n:Int)<=i then some (i+n).toNat else none
def wM {α:Type} (xs:List α) (i:Int):Option α:=(Yt xs.length i).bind fun j=>xs[j]?
theorem VN {i:Int} (h:Yt n i=some j):seqIndex? i n=some j/\j<n/\-(n:Int)<=i/\i<n:=by
 unfold Yt at h
 by_cases h0:0<=i
 ·rw [A0i h0] at h
  by_cases h1:i<n
  ·rw [A0i h1] at h;have e:i.toNat=j:=A0T h;exact ⟨by rw [seqIndex_of h0 h1,e],by lia,by lia,h1⟩
  ·rw [A0e h1] at h;cases h
 ·rw [A0e h0] at h
  by_cases h1:-(n:Int)<=i
  ·rw [A0i h1] at h;have e:(i+n).toNat=j:=A0T h;exact ⟨by rw [seqIndex_neg 0x2 h1,e],by lia,h1,by lia⟩
  ·rw [A0e h1] at h;cases h
theorem yK {α:Type}{xs:List α}{i:Int}{v:α} (h:wM xs i=some v):∃ j,seqIndex? i xs.length=some j/\xs[j]?=some v/\j<xs.length/\-(xs.length:Int)<=i/\i<xs.length:=by
 unfold wM at h;cases e:Yt xs.length i with
 | none=>rw [e] at h;cases h
 | some j =>
  rw [e] at h;obtain ⟨h1,h2,h3,h4⟩:=VN e;exact ⟨j,h1,h,h2,h3,h4⟩
theorem aL {α:Type}{xs:List α}{v:α} (h:xs[j]?=some v):wM xs (j:Int)=some v:=by
 have hj:j<xs.length:=(A0l.mp h).1;have e:Yt xs.length (j:Int)=some j:=by
  unfold Yt;rw [A0i 0x2,A0i 0x2];simp
 unfold wM;rw [e];exact h
theorem Ca {α:Type} (xs:List α) (v:α):wM (xs++[v]) (-1)=some v:=by
 have hl:(xs++[v]).length=xs.length+1:=by simp
 have e:Yt (xs++[v]).length (-1)=some xs.length:=by
  unfold Yt;rw [hl,A0e 0x5,A0i 0x2]
  congr 1
  lia
 unfold wM;rw [e]
 show (xs++[v])[xs.length]?=some v
 simp
def VP (b:Expr):Prop:=∀ o i,subscripted b false o i=operate [o,i] (getItem o i)
def IxR (X:Cx) (r:R2):Prop :=
 ∀ (value slice:Expr) (pins:List 0x16) (s:Shared) (σ:St) (H:Hp) (x y:V) (v u:Value) (Q:VK),Inv X pins σ H s->RelV x v->RelV y u->r x y H Q ->
  subscripted slice false v u=operate [v,u] (getItem v u)->wpAny 0x9 X.A (subscriptTail value slice v u) 0x37 X.xe s
def MtR (X:Cx) (id:String) (r:V->List V->Hp->VK->Prop):Prop :=
 ∀ (pins:List 0x16) (s:Shared) (σ:St) (H:Hp) (x:V) (xs:List V) (v:Value) (us:List Value) (Q:VK),Inv X pins σ H s->RelV x v->Vals xs us->r x xs H Q ->
  wpAny 0x9 X.A (call (.builtin id) (v::us)) 0x37 X.xe s
section
variable {a b:Expr}{tb:TE}
theorem aP {r:R2} (hr:IxR X r) (ha:PE X a ta) (hb:PE X b tb) (hs:VP b):PE X (.Subscript a b pos) (tOp r ta tb):=by
 intro pins s σ H Q I h;exact Subscript_ (Zn ha hb I h fun v u s2 x y H2 I2 rx ry q=>hr a b pins s2 σ H2 x y v u Q I2 rx ry q (hs _ _))
inductive ZC (K:W.Frag) (x y:V) (H:Hp) (Q:VK):Prop
 | mk (p:Addr) (xs:List V) (i:Int) (v:V) (_:x=.ref p) (_:y=.int i) (_:bO K H p xs) (_:wM xs i=some v) (_:Q v H):ZC K x y H Q
inductive rIxT (K:W.Frag) (x y:V) (H:Hp) (Q:VK):Prop
 | mk (p:Addr) (xs:List V) (i:Int) (v:V) (_:x=.ref p) (_:y=.int i) (_:cj K H p xs) (_:wM xs i=some v) (_:Q v H):rIxT K x y H Q
inductive rIxS (x y:V) (H:Hp) (Q:VK):Prop
 | mk (z:Str) (i:Int) (c:Nat) (_:x=.str z) (_:y=.int i) (_:z.length<=sizeLine) (_:wM z.cps.toList i=some c) (_:Q (.str ⟨#[c]⟩) H):rIxS x y H Q
theorem bD:IxR X (ZC X.K):=by
 intro value slice pins s σ H x y v u Q I rx ry h hs;obtain ⟨p,xs,i,z,rfl,rfl,hq,he,q⟩:=h;cases rx;obtain ⟨t,rfl⟩:=ry;obtain ⟨its,r,pl,hz⟩:=I.list hq;obtain ⟨j,h1,h2,h3,h4,h5⟩:=yK he;obtain ⟨w,ew,cO⟩:=r.get h2;have hl:=r.length;have hn:=uy;have fin:EP X pins σ Q w s:=⟨z,H,I,cO,q⟩
 by_cases h0:0<=i
 ·have hj:i.toNat=j:=by
   rw [seqIndex_of h0 h5] at h1;exact A0T h1
  exact item_listR pl.isList h0 0x2 (by rw [hj];simpa using ew) fin hs
 ·have hj:(i+(its.toArray.size:Int)).toNat=j:=by
   rw [seqIndex_neg 0x2 h4] at h1;rw [A0s,<- hl];exact A0T h1
  exact subscriptTail_builtinR (x:=w) pl.isList.typeIs A4V.lookup
   (wpAny_getItem_list_neg (Q:=fun r s'=>r=w/\EP X pins σ Q r s') pl.isList 0x2 (by rw [A0s] <;> lia) 0x2 (by rw [hj];simpa using ew) ⟨rfl,fin⟩) hs
theorem bI:IxR X (rIxT X.K):=by
 intro value slice pins s σ H x y v u Q I rx ry h hs;obtain ⟨p,xs,i,z,rfl,rfl,hq,he,q⟩:=h;cases rx;obtain ⟨t,rfl⟩:=ry;obtain ⟨its,r,pl,hz⟩:=I.tuple hq;obtain ⟨j,h1,h2,h3,h4,h5⟩:=yK he;obtain ⟨w,ew,cO⟩:=r.get h2;have hl:=r.length;have hn:=uy;have fin:EP X pins σ Q w s:=⟨z,H,I,cO,q⟩;exact subscriptTail_builtinR (x:=w) pl.typeIs slot_tuple_getitem.lookup
  (getItem_tuple (j:=j) (Q:=fun r s'=>r=w/\EP X pins σ Q r s') pl 0x2 0x2 (by rw [A0s,<- hl];exact h1) (by simpa using ew) ⟨rfl,fin⟩) hs
theorem Q0:IxR X rIxS:=by
 intro value slice pins s σ H x y v u Q I rx ry h hs;obtain ⟨z,i,c,rfl,rfl,hz,he,q⟩:=h;obtain ⟨t,rfl⟩:=rx;obtain ⟨t',rfl⟩:=ry;obtain ⟨j,h1,h2,h3,h4,h5⟩:=yK he;have hl:z.cps.toList.length=z.length:=by simp [Str.length]
 rw [hl] at h1 h4 h5;have hn:=uy;exact tail_any (typeIs_str s z t) slot_str_getitem.lookup (getItem_str (c:=c) (by
  have e1:decide (i < -(2 ^ 63:Int))=false:=A0p 0x2;have e2:decide (i>=2 ^ 63)=false:=A0p 0x2;rw [e1,e2,Bool.or_false]) (by rw [h1];simpa using h2) ⟨.str ⟨#[c]⟩,H,I.tok _,⟨_,rfl⟩,q⟩) hs
theorem yL (lo hi:Option Int) (n:Nat):(sliceBounds lo hi none n).1=((HT.eN n 0 lo:Nat):Int)/\(sliceBounds lo hi none n).2.1=((HT.eN n n hi:Nat):Int)/\(sliceBounds lo hi none n).2.2=1:=by
 refine ⟨?_,?_,rfl⟩
 ·cases lo with
  | none=>simp [sliceBounds,HT.eN]
  | some i =>
   simp only [sliceBounds,HT.eN,Option.getD_none,show (1:Int) > 0 by decide,A3u]
   by_cases h:i<0
   ·simp only [h,A3u] <;> lia
   ·simp only [h,A2O] <;> lia
 ·cases hi with
  | none=>simp [sliceBounds,HT.eN]
  | some i =>
   simp only [sliceBounds,HT.eN,Option.getD_none,show (1:Int) > 0 by decide,A3u]
   by_cases h:i<0
   ·simp only [h,A3u] <;> lia
   ·simp only [h,A2O] <;> lia
theorem wg (its:List Value) (lo hi:Option Int):slicePick its.toArray lo hi none=((its.drop (HT.eN its.length 0 lo)).take (HT.eN its.length its.length hi - HT.eN its.length 0 lo)).toArray:=by
 obtain ⟨h1,h2,h3⟩:=yL lo hi its.toArray.size;unfold slicePick;rw [h1,h2,h3];simp only [sliceRange_one,pick_run,A0s] <;> rfl
inductive rSlL (K:W.Frag) (x:V) (lo hi:Option Int) (H:Hp) (Q:VK):Prop
 | mk (a:Addr) (xs:List V) (_:x=.ref a) (_:bO K H a xs) (_:∀ p,H p=none->Q 0x48 (upd H p (.lst (gK xs lo hi)))):rSlL K x lo hi H Q
theorem jC:SlR X (rSlL X.K):=by
 intro pins s σ H x v vl vu lo hi sl Q I rx hs pl pu h;obtain ⟨a,xs,rfl,hx,q⟩:=h;cases rx;obtain ⟨its,r,ht,hz⟩:=I.list hx;have hlen:=r.length;refine ⟨"list",_,A4V.lookup,ht.isList.typeIs,?_⟩;refine wpAny_getItem_list_slice ht.isList hs pl pu .none 0xA ?_ (by rw [A0s] <;> lia);rw [wg,<- hlen];refine ⟨.ref s.heap.objs.size,_,I.laid (t':=s.toks) (o:=.lst (gK xs lo hi)) (fun b ob q=>A0b _ q) 0x2D ?_,rfl,q _ 0x3D⟩;exact ⟨A0O (kE xs lo hi) hz,_,0,(r.drop (HT.eN xs.length 0 lo)).take 0x76,A0n _ rfl⟩
def pR:V->Bool
 | .non=>true
 | .bl _=>true
 | .int _=>true
 | .str _=>true
 | _=>false
def Yu:V->V->Bool
 | .non,.non=>true
 | .bl a,.bl b=>a==b
 | .bl a,.int b=>(if a then 1 else 0)==b
 | .int a,.bl b=>a==(if b then 1 else 0)
 | .int a,.int b=>a==b
 | .str a,.str b=>a==b
 | _,_=>false
theorem ZD {x:V}{v:Value} (ry:RelV y u) (rx:RelV x v) (fy:pR y=true) (fx:pR x=true):SeqAt.EqAt A s u v (Yu y x):=by
 cases y with
 | non =>
  cases ry;cases x with
  | non=>cases rx;exact SeqAt.EqAt.same _
  | bl b=>cases rx;exact SeqAt.EqAt.none_bool b
  | int b=>obtain ⟨t,rfl⟩:=rx;exact SeqAt.EqAt.none_int b t
  | str b=>obtain ⟨t,rfl⟩:=rx;exact SeqAt.EqAt.none_str b t
  | _=>exact absurd (show false=true from fx) A0o
 | bl a =>
  cases ry;cases x with
  | non=>cases rx;exact SeqAt.EqAt.bool_none a
  | bl b=>cases rx;exact SeqAt.EqAt.bool_bool a b
  | int b=>obtain ⟨t,rfl⟩:=rx;exact SeqAt.EqAt.bool_int a b t
  | str b=>obtain ⟨t,rfl⟩:=rx;exact SeqAt.EqAt.bool_str a b t
  | _=>exact absurd (show false=true from fx) A0o
 | int a =>
  obtain ⟨t',rfl⟩:=ry;cases x with
  | non=>cases rx;exact SeqAt.EqAt.int_none a t'
  | bl b=>cases rx;exact SeqAt.EqAt.int_bool a t' b
  | int b=>obtain ⟨t,rfl⟩:=rx;exact SeqAt.EqAt.int_int a t' b t
  | str b=>obtain ⟨t,rfl⟩:=rx;exact A4z a t' b t
  | _=>exact absurd (show false=true from fx) A0o
 | str a =>
  obtain ⟨t',rfl⟩:=ry;cases x with
  | non=>cases rx;exact SeqAt.EqAt.str_none a t'
  | bl b=>cases rx;exact SeqAt.EqAt.str_bool a t' b
  | int b=>obtain ⟨t,rfl⟩:=rx;exact A4G a t' b t
  | str b=>obtain ⟨t,rfl⟩:=rx;exact A4K a t' b t
  | _=>exact absurd (show false=true from fx) A0o
 | _=>exact absurd (show false=true from fy) A0o
def FJ (x:V) (u:Value):Bool:=match u with
 | .none=>Yu .non x
 | .bool b=>Yu (.bl b) x
 | .int i _=>Yu (.int i) x
 | .str z _=>Yu (.str z) x
 | _=>false
theorem Q6 {x:V} (r:RelV y u) (f:pR y=true):FJ x u=Yu y x:=by
 cases y with
 | non=>cases r;rfl
 | bl b=>cases r;rfl
 | int i=>obtain ⟨t,rfl⟩:=r;rfl
 | str z=>obtain ⟨t,rfl⟩:=r;rfl
 | _=>exact absurd (show false=true from f) A0o
theorem pU {x:V}:∀ {xs:List V}{us:List Value},Vals xs us->xs.all pR=true->us.any (FJ x)=xs.any fun y=>Yu y x
 | _,_,.nil,_=>rfl
 | y::xs,u::us,.cons r t,f=>by
  rw [A2x,A0Y] at f;rw [A2y,A2y,Q6 r f.1,pU t f.2]
theorem nJ {x:V}{v:Value} (rx:RelV x v) (fx:pR x=true):∀ {xs:List V}{us:List Value},Vals xs us->xs.all pR=true->∀ u∈us,SeqAt.EqAt A s u v (FJ x u)
 | _,_,.nil,_=>fun u hu=>by cases hu
 | y::xs,u::us,.cons r t,f=>fun u' hu=>by
  rw [A2x,A0Y] at f;rcases A0d.mp hu with rfl | hu
  ·rw [Q6 r f.1];exact ZD r rx f.1 fx
  ·exact nJ rx fx t f.2 u' hu
def inV (x:V) (xs:List V):Bool:=xs.any fun y=>Yu y x
inductive rIn (K:W.Frag) (neg:Bool) (x y:V) (H:Hp) (Q:VK):Prop
 | mk (p:Addr) (xs:List V) (_:y=.ref p) (_:(bO K H p xs\/cj K H p xs)) (_:pR x=true) (_:xs.all pR=true) (_:Q (.bl (if neg then !inV x xs else inV x xs)) H):rIn K neg x y H Q
theorem gU:nA X (compareOp .In) (rIn X.K false):=by
 intro pins s σ H x y v u Q I rx ry h;obtain ⟨p,xs,rfl,hq,fx,fs,q⟩:=h;cases ry;rcases hq with hq | hq
 ·obtain ⟨its,r,pl,hz⟩:=I.list hq;refine SeqAt.in_listAt (FJ x) pl.isList (fun w hw=>nJ rx fx r fs w (by simpa using hw)) ⟨.bl _,H,I,rfl,?_⟩;rw [show its.toArray.any (FJ x)=its.any (FJ x) by simp,pU r fs]
  exact q
 ·obtain ⟨its,r,pl,hz⟩:=I.tuple hq;refine SeqAt.in_tupleAt (FJ x) pl (fun w hw=>nJ rx fx r fs w (by simpa using hw)) ⟨.bl _,H,I,rfl,?_⟩;rw [show its.toArray.any (FJ x)=its.any (FJ x) by simp,pU r fs]
  exact q
theorem pW:nA X (compareOp .NotIn) (rIn X.K true):=by
 intro pins s σ H x y v u Q I rx ry h;obtain ⟨p,xs,rfl,hq,fx,fs,q⟩:=h;cases ry;rcases hq with hq | hq
 ·obtain ⟨its,r,pl,hz⟩:=I.list hq;refine SeqAt.notIn_listAt (FJ x) pl.isList (fun w hw=>nJ rx fx r fs w (by simpa using hw)) ⟨.bl _,H,I,rfl,?_⟩;rw [show its.toArray.any (FJ x)=its.any (FJ x) by simp,pU r fs]
  exact q
 ·obtain ⟨its,r,pl,hz⟩:=I.tuple hq;refine SeqAt.notIn_tupleAt (FJ x) pl (fun w hw=>nJ rx fx r fs w (by simpa using hw)) ⟨.bl _,H,I,rfl,?_⟩;rw [show its.toArray.any (FJ x)=its.any (FJ x) by simp,pU r fs]
  exact q
theorem cT:iy X (.builtin "len") (fun xs H Q=>∃ p ys,xs=[.ref p]/\(bO X.K H p ys\/cj X.K H p ys)/\Q (.int ys.length) H):=by
 intro pins s σ H xs us Q I r h;obtain ⟨p,ys,rfl,hq,q⟩:=h;obtain ⟨u,rfl,rx⟩:=vals1 r;cases rx;have hn:=uy;rcases hq with hq | hq
 ·obtain ⟨its,r',pl,hz⟩:=I.list hq;have hlen:=r'.length;exact Calls.call_len_list pl.isList (by simp only [A0s] <;> lia) ⟨.int ys.length,H,I.tok _,⟨s.toks+1,by rw [A0s,hlen]⟩,q⟩
 ·obtain ⟨its,r',pl,hz⟩:=I.tuple hq;have hlen:=r'.length;exact len_tuple pl (by simp only [A0s] <;> lia) ⟨.int ys.length,H,I.tok _,⟨s.toks+1,by rw [A0s,hlen]⟩,q⟩
theorem yM:iy X (.builtin "len") (fun xs H Q=>∃ z,xs=[.str z]/\z.length<=sizeLine/\Q (.int z.length) H):=by
 intro pins s σ H xs us Q I r h;obtain ⟨z,rfl,hz,q⟩:=h;obtain ⟨u,rfl,t,rfl⟩:=vals1 r;have hn:=uy;exact len_str 0x2 ⟨.int z.length,H,I.tok _,⟨_,rfl⟩,q⟩
theorem yN:iy X (.type "list") (fun xs H Q=>∃ p ys,xs=[.ref p]/\(bO X.K H p ys\/cj X.K H p ys)/\∀ l,H l=none->Q (.ref l) (upd H l 0x78)):=by
 intro pins s σ H xs us Q I r h;obtain ⟨p,ys,rfl,hq,q⟩:=h;obtain ⟨u,rfl,rx⟩:=vals1 r;cases rx;have fin:∀ (its:List Value),Vals ys its->ys.length<=sizeLine->∀ (h':Heap) (c':Nat),(∀ b o',s.heap.get? b=some o'->h'.get? b=some o') ->
   h'.get? s.heap.objs.size=some { cls:=.type "list",dict:=none,data:=.seq its.toArray c',slots:=#[] }->EP X pins σ Q 0x14 { s with heap:=h' }:=fun its r' hz h' c' kp e =>
  ⟨.ref s.heap.objs.size,_,I.laid (t':=s.toks) kp 0x2D (show cJ X.prog X.w _ h' _ 0x78 from ⟨hz,its,c',r',e⟩),rfl,q _ 0x3D⟩
 rcases hq with hq | hq
 ·obtain ⟨its,r',pl,hz⟩:=I.list hq;have hlen:=r'.length;obtain ⟨o,ho,hc,n,hd⟩:=pl.isList;exact call_list_seq p 0x51 ho hc hd (fun h' c' kp e=>fin its r' hz h' c' kp e) (by simp only [A0s] <;> lia)
 ·obtain ⟨its,r',pl,hz⟩:=I.tuple hq;have hlen:=r'.length;obtain ⟨o,ho,hc,n,hd⟩:=pl;exact call_list_seq p (.inr rfl) ho hc hd (fun h' c' kp e=>fin its r' hz h' c' kp e) (by simp only [A0s] <;> lia)
def tyV (K:PySem.W.Frag) (T:String) (x:V) (H:Hp):Prop:=match x with
 | .str _=>T="str"
 | .int _=>T="int"
 | .ref p=>(T="list"/\∃ xs,bO K H p xs)\/(T="tuple"/\∃ o,K.lookup p=some o/\o.cls=.type "tuple"/\o.dict=none) \/
   (T="dict"/\((∃ kvs,H p=some 0x15)\/∃ kvs,H p=some (.dT kvs)))\/(T="set"/\∃ S n,H p=some (.set S n))
 | _=>False
theorem Q7 {x:V}{v:Value} (I:Inv X pins σ H s) (r:RelV x v) (ty:tyV X.K T x H) :
  s.TypeIs v T/\∀ a,v=.ref a->∃ ob,s.heap.get? a=some ob/\ob.dict=none:=by
 cases x with
 | str z =>
  obtain ⟨t,rfl⟩:=r;cases (show T="str" from ty)
  exact ⟨typeIs_str s z t,fun _ e=>nomatch e⟩
 | int i =>
  obtain ⟨t,rfl⟩:=r;cases (show T="int" from ty)
  exact ⟨typeIs_int s i t,fun _ e=>nomatch e⟩
 | ref p =>
  cases r;rcases ty with ⟨rfl,xs,hq⟩ | ⟨rfl,o,hk,hc,hd⟩ | ⟨rfl,hk⟩ | ⟨rfl,S,n,hk⟩
  ·obtain ⟨its,_,pl,_⟩:=I.list hq;refine ⟨pl.isList.typeIs,fun a e=>?_⟩;cases e;obtain ⟨o,n,e,c,hd,_⟩:=pl;exact ⟨o,e,hd⟩
  ·refine ⟨⟨o,I.oO p o hk,hc⟩,fun a e=>?_⟩;cases e;exact ⟨o,I.oO _ o hk,hd⟩
  ·have z:∃ o,s.heap.get? p=some o/\o.ExactDict:=by
    rcases hk with ⟨kvs,hk⟩ | ⟨kvs,hk⟩
    ·obtain ⟨_,_,_,_,o,_,_,e,ex,_⟩:=I.hok p _ hk;exact ⟨o,e,ex⟩
    ·obtain ⟨_,_,_,_,o,_,_,e,ex,_⟩:=I.hok p _ hk;exact ⟨o,e,ex⟩
   obtain ⟨o,e,ex⟩:=z;refine ⟨⟨o,e,ex.1⟩,fun a e2=>?_⟩;cases e2;exact ⟨o,e,ex.2.1⟩
  ·obtain ⟨o,_,_,_,e,ex,_⟩:=I.hok p _ hk;refine ⟨⟨o,e,ex.1⟩,fun a e2=>?_⟩;cases e2;exact ⟨o,e,ex.2.1⟩
 | _=>exact False.elim ty
def tBM0 (K:PySem.W.Frag) (T:String) (r:V->List V->Hp->VK->Prop) (to:TE):TE:=fun σ H Q=>to σ H fun x H1=>tyV K T x H1/\r x [] H1 Q
def tBM (K:PySem.W.Frag) (T:String) (r:V->List V->Hp->VK->Prop) (to:TE) (t:TA):TE:=fun σ H Q=>to σ H fun x H1=>tyV K T x H1/\t σ H1 fun xs H2=>r x xs H2 Q
variable {o:Expr}{es:List Expr}{to:TE}{t:TA}{id:String}{r:V->List V->Hp->VK->Prop}
theorem ZF (pa:PlainAttrs T) (slot:Slot T name id) (hty:typeOf (.builtin id)=pure (.type "method_descriptor")) (hm:MtR X id r) (ho:PE X o to)
  (hbase:attributeBase o name X.env (eval o X.env)=eval o X.env:=by rfl) (hline:0x64=true:=by rfl):PE X (.Call (.Attribute o name apos) [] [] cpos) (tBM0 X.K T r to):=by
 intro pins s σ H Q I h;refine A3b hbase hline (cH 0x5E fun v s1 zq=>?_);obtain ⟨x,H1,I1,r1,ty,q1⟩:=zq;obtain ⟨h1,h2⟩:=Q7 I1 r1 ty;exact ⟨T,id,pa,slot,hty,h1,h2,A1k rfl (A3x (hm pins s1 σ H1 x [] v [] Q I1 r1 .nil q1))⟩
theorem iz (pa:PlainAttrs T) (slot:Slot T name id) (hty:typeOf (.builtin id)=pure (.type "method_descriptor")) (hm:MtR X id r) (ho:PE X o to) (ha:PA X (e::es) t)
  (hbase:attributeBase o name X.env (eval o X.env)=eval o X.env:=by rfl)
  (hfew:((backTo cpos (starEach (e::es) X.env)).all (fun x=>!x.1)&&(backToKw cpos (keywordEach [] X.env)).all (fun x=>x.1.isSome)
   &&decide ((e::es).length+([]:List Keyword).length+(if ([]:List Keyword).isEmpty then 0 else 1)<30))=true:=by rfl)
  (hline:0x64=true:=by rfl) (hs:starEach (e::es) X.env=0x3E::starEach es X.env:=by rfl) (hplain:(backTo cpos (starEach es X.env)).any (·.1)=false:=by rfl) :
  PE X (.Call (.Attribute o name apos) (e::es) [] cpos) (tBM X.K T r to t):=by
 intro pins s σ H Q I h;refine wpAny_Call_method_late hbase hfew hline rfl (cH 0x5E fun v s1 zq=>?_);obtain ⟨x,H1,I1,r1,ty,q1⟩:=zq;obtain ⟨h1,h2⟩:=Q7 I1 r1 ty;refine ⟨T,id,pa,slot,hty,h1,h2,?_⟩;have hA:=ha cpos pins s1 σ H1 _ I1 q1;rw [hs] at hA ⊢;refine A1k (by show (false||(backTo cpos (starEach es X.env)).any (·.1))=false;rw [hplain] <;> rfl) (A2n ?_)
 exact cH hA fun us s2 ⟨vs,H2,I2,r2,q2⟩=>hm pins s2 σ H2 x vs v us Q I2 r1 r2 q2
end
def MtM (X:Cx) (id:String) (r:V->List V->Hp->VK->Prop):Prop :=
 ∀ (pins:List 0x16) (s:Shared) (σ:St) (H:Hp) (x:V) (xs:List V) (v:Value) (us:List Value) (Q:VK),Inv X pins σ H s->RelV x v->Vals xs us->r x xs H Q ->
  wpAny 0x9 X.A (call (.builtin id) (v::us)) 0x37 X.xe s
theorem Vals.one:∀ {x:V}{us:List Value},Vals [x] us->∃ u,us=[u]/\RelV x u
 | _,_,.cons r .nil=>⟨_,rfl,r⟩
theorem Vals.zero:∀ {us:List Value},Vals [] us->us=[]
 | _,.nil=>rfl
section
variable {l:Addr}{zs:List V}
theorem Inv.ZG {its':List Value}{f:Array Value->Array Value} (I:Inv X pins σ H s) (hH:H l=some 0x67)
  (e:s.heap.get? l=some { cls:=.type "list",data:=.seq its.toArray n }) (hf:f its.toArray=its'.toArray) (hv:Vals ys its') (hz:ys.length<=sizeLine) :
  Inv X pins σ (upd H l 0x78) { s with heap:=s.heap.update l (Obj.mapSeq f),toks:=t' }:=by
 have q:=PySem.IsL.update e f;rw [hf] at q;refine I.write (x:=l) (e:=l) (by rw [hH];exact trivial) 0x51 (fun b' u hb hu=>(A3U s.heap (Obj.mapSeq f) (A0m hb)).trans hu) ⟨_,q⟩ ?_;exact ⟨hz,its',_,hv,q⟩
theorem Inv.lnew (I:Inv X pins σ H s) (hv:Vals ys its) (hz:ys.length<=sizeLine) :
  Inv X pins σ (upd H s.heap.objs.size 0x78) { s with heap:=s.heap.push { cls:=.type "list",data:=.seq its.toArray },toks:=t' } :=
 I.laid (fun _ _ q=>A0b _ q) 0x2D ⟨hz,its,0,hv,A0n _ rfl⟩
theorem Inv.fresh (I:Inv X pins σ H s):H s.heap.objs.size=none:=I.hok.fresh 0x2D
theorem Inv.Q8 (I:Inv X pins σ H s) (hH:H l=some 0x67):xs.length<=sizeLine/\∃ (its:List Value) (n:Nat),Vals xs its/\xs.length=its.length/\s.heap.get? l=some { cls:=.type "list",data:=.seq its.toArray n }:=by
 obtain ⟨z,its,n,r,e⟩:=I.hok l _ hH;exact ⟨z,its,n,r,r.length,e⟩
end
inductive Jk (x:V) (vs:List V) (H:Hp) (Q:VK):Prop
 | mk (l:Addr) (xs:List V) (y:V) (_:x=.ref l) (_:vs=[y]) (_:H l=some 0x67) (_:xs.length<sizeLine) (_:Q .non (upd H l (.lst (xs++[y])))):Jk x vs H Q
theorem cQ:MtM X "list.append" Jk:=by
 intro pins s σ H x vs v us Q I rx rv h;obtain ⟨l,xs,y,rfl,rfl,hH,hz,q⟩:=h;cases rx;obtain ⟨u,rfl,ru⟩:=rv.one;obtain ⟨z,its,n,r,hl,e⟩:=I.Q8 hH;refine call_meets F.slot_list_append ⟨_,e,rfl⟩ F.entry_list_append (F.args_list_append_2 _ _) (PySem.list_append l its.toArray n u (by rw [A0s];lia)) ⟨e,?_⟩;refine ⟨.non,_,I.ZG (its':=its++[u]) hH e 0xA (r.append (.cons ru .nil)) ?_,rfl,q⟩;rw [iw,A0r];lia
inductive Q9 (x:V) (vs:List V) (H:Hp) (Q:VK):Prop
 | mk (l:Addr) (xs:List V) (_:x=.ref l) (_:vs=[]) (_:H l=some 0x67) (_:Q .non (upd H l 0x75)):Q9 x vs H Q
theorem Qa:MtM X "list.clear" Q9:=by
 intro pins s σ H x vs v us Q I rx rv h;obtain ⟨l,xs,rfl,rfl,hH,q⟩:=h;cases rx;have hus:=rv.zero;subst hus;obtain ⟨z,its,n,r,hl,e⟩:=I.Q8 hH;refine call_meets F.slot_list_clear ⟨_,e,rfl⟩ F.entry_list_clear (F.args_list_clear_1 _) (AutoSeq1.list_clear_list_0 l its.toArray n (by rw [A0s];lia)) ⟨e,?_⟩;exact ⟨.non,_,I.ZG (its':=[]) (ys:=[]) hH e rfl .nil (A0X _),rfl,q⟩
inductive rCat (x y:V) (H:Hp) (Q:VK):Prop
 | mk (l b:Addr) (xs zs:List V) (_:x=.ref l) (_:y=.ref b) (_:H l=some 0x67) (_:H b=some (.lst zs)) (_:xs.length+zs.length<=sizeLine) (_:∀ p,H p=none->Q 0x48 (upd H p (.lst (xs++zs)))):rCat x y H Q
theorem pA:nA X (binaryOp .Add) rCat:=by
 intro pins s σ H x y v u Q I rx ry h;obtain ⟨l,b,xs,zs,rfl,rfl,hH,hB,hz,q⟩:=h;cases rx;cases ry;obtain ⟨z,its,n,r,hl,e⟩:=I.Q8 hH;obtain ⟨z2,its2,n2,r2,hl2,e2⟩:=I.Q8 hB;refine PySem.P.add_list e e2 ?_ (by rw [A0s,A0s];lia);have ea:its.toArray++its2.toArray=(its++its2).toArray:=by simp
 rw [ea];exact ⟨.ref _,_,I.lnew (t':=s.toks) (r.append r2) (by rw [iw];lia),rfl,q _ I.fresh⟩
end L2
namespace Att
open PySem PySem.W PySem.Calls PyProof.Rows
theorem sS {P:Params}:∀ (ns:List Int) (vs:List Value),WellAll P h vs (ns.map WData.int)->IntsAre vs ns:=by
 intro ns
 induction ns with
 | nil =>
  intro vs w;rw [A3V] at w;cases w;exact .nil
 | cons n ns ih =>
  intro vs w;rw [A0h] at w;cases w with
  | cons a b =>
   cases a;exact .cons _ _ (ih _ b)
theorem Mh {l:OpenLaw} (hn:l.most=some n) {P:Params}{args:List WData}{vals:List Value}
  (hpre:l.row.toRowW.claim.pre args=true) (hwl:WellAll P h vals args) :
  ∃ a vs ns,vals=[Value.ref a]/\args=[WData.list (ns.map WData.int)]/\h.get? a=some { cls:=.type "list",data:=.seq vs.toArray }/\IntsAre vs ns/\ns.length<=n:=by
 have hsh:WShape.hasAll [] args [.list .int]=true:=(pre_splitW hpre).1;have hc:l.pre.holds [] { args:=args }=true:=(pre_splitW hpre).2;obtain ⟨d,r,rfl,h1,h2⟩:=hasAllW_cons hsh;obtain rfl:=hasAllW_nil h2;obtain ⟨xs,rfl,h3⟩:=hasW_list h1;obtain ⟨ns,rfl⟩:=items_int h3;have hlen:ns.length<=n:=by
  unfold OpenLaw.pre at hc;have h4:(WTm.not (.lt (.lit (.int (n:Int))) (.len (.arg 0)))).holds [] { args:=[.list (ns.map .int)] }=true:=by
   have h4:=(holds_andW hc).1;rw [hn] at h4;exact h4
  have h5:=condW_of h4 (w_not (w_lt w_lit (w_len_list (w_arg rfl))));rw [bV] at h5;refine Nat.le_of_not_lt fun q=>?_;have q':(n:Int)<((ns.length:Nat):Int):=by lia
  first
   | (rw [A0k q'] at h5;exact absurd h5 0x5)
   | (simp at h5;lia)
 cases hwl with
 | cons w1 w2 =>
  cases w2;cases w1 with
  | list ho hall=>exact ⟨_,_,ns,rfl,rfl,ho,sS ns _ hall,hlen⟩
theorem Mi (l:OpenLaw) (args:List WData):l.row.toRowW.claim.post args (.bool true) args=true :=
 postW_of (r:=l.row.toRowW) (X:=(true==true))
  (show WShape.has [] (.bool true) .bool=true by first | rfl | decide | simp [WShape.has,WShape.arms,WShape.armsAll])
  (show (WTm.eq .res (.lit (.bool true))).value [] { args:=args,res:=some (.bool true),after:=args }=some (.bool (true==true)) from w_eq_bool (w_res rfl) w_lit) rfl
theorem Cd {l:OpenLaw}{q:Program}{d:DefRec}
  (hn:l.most=some n) (hdf:d.params.defaults=[])
  (call:∀ (w:World) (s₀ s₁:Shared) (mg mb:Str->Option Value) (fa:Addr) (o:Obj) (pm cd doc:Value) (a:Addr) (vs:List Value) (ns:List Int),
   Ground q loose [] XP w s₀ mg mb s₁.heap->YP w s₁.heap ->
   s₁.heap.get? fa=some o->o.data=.func (docDef d.name d.params d.body d.scope pm cd doc)->s₁.heap.CodeRec cd d.name->mg d.name=some (.ref fa) ->
   s₁.heap.get? a=some { cls:=.type "list",data:=.seq vs.toArray }->IntsAre vs ns->ns.length<=n->s₁.gens=#[] ->
   codeAny (model l.prog w) callerA (.call (.ref fa) ⟨[.ref a],[]⟩) (fun r s'=>r=.ok (.ret (.bool true))/\OldK s₁.heap s'.heap/\s'.os=s₁.os/\AllBare s'.gens) s₁) :
  WalkO q loose XP YP l.row.toRowW d [] (fun f vs=>PySem.call f vs):=by
 intro w s₀ s₁ mg mb G Y fa o pm cd doc dV kV ho hd hcd hD hmg hg args vals as hpre hlay hrd hwl hlo;obtain rfl:dV=.none:=Dflts.none hD hdf;obtain rfl:kV=.none:=Dflts.noKw hD;obtain ⟨a,vs,ns,rfl,rfl,hobj,hints,hlen⟩:=Mh hn hpre hwl;refine enter_call (A3t (call w s₀ s₁ mg mb fa o pm cd doc a vs ns G Y ho (fd_plain hd) hcd hmg hobj hints hlen hg) fun r s' hq=>?_);obtain ⟨rfl,h2,h3,h4⟩:=hq;exact ⟨.inl ⟨.bool true,.bool true,[],rfl,fun _=>rfl,.bool true,Mi l _,fun _=>⟨List.Pairwise.nil,fun _ hm=>(nomatch hm)⟩⟩,h2,h3,h4⟩
end Att
namespace L2
open PySem PySem.Spec PyProof.Rows
theorem wO:∀ {vs:List Value}{ns:List Int},IntsAre vs ns->Vals 0x42 vs
 | _,_,.nil=>.nil
 | _,_,.cons n t h=>.cons ⟨t,rfl⟩ (wO h)
def Only (H:Hp):Prop:=∀ b,H b=none\/∃ o xs,H b=some (.gH o 0x67)
theorem Qc {mb:Str->Option Value}{k:Nat}{fa:Addr}{x:Str}{s₁:Shared}{vs:List Value}{ns:List Int}
  (KX:K.In s₁.heap) (hns:s₁.heap.Ns mainGlobals mg) (hb:s₁.heap.Ns builtinsNs mb) (hbb:∀ x:Str,x≠"__name__"->mb x=bootBuiltins x) (hlim:s₁.heap.NoLimit) (hg:s₁.gens=#[])
  (ha:s₁.heap.get? a=some { cls:=.type "list",data:=.seq vs.toArray }) (hi:IntsAre vs ns) (hl:ns.length<=sizeLine) (hr:cM k callerA)
  (F:∀ base:Heap,K.In base->base.Ns mainGlobals mg->aJ P w K mg base CX k fa fd [x] sp) (hbind:∀ (s:Shared) (u:Value),BindsTo s fd ⟨[u],[]⟩ [(x,u)])
  (hsp:∀ H:Hp,Only H->bO K H a 0x42->sp [.ref a] H (fun v _=>v=.bl true) fun _ _ _=>False)
  (hCX:∀ H e s',CX [] H s₁ (fun _ _ _=>False) e s'->False) :
  codeAny (model P w) callerA (.call (.ref fa) ⟨[.ref a],[]⟩) (fun r s'=>r=.ok (.ret (.bool true))/\OldK s₁.heap s'.heap/\s'.os=s₁.os/\AllBare s'.gens) s₁:=by
 have rv:=wO hi;have lenV:=hi.length;have core:∀ H:Hp,Only H->bO K H a 0x42->oE P w H s₁.heap->(∀ b,H b≠none->b=a)->(H a≠none->K.lookup a=none) ->
   codeAny (model P w) callerA (.call (.ref fa) ⟨[.ref a],[]⟩) (fun r s'=>r=.ok (.ret (.bool true))/\OldK s₁.heap s'.heap/\s'.os=s₁.os/\AllBare s'.gens) s₁:=by
  intro H hO hS hok hA hK;have Jl:∀ {b:Addr}{o:Obj},s₁.heap.get? b=some o->H b=none->(yC s₁.heap H).get? b=some o:=fun e n=>Ov e n;have noA:∀ {b:Addr}{o:Obj}{es:Array DictEntry}{ep:Nat},s₁.heap.get? b=some o->o.data=.dict es ep->H b=none:=fun {b o es ep} e d=>by
   cases q:H b with
   | none=>rfl
   | some u =>
    have e':b=a:=hA b (by rw [q];simp);subst e';rw [ha] at e;cases e;have d':Data.seq vs.toArray _=Data.dict es ep:=d;cases d'
  have nsK:∀ {b:Addr}{m:Str->Option Value},s₁.heap.Ns b m->(yC s₁.heap H).Ns b m:=fun {b m} ⟨o,es,ep,e,d,r⟩=>⟨o,es,ep,Jl e (noA e d),d,r⟩;have hKb:K.In (yC s₁.heap H):=fun b o e=>Jl (KX b o e) (by
   cases q:H b with
   | none=>rfl
   | some u =>
    have e':b=a:=hA b (by rw [q];simp);subst e';rw [hK (by rw [q];simp)] at e;cases e)
  have hM:Mod K mg (yC s₁.heap H):=⟨hKb,nsK hns,⟨mb,nsK hb,hbb⟩,let ⟨mc,h1,h2⟩:=hlim;⟨mc,nsK h1,h2⟩⟩
  have e0:w6 P w K mg (yC s₁.heap H) callerA [] s₁ H:=⟨rfl,hM,fun b o e=>Vy e,Nat.le_of_eq (Lr _ _),trivial,fun b hb=>absurd (show b∈([]:List Addr) from hb) 0xA,hok,.of_eq hg⟩
  refine A3t ((F _ hKb (nsK hns)).run callerA [] s₁ H ⟨[.ref a],[]⟩ [.ref a] [.ref a] _ _ hr e0 (hbind s₁ 0x3C) (.cons rfl .nil) (hsp H hO hS)) fun r s' h=>?_;cases r with
  | error e=>exact (hCX H e s' h).elim
  | ok fl =>
   cases fl with
   | next=>exact False.elim h
   | brk=>exact False.elim h
   | cont=>exact False.elim h
   | ret u =>
    obtain ⟨v,H',os,bare,un,hok',r',q⟩:=h;have q':v=.bl true:=q;subst q';obtain rfl:u=Value.bool true:=r';refine ⟨rfl,OldK.of_keep fun b o e=>?_,os,bare⟩;cases q:H b with
    | none=>exact un.keep b o e q (by intro z;exact absurd (show b∈([]:List Addr) from z) 0xA) 0xA
    | some u =>
     rcases hO b with z | ⟨ob,xs,z⟩
     ·rw [q] at z;cases z
     ·have z2:=un.uf b ob _ z;obtain ⟨e1,_⟩:=hok b _ z;obtain ⟨e2,_⟩:=hok' b _ z2;rw [e] at e1;cases e1;exact e2
 cases hk:K.lookup a with
 | some o =>
  have e:=KX a o hk;rw [ha] at e;cases e;refine core (fun _=>none) (fun _=>.inl rfl) (.inr ⟨_,vs.toArray,_,hk,rfl,rfl,rfl,by rw [A0s,lenV];exact hl,by simpa using rv⟩) (fun b u z=>by have z':(none:Option HO)=some u:=z;cases z') (fun b z=>absurd rfl z) fun z=>absurd rfl z
 | none =>
  refine core (fun b=>if b=a then some (.gH { cls:=.type "list",data:=.seq vs.toArray } (.lst 0x42)) else none) (fun b=>?_) (.inl (.inr ⟨{ cls:=.type "list",data:=.seq vs.toArray },A0i rfl⟩)) (fun b u z=>?_) (fun b z=>?_) fun _=>hk
  ·by_cases hb:b=a
   ·exact .inr ⟨_,_,A0i hb⟩
   ·exact .inl (A0e hb)
  ·by_cases hb:b=a
   ·have z':=(A0i hb).symm.trans z;cases z';subst hb;exact ⟨ha,by rw [bV];exact hl,vs,_,rv,ha⟩
   ·have z':=(A0e hb).symm.trans z;cases z'
  ·by_cases hb:b=a
   ·exact hb
   ·exact absurd (A0e hb) z
theorem VR {l:PySem.W.OpenLaw}{k:Nat}{q:Program}{d:DefRec}{K:Params->PySem.W.Frag}{CX:World->Jf}{sp:World->Sp}{x:Str}
  (hn:l.most=some n) (hn2:n<=sizeLine) (hdf:d.params.defaults=[]) (hr:cM k callerA)
  (hY:∀ (w:World) (h:Heap),YP w h->(K w.params).In h)
  (F:∀ (w:World) (mg:Str->Option Value) (fa:Addr) (h:Heap),(K w.params).In h->h.Ns mainGlobals mg->mg d.name=some (.ref fa) ->
   ∃ fd:FuncData,(∀ (s:Shared) (u:Value),BindsTo s fd ⟨[u],[]⟩ [(x,u)]) /\
    ∀ base:Heap,(K w.params).In base->base.Ns mainGlobals mg->aJ l.prog w (K w.params) mg base (CX w) k fa fd [x] (sp w))
  (hsp:∀ (w:World) (H:Hp) (a:Addr) (ns:List Int),ns.length<=n->Only H->bO (K w.params) H a 0x42->sp w [.ref a] H (fun v _=>v=.bl true) fun _ _ _=>False)
  (hCX:∀ (w:World) (H:Hp) (s:Shared) (e:Value) (s':Shared),CX w [] H s (fun _ _ _=>False) e s'->False) :
  PySem.W.WalkO q loose XP YP l.row.toRowW d [] (fun f vs=>PySem.call f vs):=by
 refine Att.Cd hn hdf fun w s₀ s₁ mg mb fa o pm cd doc a vs ns G Y ho hd hcd hmg hobj hints hlen hg=>?_;have KX:=hY w _ Y;obtain ⟨fd,hb,hF⟩:=F w mg fa _ KX G.T.g hmg;exact Qc KX G.T.g G.T.b G.T.builtins G.T.nolimit hg hobj hints (A0O hlen hn2) hr hF hb (fun H hO hS=>hsp w H a ns hlen hO hS) fun H e s'=>hCX w H s₁ e s'
def inClass (s:Stmt) (j:Nat):Stmt:=match s with
 | .ClassDef _ _ _ body _ _ _ _ _ _ _=>body.getD j (.Pass ⟨0,0,0,0⟩)
 | _=>.Pass ⟨0,0,0,0⟩
def m9 (s:Stmt):Arguments:=match s with
 | .FunctionDef _ a _ _ _ _ _ _ _ _=>a
 | _=>{ posonlyargs:=[],args:=[],vararg:=none,kwonlyargs:=[],kw_defaults:=[],kwarg:=none,defaults:=[] }
def iB (s:Stmt):List Stmt:=match s with
 | .FunctionDef _ _ b _ _ _ _ _ _ _=>b
 | _=>[]
def aH (s:Stmt):Scope:=match s with
 | .FunctionDef _ _ _ _ _ _ sc _ _ _=>sc
 | _=>{ kind:=.function,names:=[],isGenerator:=false,isCoroutine:=false }
abbrev bM:Jf:=fun _ _ _ _ _ _=>False
abbrev E0:XK:=fun _ _ _=>False
theorem aX:Passes bM X E0:=fun _ _ _ _ _ _ _ h=>h.elim
structure fK (K:PySem.W.Frag) (x qual:Str) (st:Stmt) (f:Addr) (fd:FuncData):Prop where
 ex:∃ (oc:Value) (od:Option Addr) (kV doc pm:Value) (an:Option Addr) (cdv ct:Value) (osl:Array (Option Value)),
  fd=PySem.W.fnOf x qual (m9 st) (iB st) (aH st) .none kV doc pm an cdv ct/\K.lookup f=some ⟨oc,od,.func fd,osl⟩/\PySem.W.codeIn K cdv qual=true
 kp:PySem.W.keepIn K 0x4E=true
theorem fK.ok {x:Str}{k:Nat} (F:fK K x qual st f fd) (S:aO N ps (aH st)) (len:∀ vs H Q E,sp vs H Q E->vs.length=ps.length)
  (hbody:∀ (cdv:Value) (A:Around) (outer:List Env) (s:Shared) (H:Hp) (vs:List V) (Q:VK) (E:XK),cM k (A.deeper (envOfC qual (aH st) s.heap.objs.size f cdv))->sp vs H Q E ->
   ∃ t,EY (Fx bM P w K mg base N qual (aH st) f cdv A outer s H E).nox (iB st) t/\t { nx:=fun _ H'=>Q .non H',rt:=Q } (start N vs) H):aJ P w K mg base bM (k+1) f fd ps sp:=by
 obtain ⟨oc,od,kV,doc,pm,an,cdv,ct,osl,rfl,lk,hcd⟩:=F.ex;refine Yq lk hcd S len fun A outer s H vs Q E hr hsp=>?_;obtain ⟨t,h,q⟩:=hbody cdv A outer s H vs Q E hr hsp;exact ⟨t,h.nox,q⟩
theorem fK.binds {x:Str} (F:fK K x qual st f fd)
  (h:∀ (kV doc pm:Value) (an:Option Addr) (cdv ct:Value) (us:List Value),us.length=ps.length->bindArgs (PySem.W.fnOf x qual (m9 st) (iB st) (aH st) .none kV doc pm an cdv ct) ⟨us,[]⟩=pure (ps.zip us)):Binds K fd ps []:=by
 obtain ⟨oc,od,kV,doc,pm,an,cdv,ct,osl,rfl,lk,hcd⟩:=F.ex;exact .all (h kV doc pm an cdv ct)
theorem Qd {x:Str}{oc:Value}{od an:Option Addr}{osl:Array (Option Value)}{kV doc pm cdv ct:Value} (l:K.lookup f=some ⟨oc,od,.func (PySem.W.fnOf x qual (m9 st) (iB st) (aH st) .none kV doc pm an cdv ct),osl⟩)
  (c:PySem.W.codeIn K cdv qual=true) (k:PySem.W.keepIn K 0x4E=true):fK K x qual st f (PySem.W.fnOf x qual (m9 st) (iB st) (aH st) .none kV doc pm an cdv ct):=⟨⟨oc,od,kV,doc,pm,an,cdv,ct,osl,rfl,l,c⟩,k⟩
theorem wQ (h:n<=1000):n<sizeLine:=A1y h 0x5
theorem pv (i:Nat) {x:Str} (hN:X.N[i]?=some x:=by rfl) (hv:Vis X.env.scope x:=by first | exact Or.inl rfl | exact Or.inr 0x7 | exact Or.inr (Or.inr rfl)) (hd:0x30=false:=by decide)
  (hcd:(x==("__classdict__" : Str))=false:=by decide):PE X (.Name x pos) (Bs i):=Ze hN hv hd hcd
theorem cu {A:Prop} (h:B):if false=true then A else B:=by
 rw [A0e A0o];exact h
theorem dU {A:Prop} (h:A):if true=true then A else B:=by
 rw [A0i rfl];exact h
theorem iU {c A:Prop} [Decidable c] (h1:c->A) (h2:¬ c->B):if c then A else B:=by
 by_cases h:c
 ·rw [A0i h];exact h1 h
 ·rw [A0e h];exact h2 h
theorem Yv {c A:Prop} [Decidable c] (hc:c) (h:B):if (!decide c)=true then A else B:=by
 rw [A0k hc];exact cu h
def Same (H H':Hp):Prop:=∀ b o,H b=some o->H' b=some o
theorem Same.refl (H:Hp):Same H H:=fun _ _ h=>h
theorem Same.trans (a:Same H H1) (b:Same H1 H2):Same H H2:=fun c o h=>b c o (a c o h)
theorem Same.free (e:Same H H') {l:Addr} (h:H' l=Option.none):H l=Option.none:=by
 cases q:H l with
 | none=>rfl
 | some o =>
  rw [e l o q] at h;cases h
theorem Same.seq (e:Same H H') (h:bO K H a xs):bO K H' a xs:=by
 rcases h with (h | ⟨o,h⟩) | h
 ·exact .inl (.inl (e _ _ h))
 ·exact .inl (.inr ⟨o,e _ _ h⟩)
 ·exact .inr h
def gW (env:Env):List (Str×NameKind)->List (Str×Addr)->List (Str×Addr)
 | [],cs=>cs
 | (n,k)::r,cs=>gW env r (if k==.free then (n,(env.cells.lookup n).getD 0)::cs else cs)
theorem wR:∀ (l:List (Str×NameKind)) (cs:List (Str×Addr)) (p:Str×Addr),p∈gW env l cs->p∈cs\/((p.1,NameKind.free)∈l/\p.2=(env.cells.lookup p.1).getD 0)
 | [],_,_,h=>.inl h
 | (n,k)::r,cs,p,h=>by
  rcases wR r _ p h with q | ⟨q,e⟩
  ·by_cases hk:k=.free
   ·subst hk;rw [A0i (by rfl)] at q;rcases A0d.mp q with z | z
    ·subst z;exact .inr ⟨A0g,rfl⟩
    ·exact .inl z
   ·rw [A0e (by simpa using hk)] at q;exact .inl q
  ·exact .inr ⟨iT _ q,e⟩
theorem wU:∀ (l:List (Str×NameKind)) (cs:List (Str×Addr)) (p:Str×Addr),p∈cs->p∈gW env l cs
 | [],_,_,h=>h
 | (n,k)::r,cs,p,h=>by
  refine wU r _ p ?_
  split
  ·exact iT _ h
  ·exact h
theorem qY {x:Str}:∀ (l:List (Str×NameKind)) (cs:List (Str×Addr)),(x,NameKind.free)∈l->∃ c,(x,c)∈gW env l cs
 | [],_,h=>nomatch h
 | (n,k)::r,cs,h=>by
  rcases A0d.mp h with z | z
  ·cases z;exact ⟨_,wU r _ _ (by rw [A0i (by rfl)];exact A0g)⟩
  ·exact qY r _ z
theorem kZ {α:Type}{x:Str}:∀ {l:List (Str×α)}{c:α},(x,c)∈l->∃ c',l.lookup x=some c'
 | [],_,h=>nomatch h
 | (n,d)::r,c,h=>by
  by_cases e:x=n
  ·subst e;exact ⟨d,by simp [A1a]⟩
  ·have:(x==n)=false:=by simpa using e
   simp only [A1a,this];rcases A0d.mp h with z | z
   ·cases z;exact absurd rfl e
   ·exact kZ z
theorem uG:∀ (l:List (Str×NameKind)) (cs:List (Str×Addr)),(∀ x∈l,x.2=.free->(env.cells.lookup x.1).isSome=true) ->
  (forIn l cs fun (x:Str×NameKind) (r:List (Str×Addr))=>(match x with
   | (name,kind)=>if (kind==NameKind.free)=true then do let a <- cellOf env name;pure (ForInStep.yield ((name,a)::r)) else pure (ForInStep.yield r):Sem (ForInStep (List (Str×Addr)))))=pure (gW env l cs)
 | [],cs,_=>rfl
 | (n,k)::r,cs,h=>by
  rw [A4m];have ih:=fun cs'=>uG r cs' fun x hx=>h x (iT _ hx)
  by_cases hk:k=.free
  ·subst hk;obtain ⟨a,ha⟩:=A2T.mp (h (n,.free) A0g rfl);have hca:cellOf env n=pure a:=by unfold cellOf;rw [ha]
   have hn:gW env ((n,.free)::r) cs=gW env r ((n,a)::cs):=by
    show gW env r (if (NameKind.free==NameKind.free)=true then (n,(env.cells.lookup n).getD 0)::cs else cs)=_
    rw [A0i (by rfl),ha];rfl
   rw [hn];simp only [A3c,A3u,hca,pure_bind];exact ih _
  ·have hb:(k==NameKind.free)=false:=by simpa using hk
   have hn:gW env ((n,k)::r) cs=gW env r cs:=by
    show gW env r (if (k==NameKind.free)=true then (n,(env.cells.lookup n).getD 0)::cs else cs)=_
    rw [A0e (by simp [hb])]
   rw [hn];simp only [hb,A1s,A2O,pure_bind];exact ih _
theorem mU (h:∀ x∈scope.names,x.2=.free->(env.cells.lookup x.1).isSome=true):closureFor scope env=pure (gW env scope.names []):=by
 simp only [closureFor];have:=uG (env:=env) scope.names [] h
 first
  | (rw [this];rfl)
  | (erw [this];rfl)
  | (exact (A1G (· >>= pure) this))
theorem bZ {l:List (Str×NameKind)} (h:∀ x∈l,x.2=.free->(env.cells.lookup x.1).isSome=true) {x:Str} (e:(gW env l []).lookup x=some c):env.cells.lookup x=some c:=by
 rcases wR l [] (x,c) (A1j e) with q | ⟨q,e'⟩
 ·exact nomatch q
 ·obtain ⟨a,ha⟩:=A2T.mp (h _ q rfl);have ha':env.cells.lookup x=some a:=ha;have e2:c=(env.cells.lookup x).getD 0:=e';rw [ha'] at e2;rw [ha',e2];rfl
theorem iC {x:Str}{k':NameKind} (h:(relabel scope env).names.lookup x=some k'):∃ k,scope.names.lookup x=some k/\(k'=k\/(k=.free/\k'=.cell)):=by
 unfold relabel at h;dsimp only at h;generalize scope.names=l at h ⊢
 induction l with
 | nil=>simp at h
 | cons p r ih =>
  obtain ⟨n,k⟩:=p;rw [A0h] at h
  by_cases e:x=n
  ·subst e;refine ⟨k,by simp [A1a],?_⟩
   by_cases hc:(k==NameKind.free&&env.scope.kind==.function&&env.kindOf x==some .cell)=true
   ·simp only [hc,A3u,A1a,A3c] at h;have hk:k=.free:=by
     have:=(Bool.and_eq_true_iff.mp (Bool.and_eq_true_iff.mp hc).1).1
     simpa using this
    exact .inr ⟨hk,(A0T h).symm⟩
   ·simp only [hc,A2O,A1a,A3c,A1s] at h;exact .inl (A0T h).symm
  ·have hb:(x==n)=false:=by simpa using e
   have h':List.lookup x (List.map (fun x=>match x with | (n,k)=>if (k==NameKind.free&&env.scope.kind==ScopeKind.function&&env.kindOf n==some NameKind.cell)=true then (n,NameKind.cell) else (n,k)) r)=some k':=by
    by_cases hc:(k==NameKind.free&&env.scope.kind==.function&&env.kindOf n==some .cell)=true
    ·simpa only [hc,A3u,A1a,hb] using h
    ·simpa only [hc,A2O,A1a,hb,A1s] using h
   obtain ⟨k0,e0,q⟩:=ih h';exact ⟨k0,by simp only [A1a,hb];exact e0,q⟩
theorem pX {x:Str} (h:scope.names.lookup x=some .free):(relabel scope env).names.lookup x=some .cell\/(relabel scope env).names.lookup x=some .free:=by
 unfold relabel;dsimp only;generalize scope.names=l at h ⊢
 induction l with
 | nil=>simp at h
 | cons p r ih =>
  obtain ⟨n,k⟩:=p;rw [A0h]
  by_cases e:x=n
  ·subst e;simp only [A1a,A3c] at h;cases h;generalize List.map _ r=r'
   show List.lookup x ((if (NameKind.free==NameKind.free&&env.scope.kind==.function&&env.kindOf x==some .cell)=true then (x,NameKind.cell) else (x,NameKind.free))::r')=_\/List.lookup x ((if (NameKind.free==NameKind.free&&env.scope.kind==.function&&env.kindOf x==some .cell)=true then (x,NameKind.cell) else (x,NameKind.free))::r')=_
   by_cases hc:(NameKind.free==NameKind.free&&env.scope.kind==.function&&env.kindOf x==some .cell)=true
   ·rw [A0i hc];exact .inl (by simp [A1a])
   ·rw [A0e hc];exact .inr (by simp [A1a])
  ·have hb:(x==n)=false:=by simpa using e
   simp only [A1a,hb] at h
   by_cases hc:(k==NameKind.free&&env.scope.kind==.function&&env.kindOf n==some .cell)=true
   ·simp only [hc,A3u,A1a,hb];exact ih h
   ·simp only [hc,A2O,A1a,hb,A1s];exact ih h
def Bl (X:Cx) (N':List Str) (scope:Scope) (s:Shared) (H:Hp) (fp:List Addr) (C:Addr):Cx where
 prog:=X.prog
 w:=X.w
 K:=X.K
 mg:=X.mg
 base:=X.base
 A:=X.A
 N:=N'
 s₀:=s
 H₀:=H
 env:=compEnvC scope 0x6A C X.env
 outer:=X.stack
 stack:=X.stack
 ex:=fp
 fn:=fun _=>false
 calm:=X.calm
 pn:=[]
 xe:=fun _ _=>False
structure fu (N:List Str) (sc scope:Scope) (ts fr:List Str) (ix:List Nat):Prop where
 kind:scope.kind=.function
 yO:∀ y∈scope.names,y.2≠.cell
 nms:∀ y∈scope.names,y.2=.local->scope.names.lookup y.1=some .local
 frs:∀ y∈scope.names,y.2=.free->sc.names.lookup y.1=some .cell\/sc.names.lookup y.1=some .free
 cap:fr.map some=ix.map fun i=>N[i]?
 capf:∀ x∈fr,scope.names.lookup x=some .free
def jD (σ:St) (k:Nat) (ix:List Nat):St:=List.replicate k none++ix.map fun i=>(σ[i]?).join
def Kp (σ σ':St):Prop:=∀ (j:Nat) (v:V),σ[j]?=some (some v)->σ'[j]?=some (some v)
theorem Kp.refl (σ:St):Kp σ σ:=fun _ _ h=>h
theorem Kp.set {σ1:St}{x:Option V} (h:σ[i]?=some none) (q:Kp σ σ1):Kp σ (σ1.set i x):=fun j v e=>by
 by_cases hj:j=i
 ·subst hj;rw [h] at e;cases e
 ·rw [A4h (A0m hj)];exact q j v e
def PTs (X:Cx) (ifs:List Expr) (t:TT):Prop :=
 ∀ (pins:List 0x16) (s:Shared) (σ:St) (H:Hp) (Q:Bool->Hp->Prop),Inv X pins σ H s->t σ H Q ->
  wpAny 0x9 X.A (forIn ifs true fun c r=>if r=true then do let ok <- isTrue c X.env (eval c X.env);pure (ForInStep.yield ok) else pure (ForInStep.yield r)) (TP X pins σ Q) X.xe s
def Yw:TT:=fun _ H Q=>Q true H
theorem jN {A B:Hp->Prop} (h:A H):Yw σ H (fun b H5=>if b=true then A H5 else B H5):=by
 show if true=true then A H else B H
 rw [A0i rfl];exact h
theorem mj:PTs X [] Yw:=fun _ _ _ H _ I h=>wpAny_tests_nil ⟨H,I,h⟩
theorem kI {c:Expr}{t:TT} (h:PT X c t):PTs X [c] t:=fun pins s σ H Q I q=>wpAny_tests_one (h pins s σ H Q I q)
def pB (J:It) (D:Addr) (σ:St) (k:Nat) (ix:List Nat) (g:TG) (tt:TT) (te:TE) (Q:VK) (H1:Hp):Prop:=∃ W:Nat->Nat->List V->Hp->Prop,(∃ m,W 0 m [] (upd H1 D 0x75)) /\
 ∀ i m ys H2,W i m ys H2->H2 D=some 0x78/\((J.stop i H2/\Q 0x60 H2)\/(J.go i H2/\∃ N:List V->Hp->Prop,(∀ zs H',N zs H'->∃ m',m'<m/\W (i+1) m' zs H')/\∀ x H3,J.J7 i H2 x H3->g x 0x84 H3 fun σ2 H4=>Kp 0x84 σ2 /\
  tt σ2 H4 fun b H5=>if b=true then te σ2 H5 fun y H6=>H6 D=some 0x78/\ys.length<sizeLine/\N (ys++[y]) (upd H6 D (.lst (ys++[y]))) else N ys H5))
def Jm (k:Nat) (ix:List Nat) (wi:TI) (g:TG) (tt:TT) (te:TE):TE:=fun σ H Q=>wi σ H fun J H1=>∀ D,H1 D=none->pB J D σ k ix g tt te Q H1
section
variable {elt:Expr}{ifs:List Expr}{ts fr:List Str}
theorem Ce {k:Nat} (h:0x84[j]?=some (some v)):∃ a i,j=k+a/\ix[a]?=some i/\σ[i]?=some (some v):=by
 unfold jD at h
 by_cases hj:j<k
 ·rw [A1q (by simpa using hj),A3Q,A0i hj] at h;cases h
 ·rw [A0W (by simpa using hj),A1R,jW] at h;cases e:ix[j - k]? with
  | none=>rw [e] at h;cases h
  | some i =>
   rw [e] at h;refine ⟨j - k,i,by lia,e,?_⟩;have h':(σ[i]?).join=some v:=A0T h;cases e2:σ[i]? with
   | none=>rw [e2] at h';cases h'
   | some o=>rw [e2] at h';exact A1G some h'
theorem sE {k:Nat}:(0x84).length=k+ix.length:=by unfold jD;simp
theorem Qe {tk:Nat} (S:fu X.N X.env.scope scope ts fr ix) (I:Inv X pins σ H s) (hf:∀ b∈fp,j8 X pins H b) (hfp:∀ b∈fp,b<s.heap.objs.size)
  (hD:s.heap.objs.size<=D) (hC:s.heap.objs.size<=C) (hDC:D≠C) (hk:∀ b o,s.heap.get? b=some o->h1.get? b=some o) (ho:h1.get? D=some { cls:=.type "list",data:=.seq #[] }) {m0:Str->Option Value} (hn:h1.Ns C m0) :
  Inv 0x1E [] 0x6D (upd H D 0x75) { s with heap:=h1,toks:=tk }:=by
 have hcl:∀ x∈scope.names,x.2=.free->(X.env.cells.lookup x.1).isSome=true:=fun x hx hfx=>by
  obtain ⟨c,hc⟩:=I.ok.has x.1 (S.frs x hx hfx);rw [hc];rfl
 have Qf:∀ b,s.heap.objs.size<=b->∀ x c,X.env.cells.lookup x=some c->c≠b:=fun b hb x c e z=>by
  obtain ⟨v,q⟩:=I.cell x c e;exact absurd (A0q q.lt (by rw [z];exact hb)) (A1r _)
 have Qg:∀ x,scope.names.lookup x=some .free->∃ c,(0x6A).lookup x=some c/\X.env.cells.lookup x=some c:=fun x hx=>by
  obtain ⟨c,hc⟩:=qY (env:=X.env) scope.names [] (A1j hx);obtain ⟨c',hc'⟩:=kZ hc;exact ⟨c',hc',bZ hcl hc'⟩
 have ZJ:∀ b∈fp,b∉frs X.stack:=fun b hb z=>by
  obtain ⟨_,f1,f2,_⟩:=hf b hb;rcases A0d.mp (I.yD b z) with e | e
  ·exact f1 e
  ·exact f2 e
 have hCn:H C=none:=I.hok.fresh hC;have hDn:H D=none:=I.hok.fresh hD;refine ⟨⟨I.ok.mod,?_,I.ok.glob,I.ok.blt,hC,fun x y c h1 h2=>?_,fun x hx=>?_,fun x c hfx=>?_,I.ok.hd,I.ok.frames,.inl rfl,fun b hb=>⟨?_,fun x c e=>?_⟩,I.bs,A0O I.ok.Ow I.sz,fun b o e hb=>?_,ZJ,I.stack,I.yE⟩,
  rfl,I.bare,Un.laid hk hD hDn,⟨m0,hn,fun i x v e1 e2 e3=>?_⟩,fun x c e=>?_,?_,fun x c e=>?_,fun p hp=>?_,I.hok.laid hk hD ⟨?_,[],0,.nil,ho⟩,?_⟩
 ·show (0x8E).kind=_
  exact S.kind
 ·exact I.ok.inj x y c (bZ hcl h1) (bZ hcl h2)
 ·have hx':(0x8E).names.lookup x=some .cell\/(0x8E).names.lookup x=some .free:=hx;have hfree:scope.names.lookup x=some .free:=by
   rcases hx' with q | q
   ·obtain ⟨k,e,z⟩:=iC q;rcases z with z | ⟨z,_⟩
    ·subst z;exact absurd rfl (S.yO _ (A1j e))
    ·rw [e,z]
   ·obtain ⟨k,e,z⟩:=iC q;rcases z with z | ⟨_,z⟩
    ·rw [e,<- z]
    ·cases z
  obtain ⟨c,hc,_⟩:=Qg x hfree;exact ⟨c,hc⟩
 ·exact absurd (show false=true from hfx) 0x5
 ·exact A0I (A0q (hfp b hb) hC)
 ·exact (hf b hb).2.2.2.2.1 x c (bZ hcl e)
 ·have f:=hf b hb;rcases f.2.2.2.1 with z | z
  ·exact I.ok.Fi b o e z
  ·exact absurd (A0q (A0t (I.ok.bs b o e).1) z) (A1r _)
 ·obtain ⟨a,i',hj,hi,hσ⟩:=Ce e2;subst hj;have e1':(ts++fr)[ts.length+a]?=some x:=e1;rw [A0W 0x2,Nat.add_sub_cancel_left] at e1';have hN:X.N[i']?=some x:=by
   have q:=A1G (fun l=>l[a]?) S.cap;simp only [jW,e1',hi] at q;exact (A0T q).symm
  have hfree:=S.capf x (vY e1');have hk':=S.frs (x,.free) (A1j hfree) rfl;obtain ⟨m,hnm,hl⟩:=I.loc;obtain ⟨u,r,lk⟩:=hl i' x v hN hσ (.inr hk');refine ⟨u,r,?_⟩;obtain ⟨c,hc,hc'⟩:=Qg x hfree;rcases lk with ⟨z,_⟩ | ⟨_,c2,e4,z⟩
  ·have z':X.env.scope.names.lookup x=some .local:=z;rcases hk' with y | y
   ·have y':X.env.scope.names.lookup x=some .cell:=y;rw [z'] at y';cases y'
   ·have y':X.env.scope.names.lookup x=some .free:=y;rw [z'] at y';cases y'
  ·have hcc:c2=c:=A0T (e4.symm.trans hc');rw [hcc] at z;obtain ⟨o,ho2,hd2⟩:=z;exact .inr ⟨pX hfree,c,hc,o,hk _ _ ho2,hd2⟩
 ·obtain ⟨v,o,ho2,hd2⟩:=I.cell x c (bZ hcl e);exact ⟨v,o,hk _ _ ho2,hd2⟩
 ·show upd H D 0x75 C=none
  rw [ak (A0m hDC)];exact hCn
 ·show upd H D 0x75 c=none
  rw [ak (Qf D hD x c (bZ hcl e))];exact I.jX x c (bZ hcl e)
 ·exact absurd (show p∈([]:List 0x16) from hp) 0xA
 ·exact A0X _
 ·have e:=A1G List.length S.cap;simp only [bV] at e;rw [sE]
  show _=(ts++fr).length
  rw [iw,e]
theorem wV {Q:VK}{use:Option (Value->Sem Unit)}{Qv:Value->Shared->Prop} (hc:X.calm=true) (S:fu X.N X.env.scope scope ts fr ix) (hi:PI X tg iter wi)
  (hb:∀ s H fp C,PG 0x1E tg g/\PTs 0x1E ifs tt/\PE 0x1E elt te)
  (hs:∀ x,foldedSetIterable iter X.env x=pure x) (I:Inv X pins σ H s) (h:Jm ts.length ix wi g tt te σ H Q)
  (fin:∀ (D C:Addr) (H':Hp) (s':Shared),Inv X pins σ H' s'->j8 X pins H' C->(∃ m,s'.heap.Ns C m)->Q 0x60 H'->compPost 0x9 X.A X.xe use Qv 0x60 C (.ok .next) s') :
  wpAny 0x9 X.A (comprehension 0x3B scope X.env (firstIterPos [⟨tg,iter,ifs,0⟩] pos) (newList []) false (eval iter X.env) use) Qv X.xe s:=by
 have hcl:∀ x∈scope.names,x.2=.free->(X.env.cells.lookup x.1).isSome=true:=fun x hx hfx=>by
  obtain ⟨c,hc⟩:=I.ok.has x.1 (S.frs x hx hfx);rw [hc];rfl
 refine wpAny_comprehension_free (use:=use) rfl hs (mU hcl) S.kind S.nms (cH (hi pins s σ H _ I h) fun v s1 h1=>cH h1 fun itv s2 h2=>?_);obtain ⟨it,fp,tn,J,H2,rfl,I2,T,st2,f2,hW⟩:=h2;refine A1x (wpAny_newFunctionEnv S.yO (by intro y hy;simp at hy) (fun h₁ hns₁ hsb₁=>?_) S.kind);dsimp only at hns₁ hsb₁ ⊢;generalize hH2:s2.heap.push { cls:=.type "list",dict:=none,data:=.seq ([]:List Value).toArray }=G2 at hns₁ hsb₁ ⊢;have ZK:G2.objs.size=s2.heap.objs.size+1:=by rw [<- hH2,A1S]
 have hDC:s2.heap.objs.size≠G2.objs.size:=by rw [ZK];exact A0I (A3a _)
 have hCle:s2.heap.objs.size<=G2.objs.size:=by rw [ZK];exact A2d _
 have old:∀ b o,s2.heap.get? b=some o->h₁.get? b=some o:=fun b o e=>hsb₁.extBut b o (by rw [ZK];exact A0I (A2q (A0t e))) (A0b _ (hH2 ▸ A0b _ e));have hacc:h₁.get? s2.heap.objs.size=some { cls:=.type "list",data:=.seq #[] }:=hsb₁.extBut _ _ hDC (A0b _ (hH2 ▸ A0n _ rfl));have hfp:∀ b∈fp,b<s2.heap.objs.size:=fun b hb'=>by
  obtain ⟨o,e,_⟩:=T.obj _ _ st2 b hb';exact A0t e
 have IC:Inv (Bl X (ts++fr) scope s2 H2 fp G2.objs.size) [] 0x6D (upd H2 s2.heap.objs.size 0x75) { s2 with heap:=h₁,toks:=s2.toks+([]:List 0x73).length } :=
  Qe S I2 f2 hfp 0x2D hCle hDC old hacc hns₁
 have st1:tn 0 h₁:=T.keep _ _ _ st2 fun b hb' o e=>old b o e;obtain ⟨W,⟨m0,w0⟩,turn⟩:=hW s2.heap.objs.size I2.fresh;obtain ⟨bg,bt,be⟩:=hb s2 H2 fp G2.objs.size;generalize hX:Bl X (ts++fr) scope s2 H2 fp G2.objs.size=Y at IC bg bt be;have eP:Y.prog=X.prog:=by rw [<- hX];rfl
 have eW:Y.w=X.w:=by rw [<- hX];rfl
 have eK:Y.K=X.K:=by rw [<- hX];rfl
 have eC:Y.calm=true:=by rw [<- hX];exact hc
 have eA:Y.A=X.A:=by rw [<- hX];rfl
 have eE:Y.env=compEnvC scope 0x6A G2.objs.size X.env:=by rw [<- hX];rfl
 have eX:Y.xe=fun _ _=>False:=by rw [<- hX];rfl
 have stat:∀ {H':Hp},0x7F->∀ b∈fp,j8 Y [] H' b:=fun hn b hb'=>by
  rw [<- hX];have z:=IC.ok;rw [<- hX] at z;refine ⟨hn b hb',(z.exf b hb').1,z.Ls b hb',.inl hb',(z.exf b hb').2,fun p hp=>absurd (show p∈([]:List 0x16) from hp) 0xA⟩
 have fr0:∀ b∈fp,upd H2 s2.heap.objs.size 0x75 b=none:=fun b hb'=>by rw [ak (A0I (hfp b hb'))];exact (f2 b hb').1
 have bot:∀ {α:Type}{t:Sem α}{R:α->Shared->Prop}{E:Value->Shared->Prop}{z:Shared},wpAny (model Y.prog Y.w) Y.A t R Y.xe z->wpAny 0x9 X.A t R E z:=fun {α t R E z} q=>by
  rw [eP,eW,eA,eX] at q;exact A1b q (fun _ _ y=>y) fun _ _ y=>y.elim
 have loop:codeAny 0x9 X.A (.compLoop 0x3B 0 0x49 0x39 (compEnvC scope 0x6A G2.objs.size X.env))
   (compPost 0x9 X.A X.xe use Qv 0x39 G2.objs.size) { s2 with heap:=h₁,toks:=s2.toks+([]:List 0x73).length }:=by
  rw [<- eE];refine codeAny_loop rfl (fun n s'=>∃ i ys H',Inv Y [] 0x6D H' s'/\tn i s'.heap/\0x7F/\W i n ys H') (fun n s3 hI=>?_) m0 ⟨0,[],_,IC,st1,fr0,w0⟩;obtain ⟨i,ys,H3,I3,st3,Yl,w3⟩:=hI
  show wpAny _ _ ((compTurn 0x3B 0 0x49 0x39 Y.env).onRaise (fun x=>do noteFrame x Y.env;theTreesLotGoes x)) _ _ s3
  refine wpAny_noted ?_;rw [compTurn_list];obtain ⟨hD3,hcase⟩:=turn i n ys H3 w3;rcases hcase with ⟨stop,qn⟩ | ⟨go,N,hN,step⟩
  ·have q:=T.done Y eP eW eK eC i [] s3 _ H3 0x63 I3 (stat Yl) st3 stop;rw [eA] at q;refine A0a (A2l (A0a (A1b q (fun r s4 ⟨hr,I4⟩=>?_) fun _ _ y=>y.elim)));subst hr;refine wpAny_pure ?_;have b4:Un (frs X.stack) fp H2 H3 s2.heap s4.heap:=by have z:=I4.base;rw [<- hX] at z;exact z
   have ok4:oE X.prog X.w H3 s4.heap:=by have z:=I4.hok;rw [eP,eW] at z;exact z
   have os4:s4.os=s2.os:=by have z:=I4.os;rw [<- hX] at z;exact z
   have I5:Inv X pins σ H3 s4:=I2.call' os4 b4 ok4 I4.bare fun b hb'=>⟨(f2 b hb').2.2.2.1,(f2 b hb').2.1,(f2 b hb').2.2.2.2.1,(f2 b hb').2.2.2.2.2⟩;have fC:H3 G2.objs.size=none:=by have z:=I4.free;rw [eE] at z;exact z
   have nC:∃ m,s4.heap.Ns G2.objs.size m:=by obtain ⟨m,z,_⟩:=I4.loc;rw [eE] at z;exact ⟨m,z⟩
   exact fin _ _ H3 s4 I5 (I2.ur hCle fC) nC qn
  ·have q:=T.item Y eP eW eK eC i [] s3 _ H3 0x63 I3 (stat Yl) st3 go;rw [eA] at q;refine A0a (A2l (A0a (A1b q (fun r s4 ⟨u,hr,h4⟩=>?_) fun _ _ y=>y.elim)));subst hr;refine A0a (A1b h4 (fun _ s5 ⟨x,H5,I5,r5,y5,Pa,fr5⟩=>?_) fun _ _ y=>y.elim);have I5':=I5.pinned (stat fr5) (T.obj _ _ Pa);refine A0a (bot (cH (bg _ s5 _ H5 x u _ I5' r5 (step x H5 y5)) fun _ s6 zq=>?_));obtain ⟨σ6,H6,I6,kp6,q6⟩:=zq;refine A0a (bot (cH (bt _ s6 σ6 H6 _ I6 q6) fun ok s7 zq=>?_));obtain ⟨H7,I7,q7⟩:=zq;have again:∀ {H8:Hp}{s8:Shared}{zs:List V}{m':Nat},Inv Y ([]++qW fp s5.heap) σ6 H8 s8->m'<n->W (i+1) m' zs H8->∃ m,m<n/\∃ i ys H',Inv Y [] 0x6D H' s8/\tn i s8.heap/\0x7F/\W i m ys H':=fun {H8 s8 zs m'} I8 hm w8=>by
    refine ⟨m',hm,i+1,zs,H8,(I8.lJ).weak ?_ kp6,T.keep _ _ _ Pa fun b hb' o e=>(I8.pin (b,o) (A0y _ (A0y _ (gj hb' e)))).1,fun b hb'=>?_,w8⟩
    ·rw [I8.len,I3.len]
    ·obtain ⟨o,e,d⟩:=T.obj _ _ Pa b hb';exact (I8.pin (b,o) (A0y _ (A0y _ (gj hb' e)))).2.1
   cases ok with
   | false =>
    rw [A0e 0x5] at q7;obtain ⟨m',hm,w8⟩:=hN _ _ q7;exact wpAny_pure ⟨rfl,again I7 hm w8⟩
   | true =>
    rw [A0i rfl] at q7;refine A0a (A0a (bot (cH (be _ s7 σ6 H7 _ I7 q7) fun u8 s8 zq=>?_)));obtain ⟨y8,H8,I8,r8,hD8,hz,n8⟩:=zq;obtain ⟨m',hm,w8⟩:=hN _ _ n8;refine A0a (bot (cH (cQ _ s8 σ6 H8 0x39 [y8] _ [u8] (fun _ H9=>H9=upd H8 s2.heap.objs.size (.lst (ys++[y8]))) I8 rfl (.cons r8 .nil) ⟨_,ys,y8,rfl,rfl,hD8,hz,rfl⟩) fun _ s9 zq=>?_));obtain ⟨_,H9,I9,_,e9⟩:=zq;subst e9;exact wpAny_pure (wpAny_pure ⟨rfl,again I9 hm w8⟩)
 exact codeAny_compStart_list loop (T.self _ 0 _ _ _ st1 loop)
theorem gO (hc:X.calm=true) (S:fu X.N X.env.scope scope ts fr ix) (hi:PI X tg iter wi)
  (hb:∀ s H fp C,PG 0x1E tg g/\PTs 0x1E ifs tt/\PE 0x1E elt te)
  (hs:∀ x,foldedSetIterable iter X.env x=pure x:=by intro _;rfl):PE X 0x3B (Jm ts.length ix wi g tt te):=by
 intro pins s σ H Q I h;rw [eval_ListComp];refine wV (use:=none) (Qv:=EP X pins σ Q) hc S hi hb hs I h fun D C H' s' I' f' n' q'=>?_;obtain ⟨m,hm⟩:=n';refine ⟨m,hm,fun h' sb=>⟨.ref D,H',?_,rfl,q'⟩⟩;exact I'.turned (t':=s'.toks) (fun b o hb' e=>(sb.2 b hb').trans e) f'.1 f'.2.1 f'.2.2.2.1 f'.2.2.2.2.1 f'.2.2.2.2.2
theorem Jp {x:Str}{pos2:Pos} (hc:X.calm=true) (S:fu X.N X.env.scope scope ts fr ix) (hi:PI X tg iter wi)
  (hb:∀ s H fp C,PG 0x1E tg g/\PTs 0x1E ifs tt/\PE 0x1E elt te)
  (hN:X.N.Nodup) (hix:X.N[i]?=some x) (hx:Loc X.env.scope x)
  (hw:swapsWith 0x3B (some (.Name x pos')) pos2.line X.env=pure true:=by rfl)
  (hf:X.fn x=true\/X.env.scope.names.lookup x=some .local:=by first | exact .inl rfl | exact .inr rfl | assumption)
  (hs:∀ x,foldedSetIterable iter X.env x=pure x:=by intro _;rfl) :
  PS X (.Assign [.Name x pos'] 0x3B pos2) (fun D σ H=>Jm ts.length ix wi g tt te σ H fun v H'=>D.nx (σ.set i (some v)) H'):=by
 intro pins s σ H D I h;rw [exec_Assign_Name_used _ _ _ _ hw];refine A0a (A2l (A0a ?_))
 show wpAny _ X.A (do let _ <- comprehension 0x3B scope X.env _ (newList []) false (eval iter X.env) (some (assign (.Name x pos') X.env))) _ _ s
 refine A0a (A1b (wV (use:=some (assign (.Name x pos') X.env)) (Qv:=fun _ s'=>SP X pins D .next s') hc S hi hb hs I h fun D' C H' s' I' f' n' q'=>?_) (fun _ s' hq=>wpAny_pure (wpAny_pure hq)) fun _ _ e=>e);obtain ⟨m,hm⟩:=n';refine wpAny_assign_Name (wD I' hN hix hx (v:=.ref D') rfl (fun s'' I'' ⟨a,sb,ha⟩=>?_) hf);have hCa:C≠a:=by
  rcases ha with rfl | ha
  ·exact f'.2.1
  ·exact fun z=>f'.2.2.2.2.1 _ _ ha z.symm
 refine ⟨m,hm.sameBut sb hCa,fun h' sb'=>⟨_,H',?_,q'⟩⟩;exact I''.turned (t':=s''.toks) (fun b o hb' e=>(sb'.2 b hb').trans e) f'.1 f'.2.1 f'.2.2.2.1 f'.2.2.2.2.1 f'.2.2.2.2.2
end
abbrev Cg (D:Addr) (σ:St) (k:Nat) (ix:List Nat) (g:TG) (tt:TT) (te:TE) (x:V) (ys:List V) (H:Hp) (N:List V->Hp->Prop):Prop :=
 g x 0x84 H fun σ2 H4=>Kp 0x84 σ2/\tt σ2 H4 fun b H5=>if b=true then te σ2 H5 fun y H6=>H6 D=some 0x78/\ys.length<sizeLine/\N (ys++[y]) (upd H6 D (.lst (ys++[y]))) else N ys H5
theorem yP {J:It}{item:Nat->V}{k:Nat}{Q:VK} (Pv:Nat->List V->Hp->Prop)
  (hJ:∀ i ys H,Pv i ys H->(i<n->J.go i H/\∀ x H',J.J7 i H x H'->H'=H/\x=item i)/\(n<=i->J.stop i H)) (h0:Pv 0 [] (upd H1 D 0x75)) (hD:∀ i ys H,Pv i ys H->H D=some 0x78)
  (hs:∀ i ys H,i<n->Pv i ys H->Cg D σ k ix g tt te (item i) ys H (Pv (i+1))) (hd:∀ ys H,Pv n ys H->Q 0x60 H):pB J D σ k ix g tt te Q H1:=by
 refine ⟨fun i m ys H=>m=n - i/\i<=n/\Pv i ys H,⟨n,by simp,A0X _,h0⟩,?_⟩;rintro i m ys H ⟨rfl,hi,p⟩;refine ⟨hD i ys H p,?_⟩;obtain ⟨h1,h2⟩:=hJ i ys H p
 by_cases hlt:i<n
 ·obtain ⟨hg,hy⟩:=h1 hlt;refine .inr ⟨hg,Pv (i+1),fun zs H' p'=>⟨n - (i+1),by lia,rfl,hlt,p'⟩,fun x H' y=>?_⟩;obtain ⟨rfl,rfl⟩:=hy x H' y;exact hs i ys H' hlt p
 ·have e:i=n:=by lia
  subst e;exact .inl ⟨h2 0x2D,hd ys H p⟩
theorem FN {lo:Int}{k:Nat}{Q:VK} (Pv:Nat->List V->Hp->Prop) (h0:Pv 0 [] (upd H1 D 0x75)) (hD:∀ i ys H,Pv i ys H->H D=some 0x78)
  (hs:∀ i ys H,i<n->Pv i ys H->Cg D σ k ix g tt te (.int (lo+i)) ys H (Pv (i+1))) (hd:∀ ys H,Pv n ys H->Q 0x60 H):pB (Zm lo n) D σ k ix g tt te Q H1 :=
 yP (item:=fun i=>.int (lo+i)) Pv (fun i ys H _=>⟨fun h=>⟨h,fun x H' y=>y⟩,fun h=>h⟩) h0 hD hs hd
theorem wW {k:Nat}{Q:VK} (Pv:Nat->List V->Hp->Prop) (hl:∀ i ys H,Pv i ys H->bO K H a xs) (h0:Pv 0 [] (upd H1 D 0x75)) (hD:∀ i ys H,Pv i ys H->H D=some 0x78)
  (hs:∀ i ys H x,xs[i]?=some x->Pv i ys H->Cg D σ k ix g tt te x ys H (Pv (i+1))) (hd:∀ ys H,Pv xs.length ys H->Q 0x60 H):pB (Zk K a) D σ k ix g tt te Q H1 :=
 yP (n:=xs.length) (item:=fun i=>xs.getD i .non) Pv (fun i ys H p=>⟨fun h=>⟨⟨xs,xs[i],hl i ys H p,by simp [h]⟩,fun x H' y=>⟨y.1,by
  have:=y.2 xs (hl i ys H p);rw [qQ,this];rfl⟩⟩,fun h=>⟨xs,hl i ys H p,h⟩⟩) h0 hD (fun i ys H h p=>hs i ys H _ (by rw [qQ,ju h];rfl) p) hd
abbrev mZ (l:List Nat):Str:=⟨l.toArray⟩
theorem nM (x:Str):mZ x.cps.toList=x:=by cases x;simp [mZ]
theorem jE (l:List Nat):(mZ l).length=l.length:=by simp [mZ,Str.length]
theorem pY {x y:Str} (h:x.cps.toList=y.cps.toList):x=y:=by
 rw [<- nM x,<- nM y,h]
def sU {α:Type} (xs:List α) (lo hi:Option Int):List α:=(xs.drop (HT.eN xs.length 0 lo)).take 0x76
theorem uH (lo hi:Option Int) (n:Nat):Builtin.Str.strSliceIndices lo hi 1 n=(List.range (HT.eN n n hi - HT.eN n 0 lo)).map (HT.eN n 0 lo+·):=by
 rw [<- sliceRange_one];unfold Builtin.Str.strSliceIndices;simp only [show (1:Int) > 0 by decide,A3u]
 congr 1
 ·cases lo with
  | none=>simp [HT.eN]
  | some i=>simp only [HT.eN];by_cases h:i<0 <;> simp only [h,A3u,A2O] <;> lia
 ·cases hi with
  | none=>simp [HT.eN]
  | some i=>simp only [HT.eN];by_cases h:i<0 <;> simp only [h,A3u,A2O] <;> lia
theorem FP (x:Str) (lo hi:Option Int):Txt.slice x lo hi=mZ (sU x.cps.toList lo hi):=by
 have e:(Builtin.Str.strSliceIndices lo hi 1 x.length).filterMap (x.cps[·]?)=sU x.cps.toList lo hi:=by
  rw [uH,pick_run];unfold sU;simp only [Str.length,A0L]
 unfold Txt.slice
 split
 ·rename_i h
  have hl:(Builtin.Str.strSliceIndices lo hi 1 x.length).length=x.length:=by simpa using h
  have h1:sU x.cps.toList lo hi=x.cps.toList:=by
   rw [uH,bV,A3W] at hl;have hn:x.length=x.cps.toList.length:=by simp [Str.length]
   rw [hn] at hl;have b1:=HT.PL x.cps.toList.length x.cps.toList.length 0x2D hi;unfold sU
   by_cases h0:HT.eN x.cps.toList.length 0 lo=0
   ·rw [h0,A4L,A3f 0x2]
   ·have:x.cps.toList.length=0:=by lia
    have h2:x.cps.toList=[]:=List.length_eq_zero_iff.mp this;rw [h2];simp
  rw [h1,nM]
 ·rw [e]
inductive rSlS (x:V) (lo hi:Option Int) (H:Hp) (Q:VK):Prop
 | mk (z:Str) (_:x=.str z) (_:z.length<=sizeLine) (_:Q (.str (mZ (sU z.cps.toList lo hi))) H):rSlS x lo hi H Q
theorem Qh:SlR X rSlS:=by
 intro pins s σ H x v vl vu lo hi sl Q I rx hs pl pu h;obtain ⟨z,rfl,hzl,q⟩:=h;obtain ⟨t,rfl⟩:=rx;obtain ⟨l,rfl,el⟩:∃ l:Option (Int×Tok),vl=partValue l/\l.map (·.1)=lo:=by
  cases pl with
  | none=>exact ⟨none,rfl,rfl⟩
  | int i t=>exact ⟨some (i,t),rfl,rfl⟩
 obtain ⟨u,rfl,eu⟩:∃ l:Option (Int×Tok),vu=partValue l/\l.map (·.1)=hi:=by
  cases pu with
  | none=>exact ⟨none,rfl,rfl⟩
  | int i t=>exact ⟨some (i,t),rfl,rfl⟩
 subst el eu;refine ⟨"str",_,F.slot_str_getitem.lookup,typeIs_str s z t,wpAny_getItem_str_slice (l:=l) (u:=u) (st:=none) hs rfl ?_⟩;have e:=FP z (l.map (·.1)) (u.map (·.1));unfold Txt.slice at e;unfold sliceMade;have hp:slicePicked z l u none=Builtin.Str.strSliceIndices (l.map (·.1)) (u.map (·.1)) 1 z.length:=rfl;rw [hp];have h1:(((none:Option (Int×Tok)).map (·.1)).getD 1==1&&(Builtin.Str.strSliceIndices (l.map (·.1)) (u.map (·.1)) 1 z.length).length==z.length)=((1:Int)==1&&(Builtin.Str.strSliceIndices (l.map (·.1)) (u.map (·.1)) 1 z.length).length==z.length):=rfl;rw [h1]
 by_cases hc:((1:Int)==1&&(Builtin.Str.strSliceIndices (l.map (·.1)) (u.map (·.1)) 1 z.length).length==z.length)=true
 ·rw [A0i hc] at e ⊢;exact ⟨.str z,H,I,⟨t,rfl⟩,by rw [<- e] at q;exact q⟩
 ·rw [A0e hc] at e ⊢;rw [<- e] at q;refine ⟨?_,⟨.str _,H,I.tok _,⟨_,rfl⟩,q⟩⟩;have hle:=Txt.slice_le z (l.map (·.1)) (u.map (·.1));unfold Txt.slice at hle;rw [A0e hc] at hle;exact A0O hle hzl
theorem wX:∀ {ts:List Str}{us:List Value},Vals (ts.map V.str) us->∃ l:List (Str×Tok),us=strValues l/\l.map (·.1)=ts
 | [],_,r=>by
  rw [A3V] at r;cases r;exact ⟨[],rfl,rfl⟩
 | t::ts,_,r=>by
  rw [A0h] at r;cases r with
  | cons r1 r2 =>
   obtain ⟨k,rfl⟩:=r1;obtain ⟨l,rfl,e⟩:=wX r2;exact ⟨(t,k)::l,rfl,by rw [A0h,e]⟩
inductive rJoin (K:W.Frag) (x:V) (vs:List V) (H:Hp) (Q:VK):Prop
 | mk (sep:Str) (l:Addr) (ts:List Str) (_:x=.str sep) (_:vs=[.ref l]) (_:bO K H l (ts.map V.str)) (_:JoinOk sep ts=true) (_:Q (.str (Txt.join sep ts)) H):rJoin K x vs H Q
theorem W4:MtR X "str.join" (rJoin X.K):=by
 intro pins s σ H x vs v us Q I rx rv h;obtain ⟨sep,l,ts,rfl,rfl,hq,ok,q⟩:=h;obtain ⟨t,rfl⟩:=rx;obtain ⟨u,rfl,ru⟩:=rv.one;cases ru;obtain ⟨its,r,p,hz⟩:=I.list hq;obtain ⟨l',rfl,el⟩:=wX r;exact SC.join p.isList el ok fun t' k=>⟨.str _,H,I.tok _,⟨_,rfl⟩,q⟩
theorem FQ (hc:X.calm=true) (hin:X.A.in1.handled=none):iy X (.builtin "all") (fun xs H Q=>∃ (p:Addr) (bs:List Bool),xs=[.ref p]/\bO X.K H p (bs.map V.bl)/\Q (.bl (bs.all id)) H):=by
 intro pins s σ H xs us Q I r h;obtain ⟨p,bs,rfl,hq,q⟩:=h;obtain ⟨u,rfl,ru⟩:=vals1 r;cases ru;obtain ⟨its,rv,pl,hz⟩:=I.list hq;have hlen:=rv.length;rw [bV] at hlen;have hne:p≠s.heap.objs.size:=by
  obtain ⟨o,n,e,_⟩:=pl;exact A0I (A0t e)
 refine call_all_walk (A3o pl.isList ?_);refine ⟨s.heap.objs.size,_,_,its.toArray.size,_,_,fun i=>bs.getD i true,rfl,Walks.list hin s.heap.objs.size p hne its.toArray,⟨⟨_,A0n _ rfl,rfl,rfl⟩,?_⟩,?_,?_⟩
 ·obtain ⟨o,n,e,c,d,dd⟩:=pl;exact ⟨o,A0b _ e,c,n,dd⟩
 ·intro i v s' Q' E' hv hQ';have hv':its[i]?=some v:=by simpa using hv
  have hi:i<its.length:=(A0l.mp hv').1;have hb:(bs.map V.bl)[i]?=some (V.bl (bs.getD i true)):=by
   rw [jW,ju 0x2,qQ,ju 0x2];rfl
  obtain ⟨u,hu,ru⟩:=rv.get hb;rw [hv'] at hu;cases hu;cases ru;exact A2p hQ'
 ·intro h' tk kk;have e:(List.range its.toArray.size).all (fun i=>bs.getD i true)=bs.all id:=by
   rw [A0s,<- hlen,A1n,A1I,A1I]
   constructor
   ·intro z b hb;obtain ⟨i,hi,rfl⟩:=A1X.mp hb;have:=z i (A4H.mpr hi);rw [qQ,ju hi] at this;exact this
   ·intro z i hi;have hi':=A4H.mp hi;rw [qQ,ju hi'];exact z _ (A0P hi')
  rw [e];have I1:Inv X pins σ H { s with heap:=s.heap.push { cls:=.type "list_iterator",data:=.fields #[.ref p,.int 0 0] } }:=I.kept (t':=s.toks) fun b o e=>A0b _ e;obtain ⟨f0,f1,f2,f3,f4,f5⟩:=I.ur 0x2D 0x3D;exact ⟨.bl (bs.all id),H,I1.turned (fun b o hb e=>kk b o (by simpa using hb) e) f0 f1 f3 f4 f5,rfl,q⟩
theorem Ci:iy X (.builtin "isinstance") (fun xs H Q=>∃ x T t b,xs=[x,.ty T]/\pO X.K H x t/\PySem.W.kitOne X.K t (.type T)=some b/\Q (.bl b) H):=by
 intro pins s σ H xs us Q I r h;obtain ⟨x,T,t,b,rfl,ty,e,q⟩:=h;obtain ⟨u,u',rfl,ru,ru'⟩:=vals2 r;cases ru';exact Ma I ru ty e fun tk=>⟨.bl b,H,I.tok _,rfl,q⟩
theorem Cj (h:X.K=K:=by rfl):IxR X (ZC K):=h ▸ bD
inductive Yx (K:W.Frag) (xs:List V) (H:Hp) (Q:VK):Prop
 | mk (p:Addr) (ys:List V) (_:xs=[.ref p]) (_:(bO K H p ys\/cj K H p ys)) (_:Q (.int ys.length) H):Yx K xs H Q
theorem oF (h:X.K=K:=by rfl):iy X (.builtin "len") (Yx K):=h ▸ fun pins s σ H xs us Q I r ⟨p,ys,a,b,c⟩=>cT pins s σ H xs us Q I r ⟨p,ys,a,b,c⟩
inductive rIsi (K:W.Frag) (xs:List V) (H:Hp) (Q:VK):Prop
 | mk (x:V) (T:String) (t:Value) (b:Bool) (_:xs=[x,.ty T]) (_:pO K H x t) (_:PySem.W.kitOne K t (.type T)=some b) (_:Q (.bl b) H):rIsi K xs H Q
theorem cU (h:X.K=K:=by rfl):iy X (.builtin "isinstance") (rIsi K):=h ▸ fun pins s σ H xs us Q I r ⟨p,ys,t,d,a,b,c,e⟩=>Ci pins s σ H xs us Q I r ⟨p,ys,t,d,a,b,c,e⟩
inductive rAll (K:W.Frag) (xs:List V) (H:Hp) (Q:VK):Prop
 | mk (p:Addr) (bs:List Bool) (_:xs=[.ref p]) (_:bO K H p (bs.map V.bl)) (_:Q (.bl (bs.all id)) H):rAll K xs H Q
theorem lN (hc:X.calm=true) (hin:X.A.in1.handled=none) (h:X.K=K:=by rfl):iy X (.builtin "all") (rAll K):=h ▸ fun pins s σ H xs us Q I r ⟨p,ys,a,b,c⟩=>FQ hc hin pins s σ H xs us Q I r ⟨p,ys,a,b,c⟩
theorem cI:bootBuiltins "isinstance"=some (.builtin "isinstance"):=by decide +kernel
theorem uI:bootBuiltins "all"=some (.builtin "all"):=by decide +kernel
theorem Qi:bootBuiltins "max"=some (.builtin "max"):=by decide +kernel
theorem fV:bootBuiltins "sorted"=some (.builtin "sorted"):=by decide +kernel
theorem yQ:bootBuiltins "bool"=some (.type "bool"):=by decide +kernel
theorem ZL:bootBuiltins "int"=some (.type "int"):=by decide +kernel
theorem Qj:bootBuiltins "str"=some (.type "str"):=by decide +kernel
theorem oG:bootBuiltins "list"=some (.type "list"):=by decide +kernel
theorem Ck:bootBuiltins "tuple"=some (.type "tuple"):=by decide +kernel
theorem Qk:bootBuiltins "zip"=some (.type "zip"):=by decide +kernel
theorem ZM {its:Array Value}{x:Value} (hit:s.heap.IsTupleIter it t i) (ht:s.heap.IsTuple t its) (hx:its[i]?=some x)
  (hQ:∀ h',h'.IsTupleIter it t (i+1)->Heap.SameBut it s.heap h'->Q x { s with heap:=h' }):wpAny 0xC A 0x85 Q E s:=by
 obtain ⟨o,ho,hc,hd⟩:=id hit;obtain ⟨ot,hot,_,nt,hdt⟩:=ht;unfold Builtin.SmallTypes.nextOf;refine A0a (A1c (name:=Str.ofString "__next__") hit.typeIs A2z (A0Z A2z hit.typeIs A4w ?_ (A4n _)))
 show wpAny _ _ (field 0x49 0 >>= _) _ _ s;refine A0a (A1Q ho hd (x:=.ref t) rfl ?_)
 show wpAny _ _ (if (Value.ref t==Value.none)=true then _ else _) _ _ s;rw [A0e (show ¬ ((Value.ref t==Value.none)=true) from fun z=>A0o z)]
 show wpAny _ _ (field 0x49 1 >>= _) _ _ s;refine A0a (A1Q ho hd (x:=.int i 0) rfl ?_)
 show wpAny _ _ (seqItems? 0x70 >>= _) _ _ s;refine A0a (A2G hot hdt ?_);simp only [A1Z,hx]
 refine A0a (A2H ho hd 0xA (wpAny_pure ⟨x,rfl,wpAny_pure (hQ _ ⟨_,A2g _ ho (Obj.isFreed_of_fields (Obj.data_mapFields hd _)),(Obj.cls_mapFields ..).trans hc,by rw [Obj.data_mapFields hd];simp [rawInt]⟩ (A2c ..))⟩))
theorem FT {its:Array Value} (hh:A.handled=none) (hit:s.heap.IsTupleIter it t i) (ht:s.heap.IsTuple t its) (hx:its[i]?=none)
  (hE:∀ h' e,Heap.ExtBut it s.heap h'->(∃ o,h'.get? e=some o/\o.cls=.type "StopIteration")->E (.ref e) { s with heap:=h' }):wpAny 0xC A 0x85 Q E s:=by
 obtain ⟨o,ho,hc,hd⟩:=id hit;obtain ⟨ot,hot,_,nt,hdt⟩:=ht;unfold Builtin.SmallTypes.nextOf;refine A0a (A1c (name:=Str.ofString "__next__") hit.typeIs A2z (A0Z A2z hit.typeIs A4w ?_ (A4n _)))
 show wpAny _ _ (field 0x49 0 >>= _) _ _ s;refine A0a (A1Q ho hd (x:=.ref t) rfl ?_)
 show wpAny _ _ (if (Value.ref t==Value.none)=true then _ else _) _ _ s;rw [A0e (show ¬ ((Value.ref t==Value.none)=true) from fun z=>A0o z)]
 show wpAny _ _ (field 0x49 1 >>= _) _ _ s;refine A0a (A1Q ho hd (x:=.int i 0) rfl ?_)
 show wpAny _ _ (seqItems? 0x70 >>= _) _ _ s;refine A0a (A2G hot hdt ?_);simp only [A1Z,hx]
 refine A0a (A3q (A0a (A2H ho hd 0xA ?_)));show wpAny _ _ (newExc (.type "StopIteration") [] >>= _) _ _ _
 refine A0a ?_;simp only [newExc,newTuple];refine A0a (A1x ?_ (by size_fits));refine A0a (m:=firstArgMember _ _) (wpAny_of_eq (a:=Value.none) (by first | rfl | (simp only [firstArgMember];rfl)) ?_);refine A1x ?_ (by size_fits)
 simp only [raiseNew];refine A0a (wpAny_handled ?_);first | rw [show A.in1.handled=none from hh] | rw [hh]
 refine A0a (wpAny_pure (wpAny_throw (hE _ _ (((A2c ..).extBut.push _).push _) ⟨_,A0n _ rfl,rfl⟩)))
structure wY (P:Program) (w:World) (K:PySem.W.Frag) (it:Addr) (go stop:Nat->Hp->Prop) (J7:Nat->Hp->V->Prop) (tn:Nat->Heap->Prop):Prop where
 obj:∀ i h,tn i h->∃ o,h.get? it=some o/\∀ v,o.data≠.cell v
 keep:∀ i h h',tn i h->(∀ o,h.get? it=some o->h'.get? it=some o)->tn i h'
 item:∀ (X:Cx) (pins:List 0x16) (σ:St) (H:Hp) (s₀:Shared) (i:Nat) (fp:List Addr),X.prog=P->X.w=w->X.K=K->Inv X pins σ H s₀->(∀ b∈fp,j8 X pins H b)->go i H ->
  ∃ U:Heap->Prop,U s₀.heap/\(∀ h h',U h->(∀ b o,b∉fp->h.get? b=some o->h'.get? b=some o)->U h')/\∃ x,J7 i H x /\
   ∀ (A:Around) (s:Shared) (Q:Value->Shared->Prop) (E:Value->Shared->Prop),U s.heap->tn i s.heap->(∀ u h' tk,RelV x u->tn (i+1) h'->Heap.SameBut it s.heap h'->Q u { s with heap:=h',toks:=tk }) ->
    wpAny (model P w) A 0x85 Q E s
 done:∀ (X:Cx) (pins:List 0x16) (σ:St) (H:Hp) (s₀:Shared) (i:Nat) (fp:List Addr),X.prog=P->X.w=w->X.K=K->Inv X pins σ H s₀->(∀ b∈fp,j8 X pins H b)->stop i H ->
  ∃ U:Heap->Prop,U s₀.heap/\(∀ h h',U h->(∀ b o,b∉fp->h.get? b=some o->h'.get? b=some o)->U h') /\
   ∀ (A:Around) (s:Shared) (Q:Value->Shared->Prop) (E:Value->Shared->Prop),A.handled=none->U s.heap->tn i s.heap->(∀ h' e,Heap.ExtBut it s.heap h'->(∃ o,h'.get? e=some o/\o.cls=.type "StopIteration")->E (.ref e) { s with heap:=h' }) ->
    wpAny (model P w) A 0x85 Q E s
theorem uJ (I:Inv X pins σ H s) (hf:∀ b∈fp,j8 X pins H b) {o:Obj} (e:X.base.get? a=some o):a∉fp:=fun hb=>by
 rcases (hf a hb).2.2.2.1 with z | z
 ·exact I.ok.Fi a o e z
 ·exact absurd (A0q (A0t (I.ok.bs a o e).1) z) (A1r _)
theorem wZ (I:Inv X pins σ H s) (hf:∀ b∈fp,j8 X pins H b) (h:cj X.K H a xs):a∉fp:=by
 rcases h with (h | ⟨o,h⟩) | ⟨o,its,n,hk,_⟩
 ·exact fun hb=>by rw [(hf a hb).1] at h;cases h
 ·exact fun hb=>by rw [(hf a hb).1] at h;cases h
 ·exact uJ I hf (I.ok.mod.kin a o hk)
theorem xg (I:Inv X pins σ H s) (hf:∀ b∈fp,j8 X pins H b) (h:bO X.K H a xs):a∉fp:=by
 rcases h with (h | ⟨o,h⟩) | ⟨o,its,n,hk,_⟩
 ·exact fun hb=>by rw [(hf a hb).1] at h;cases h
 ·exact fun hb=>by rw [(hf a hb).1] at h;cases h
 ·exact uJ I hf (I.ok.mod.kin a o hk)
theorem Jq (a it:Addr):wY P w K it (fun i H=>∃ xs x,cj K H a xs/\xs[i]?=some x) (fun i H=>∃ xs,cj K H a xs/\xs.length<=i) (fun i H x=>∀ xs,cj K H a xs->xs[i]?=some x) (fun i h=>h.IsTupleIter it a i) where
 obj:=fun i h ⟨o,e,c,d⟩=>⟨o,e,fun v z=>by rw [d] at z;cases z⟩
 keep:=fun i h h' ⟨o,e,r⟩ k=>⟨o,k o e,r⟩
 item:=fun X pins σ H s₀ i fp hP hw hK I hf ⟨xs,x,hq,hx⟩=>by
  subst hP hw hK;obtain ⟨its,rv,p,_⟩:=I.tuple hq;have na:=wZ I hf hq;obtain ⟨u,hu,ru⟩:=rv.get hx;refine ⟨fun h=>h.IsTuple a its.toArray,p,fun h h' ⟨o,e,r⟩ k=>⟨o,k a o na e,r⟩,x,fun ys hy=>by rw [I.Lw hy hq];exact hx,fun A s Q E hU st hQ=>?_⟩;exact ZM st hU (x:=u) (by simpa using hu) fun h' st' sb=>hQ u h' s.toks ru st' sb
 done:=fun X pins σ H s₀ i fp hP hw hK I hf ⟨xs,hq,hx⟩=>by
  subst hP hw hK;obtain ⟨its,rv,p,_⟩:=I.tuple hq;have na:=wZ I hf hq;have hl:=rv.length;exact ⟨fun h=>h.IsTuple a its.toArray,p,fun h h' ⟨o,e,r⟩ k=>⟨o,k a o na e,r⟩,fun A s Q E hh hU st hE=>FT hh st hU (by simp;lia) hE⟩
theorem Jr (a it:Addr):wY P w K it (fun i H=>∃ xs x,bO K H a xs/\xs[i]?=some x) (fun i H=>∃ xs,bO K H a xs/\xs.length<=i) (fun i H x=>∀ xs,bO K H a xs->xs[i]?=some x) (fun i h=>h.IsListIter it a i) where
 obj:=fun i h ⟨o,e,c,d⟩=>⟨o,e,fun v z=>by rw [d] at z;cases z⟩
 keep:=fun i h h' ⟨o,e,r⟩ k=>⟨o,k o e,r⟩
 item:=fun X pins σ H s₀ i fp hP hw hK I hf ⟨xs,x,hq,hx⟩=>by
  subst hP hw hK;obtain ⟨its,rv,p,_⟩:=I.list hq;have na:=xg I hf hq;obtain ⟨u,hu,ru⟩:=rv.get hx;refine ⟨fun h=>h.IsList a its.toArray,p.isList,fun h h' ⟨o,e,r⟩ k=>⟨o,k a o na e,r⟩,x,fun ys hy=>by rw [I.Bv hy hq];exact hx,fun A s Q E hU st hQ=>?_⟩;exact wpAny_nextOf_list_item st hU (x:=u) (by simpa using hu) fun h' st' sb=>hQ u h' s.toks ru st' sb
 done:=fun X pins σ H s₀ i fp hP hw hK I hf ⟨xs,hq,hx⟩=>by
  subst hP hw hK;obtain ⟨its,rv,p,_⟩:=I.list hq;have na:=xg I hf hq;have hl:=rv.length;exact ⟨fun h=>h.IsList a its.toArray,p.isList,fun h h' ⟨o,e,r⟩ k=>⟨o,k a o na e,r⟩,fun A s Q E hh hU st hE=>wpAny_nextOf_list_end hh st hU (by simp;lia) hE⟩
structure ZA (z TI TO i1 i2:Addr):Prop where
 p1:TI≠z
 p2:TO≠z
 p3:i1≠z
 p4:i2≠z
 p5:TI≠TO
 p6:TI≠i1
 p7:TI≠i2
 p8:TO≠i1
 p9:TO≠i2
 p0:i1≠i2
theorem W5 {z TI TO:Addr}{x:V}{a b:Value}{U1 U2 T1 T2 W6 T2':Heap->Prop} (D:ZA z TI TO i1 i2)
  (hz:IsZip s.heap z TI TO .none) (hTI:IsPair s.heap TI (.ref i1) (.ref i2)) (hTO:IsPair s.heap TO a b) (u1:U1 s.heap) (u2:U2 s.heap) (t1:T1 s.heap) (t2:T2 s.heap)
  (k1:∀ h h',U1 h->(∀ b o,b∉[z,TI,TO,i1,i2]->h.get? b=some o->h'.get? b=some o)->U1 h') (k2:∀ h h',U2 h->(∀ b o,b∉[z,TI,TO,i1,i2]->h.get? b=some o->h'.get? b=some o)->U2 h')
  (q1:∀ h h',T1 h->(∀ o,h.get? i1=some o->h'.get? i1=some o)->T1 h') (q2:∀ h h',T2 h->(∀ o,h.get? i2=some o->h'.get? i2=some o)->T2 h')
  (q1':∀ h h',W6 h->(∀ o,h.get? i1=some o->h'.get? i1=some o)->W6 h') (q2':∀ h h',T2' h->(∀ o,h.get? i2=some o->h'.get? i2=some o)->T2' h')
  (d1:∀ (A:Around) (s:Shared) (Q:Value->Shared->Prop) (E:Value->Shared->Prop),U1 s.heap->T1 s.heap->(∀ u h' tk,RelV x u->W6 h'->Heap.SameBut i1 s.heap h'->Q u { s with heap:=h',toks:=tk })->wpAny 0xC A (Builtin.SmallTypes.nextOf (.ref i1)) Q E s)
  (d2:∀ (A:Around) (s:Shared) (Q:Value->Shared->Prop) (E:Value->Shared->Prop),U2 s.heap->T2 s.heap->(∀ u h' tk,RelV y u->T2' h'->Heap.SameBut i2 s.heap h'->Q u { s with heap:=h',toks:=tk })->wpAny 0xC A (Builtin.SmallTypes.nextOf (.ref i2)) Q E s)
  (hQ:∀ u v h' tk,RelV x u->RelV y v->IsZip h' z TI TO (rawInt s.heap.objs.size)->IsPair h' TI (.ref i1) (.ref i2)->IsPair h' TO u v->W6 h'->T2' h'->IsPair h' s.heap.objs.size u v ->
   (∀ c o,c≠z->c≠TO->c≠i1->c≠i2->s.heap.get? c=some o->h'.get? c=some o)->Q 0x14 { s with heap:=h',toks:=tk }) :
  wpAny 0xC A (Builtin.«zip.__next__» ⟨[.ref z],[]⟩) (fun fin s'=>∃ v,fin=.done (.ret v)/\Q v s') E s:=by
 have mz:∀ {c:Addr},c∉[z,TI,TO,i1,i2]->c≠z/\c≠TO/\c≠i1/\c≠i2:=fun {c} h=>by simp at h;exact ⟨h.1,h.2.2.1,h.2.2.2.1,h.2.2.2.2⟩
 show wpAny _ _ (field (.ref z) 2 >>= _) _ _ _;refine A0a (A1Q hz rfl (x:=.bool false) rfl ?_)
 show wpAny _ _ (field (.ref z) 3 >>= _) _ _ _;refine A0a (A1Q hz rfl (x:=.ref TI) rfl (A0a (A2G hTI rfl ?_)))
 show wpAny _ _ (Builtin.SmallTypes.ownedTupleIsFree (.ref z) >>= _) _ _ _;refine A0a ?_;unfold Builtin.SmallTypes.ownedTupleIsFree
 refine A0a (A1Q hz rfl (x:=.none) rfl 0x13);simp only [A3u];refine A0a (A3q (A0a (A1Q hz rfl (x:=.ref TO) rfl (A0a (A2I hz 0xA fun g1 hz1 hs1=>?_)))))
 replace hz1:IsZip g1 z TI TO .ellipsis:=hz1
 refine A0a ?_;simp only [List.zipIdx_cons,List.zipIdx_nil,A4m,List.forIn_nil];refine A0a (A0a (A5b ?_));show wpAny _ _ (Builtin.SmallTypes.nextOf (.ref i1) >>= _) _ _ _
 refine A0a (d1 _ _ _ _ (k1 _ _ u1 fun c o hc e=>hs1.extBut _ _ (mz hc).1 e) (q1 _ _ t1 fun o e=>hs1.extBut _ _ D.p3 e) fun u g2 tk2 ru t1b hs2=>wpAny_pure ?_);have Ql:IsPair g2 TO a b:=hs2.extBut _ _ D.p8 (hs1.extBut _ _ D.p2 hTO);refine A0a (A2G Ql rfl (A0a (A4i Ql fun g3 W7 hs3=>?_)))
 replace W7:IsPair g3 TO u b:=W7
 refine A0a (A5q (wpAny_pure (A0a (A0a (A5b ?_)))));show wpAny _ _ (Builtin.SmallTypes.nextOf (.ref i2) >>= _) _ _ _
 refine A0a (d2 _ _ _ _ (k2 _ _ u2 fun c o hc e=>hs3.extBut _ _ (mz hc).2.1 (hs2.extBut _ _ (mz hc).2.2.1 (hs1.extBut _ _ (mz hc).1 e))) (q2 _ _ t2 fun o e=>hs3.extBut _ _ D.p9.symm (hs2.extBut _ _ D.p0.symm (hs1.extBut _ _ D.p4 e))) fun v g4 tk4 rv t2b Yy=>wpAny_pure ?_);have hTO4:IsPair g4 TO u b:=Yy.extBut _ _ D.p9 W7;refine A0a (A2G hTO4 rfl (A0a (A4i hTO4 fun g5 W8 Vp=>?_)))
 replace W8:IsPair g5 TO u v:=W8
 refine A0a (A5q (wpAny_pure (wpAny_pure (A0a (A2G W8 rfl (A0a (A4M ?_)))))));have sz:g5.objs.size=s.heap.objs.size:=by rw [Vp.1,Yy.1,hs3.1,hs2.1,hs1.1]
 have all5:∀ c o,c≠z->c≠TO->c≠i1->c≠i2->s.heap.get? c=some o->g5.get? c=some o:=fun c o c1 c2 c3 c4 e=>Vp.extBut _ _ c2 (Yy.extBut _ _ c4 (hs3.extBut _ _ c2 (hs2.extBut _ _ c3 (hs1.extBut _ _ c1 e))));have hz5:IsZip g5 z TI TO .ellipsis:=Vp.extBut _ _ D.p2.symm (Yy.extBut _ _ D.p4.symm (hs3.extBut _ _ D.p2.symm (hs2.extBut _ _ D.p3.symm hz1)));have t15:W6 g5:=q1' _ _ t1b fun o e=>Vp.extBut _ _ D.p8.symm (Yy.extBut _ _ D.p0 (hs3.extBut _ _ D.p8.symm e));have t25:T2' g5:=q2' _ _ t2b fun o e=>Vp.extBut _ _ D.p9.symm e;have zlt:z<g5.objs.size:=A0t hz5
 show wpAny _ _ (Builtin.SmallTypes.ownedTupleHandOut (.ref z) (.ref g5.objs.size) >>= _) _ _ _;refine A0a ?_;unfold Builtin.SmallTypes.ownedTupleHandOut
 have hz6:IsZip (g5.push { cls:=.type "tuple",data:=.seq #[u,v] }) z TI TO .ellipsis:=A0b _ hz5;refine A0a (A2I hz6 0xA fun g7 hz7 hs7=>?_)
 replace hz7:IsZip g7 z TI TO (rawInt g5.objs.size):=hz7
 refine A2I hz7 0xA fun g8 hz8 hs8=>?_
 replace hz8:IsZip g8 z TI TO (rawInt g5.objs.size):=hz8
 have up8:∀ c o,c≠z->g5.get? c=some o->g8.get? c=some o:=fun c o c1 e=>hs8.extBut _ _ c1 (hs7.extBut _ _ c1 (A0b _ e));have hT8:IsPair g8 g5.objs.size u v:=hs8.extBut _ _ (A3e zlt) (hs7.extBut _ _ (A3e zlt) (A0n _ rfl));rw [sz] at hz8 hT8;refine wpAny_pure ⟨_,rfl,?_⟩
 show Q (.ref g5.objs.size) _;rw [sz]
 exact hQ u v g8 _ ru rv hz8 (up8 _ _ D.p1 (all5 _ _ D.p1 D.p5 D.p6 D.p7 hTI)) (up8 _ _ D.p2 W8) (q1' _ _ t15 fun o e=>up8 _ o D.p3 e) (q2' _ _ t25 fun o e=>up8 _ o D.p4 e) hT8 fun c o c1 c2 c3 c4 e=>up8 c o c1 (all5 c o c1 c2 c3 c4 e)
theorem Cm {z TI TO:Addr}{x:V}{a b:Value}{U1 U2 T1 T2 W6:Heap->Prop}{Q:Fin->Shared->Prop} (hh:A.handled=none) (D:ZA z TI TO i1 i2)
  (hz:IsZip s.heap z TI TO .none) (hTI:IsPair s.heap TI (.ref i1) (.ref i2)) (hTO:IsPair s.heap TO a b) (u1:U1 s.heap) (t1:T1 s.heap)
  (k1:∀ h h',U1 h->(∀ b o,b∉[z,TI,TO,i1,i2]->h.get? b=some o->h'.get? b=some o)->U1 h')
  (q1:∀ h h',T1 h->(∀ o,h.get? i1=some o->h'.get? i1=some o)->T1 h')
  (hd:(∀ (A:Around) (s:Shared) (Q:Value->Shared->Prop) (E:Value->Shared->Prop),A.handled=none->U1 s.heap->T1 s.heap->(∀ h' e,Heap.ExtBut i1 s.heap h'->(∃ o,h'.get? e=some o/\o.cls=.type "StopIteration")->E (.ref e) { s with heap:=h' })->wpAny 0xC A (Builtin.SmallTypes.nextOf (.ref i1)) Q E s) \/
   ((∀ (A:Around) (s:Shared) (Q:Value->Shared->Prop) (E:Value->Shared->Prop),U1 s.heap->T1 s.heap->(∀ u h' tk,RelV x u->W6 h'->Heap.SameBut i1 s.heap h'->Q u { s with heap:=h',toks:=tk })->wpAny 0xC A (Builtin.SmallTypes.nextOf (.ref i1)) Q E s) /\
    U2 s.heap/\T2 s.heap/\(∀ h h',U2 h->(∀ b o,b∉[z,TI,TO,i1,i2]->h.get? b=some o->h'.get? b=some o)->U2 h')/\(∀ h h',T2 h->(∀ o,h.get? i2=some o->h'.get? i2=some o)->T2 h') /\
    ∀ (A:Around) (s:Shared) (Q:Value->Shared->Prop) (E:Value->Shared->Prop),A.handled=none->U2 s.heap->T2 s.heap->(∀ h' e,Heap.ExtBut i2 s.heap h'->(∃ o,h'.get? e=some o/\o.cls=.type "StopIteration")->E (.ref e) { s with heap:=h' })->wpAny 0xC A (Builtin.SmallTypes.nextOf (.ref i2)) Q E s))
  (hE:∀ h' tk e,(∀ c o,c≠z->c≠TO->c≠i1->c≠i2->s.heap.get? c=some o->h'.get? c=some o)->(∃ o,h'.get? e=some o/\o.cls=.type "StopIteration")->E (.ref e) { s with heap:=h',toks:=tk }) :
  wpAny 0xC A (Builtin.«zip.__next__» ⟨[.ref z],[]⟩) Q E s:=by
 have mz:∀ {c:Addr},c∉[z,TI,TO,i1,i2]->c≠z/\c≠TO/\c≠i1/\c≠i2:=fun {c} h=>by simp at h;exact ⟨h.1,h.2.2.1,h.2.2.2.1,h.2.2.2.2⟩
 show wpAny _ _ (field (.ref z) 2 >>= _) _ _ _;refine A0a (A1Q hz rfl (x:=.bool false) rfl ?_)
 show wpAny _ _ (field (.ref z) 3 >>= _) _ _ _;refine A0a (A1Q hz rfl (x:=.ref TI) rfl (A0a (A2G hTI rfl ?_)))
 show wpAny _ _ (Builtin.SmallTypes.ownedTupleIsFree (.ref z) >>= _) _ _ _;refine A0a ?_;unfold Builtin.SmallTypes.ownedTupleIsFree
 refine A0a (A1Q hz rfl (x:=.none) rfl 0x13);simp only [A3u];refine A0a (A3q (A0a (A1Q hz rfl (x:=.ref TO) rfl (A0a (A2I hz 0xA fun g1 hz1 hs1=>?_)))))
 replace hz1:IsZip g1 z TI TO .ellipsis:=hz1
 refine A0a ?_;simp only [List.zipIdx_cons,List.zipIdx_nil,A4m,List.forIn_nil];refine A0a (A0a (A5b ?_));show wpAny _ _ (Builtin.SmallTypes.nextOf (.ref i1) >>= _) _ _ _
 rcases hd with e1 | ⟨d1,u2,t2,k2,q2,e2⟩
 ·refine A0a (e1 _ _ _ _ hh (k1 _ _ u1 fun c o hc e=>hs1.extBut _ _ (mz hc).1 e) (q1 _ _ t1 fun o e=>hs1.extBut _ _ D.p3 e) fun g2 e hs2 he=>?_);obtain ⟨oe,hoe,hce⟩:=he;have hz2:IsZip g2 z TI TO .ellipsis:=hs2 _ _ D.p3.symm hz1;have nez:e≠z:=fun q=>by subst q;rw [hz2] at hoe;cases hoe;simp at hce
  exact A2I hz2 0xA fun g3 _ hs3=>hE g3 _ e (fun c o c1 _ c3 _ q=>hs3.extBut _ _ c1 (hs2 _ _ c3 (hs1.extBut _ _ c1 q))) ⟨oe,hs3.extBut _ _ nez hoe,hce⟩
 ·refine A0a (d1 _ _ _ _ (k1 _ _ u1 fun c o hc e=>hs1.extBut _ _ (mz hc).1 e) (q1 _ _ t1 fun o e=>hs1.extBut _ _ D.p3 e) fun u g2 tk2 ru t1b hs2=>wpAny_pure ?_);have Ql:IsPair g2 TO a b:=hs2.extBut _ _ D.p8 (hs1.extBut _ _ D.p2 hTO);refine A0a (A2G Ql rfl (A0a (A4i Ql fun g3 W7 hs3=>?_)));refine A0a (A5q (wpAny_pure (A0a (A0a (A5b ?_)))));show wpAny _ _ (Builtin.SmallTypes.nextOf (.ref i2) >>= _) _ _ _
  refine A0a (e2 _ _ _ _ hh (k2 _ _ u2 fun c o hc e=>hs3.extBut _ _ (mz hc).2.1 (hs2.extBut _ _ (mz hc).2.2.1 (hs1.extBut _ _ (mz hc).1 e))) (q2 _ _ t2 fun o e=>hs3.extBut _ _ D.p9.symm (hs2.extBut _ _ D.p0.symm (hs1.extBut _ _ D.p4 e))) fun g4 e Yy he=>?_);obtain ⟨oe,hoe,hce⟩:=he;have hz4:IsZip g4 z TI TO .ellipsis:=Yy _ _ D.p4.symm (hs3.extBut _ _ D.p2.symm (hs2.extBut _ _ D.p3.symm hz1));have nez:e≠z:=fun q=>by subst q;rw [hz4] at hoe;cases hoe;simp at hce
  exact A2I hz4 0xA fun g5 _ Vp=>hE g5 _ e (fun c o c1 c2 c3 c4 q=>Vp.extBut _ _ c1 (Yy _ _ c4 (hs3.extBut _ _ c2 (hs2.extBut _ _ c3 (hs1.extBut _ _ c1 q))))) ⟨oe,Vp.extBut _ _ nez hoe,hce⟩
theorem Inv.nfp (I:Inv X pins σ H s) (hf:∀ b∈fp,j8 X pins H b) {u:HO} (e:H b=some u):b∉fp:=fun hb=>by rw [(hf b hb).1] at e;cases e
theorem Inv.sZ (I:Inv X pins σ H s) (hf:∀ b∈fp,j8 X pins H b) (k:∀ b o,b∉fp->s.heap.get? b=some o->h'.get? b=some o):Inv X pins σ H { s with heap:=h',toks:=t' }:=by
 refine I.step (g':=s.gens) (d':=s.drawn) (ch:=fp) (fun b hb=>⟨(hf b hb).2.2.2.1,(hf b hb).2.1,(hf b hb).2.2.2.2.1,(hf b hb).2.2.2.2.2⟩) (fun b o _ _ hc e _=>k b o hc e) (fun b o _ _ hc e _=>⟨o.slots,k b o hc e⟩) (fun _ _ _ _ n=>n)
  (fun b o hc e=>⟨o,k b o hc e⟩) (fun _ _ e=>e) (fun _ _ _ e=>e) (fun b ps e=>⟨#[],by rw [e];simp⟩) (fun m hm=>?_) (fun b u e=>?_) I.bare
 ·obtain ⟨o,es,ep,ho,r⟩:=hm;exact ⟨o,es,ep,k _ o (fun z=>(hf _ z).2.1 rfl) ho,r⟩
 ·refine (I.hok b u e).stay (fun c v hc q=>k c v ?_ q) (fun _ q=>q) fun _ _ q=>q;rcases hc with z | z
  ·rw [z];exact I.nfp hf e
  ·exact I.nfp hf z
theorem Inv.Js (I:Inv X pins σ H s) (hf:∀ b∈fp,j8 X pins H b) (k:∀ b o,b∉fp->s.heap.get? b=some o->h'.get? b=some o) (hp:s.heap.objs.size<=p) (new:cJ X.prog X.w (upd H p o) h' p o) :
  Inv X pins σ (upd H p o) { s with heap:=h',toks:=t' }:=by
 have hn:H p=none:=I.hok.fresh hp;refine I.step (g':=s.gens) (d':=s.drawn) (ch:=fp) (fun b hb=>⟨(hf b hb).2.2.2.1,(hf b hb).2.1,(hf b hb).2.2.2.2.1,(hf b hb).2.2.2.2.2⟩) (fun b o _ _ hc e _=>k b o hc e) (fun b o _ _ hc e _=>⟨o.slots,k b o hc e⟩)
  (fun b o _ e n=>by rw [ak (A0I (A0q (A0t e) hp))];exact n)
  (fun b o hc e=>⟨o,k b o hc e⟩) (fun b xs e=>by rw [ak (au e hn)];exact e) (fun b u xs e=>by rw [ak (au e hn)];exact e) (fun b ps e=>⟨#[],by rw [ak (au e hn),e];simp⟩) (fun m hm=>?_) (fun b u e=>?_) I.bare
 ·obtain ⟨o,es,ep,ho,r⟩:=hm;exact ⟨o,es,ep,k _ o (fun z=>(hf _ z).2.1 rfl) ho,r⟩
 ·by_cases hb:b=p
  ·subst hb;rw [ao] at e;cases e;exact new
  ·rw [ak hb] at e;refine (I.hok b u e).stay (fun c v hc q=>k c v ?_ q) (fun c q=>?_) fun c xs q=>?_
   ·rcases hc with z | z
    ·rw [z];exact I.nfp hf e
    ·exact I.nfp hf z
   ·first
     | (rw [ak (au q hn)];exact q)
     | exact q
   ·first
     | (rw [ak (au q hn)];exact q)
     | exact q
def Itz (g1 g2 s1 s2:Nat->Hp->Prop) (y1 y2:Nat->Hp->V->Prop):It :=
 ⟨fun i H=>g1 i H/\g2 i H,fun i H v H'=>∃ p x y,v=.ref p/\H p=none/\H'=upd H p (.tup [x,y])/\y1 i H x/\y2 i H y,fun i H=>s1 i H\/(g1 i H/\s2 i H)⟩
theorem Qo {z TI TO:Addr}{g1 g2 s1 s2:Nat->Hp->Prop}{y1 y2:Nat->Hp->V->Prop}{t1 t2:Nat->Heap->Prop} (D:ZA z TI TO i1 i2)
  (S1:wY P w K i1 g1 s1 y1 t1) (S2:wY P w K i2 g2 s2 y2 t2) :
  Turn P w K (.Tuple elts x1 tp) (Itz g1 g2 s1 s2 y1 y2) [z,TI,TO,i1,i2] z (fun i h=>IsZip h z TI TO .none/\IsPair h TI (.ref i1) (.ref i2)/\(∃ a b,IsPair h TO a b)/\t1 i h/\t2 i h) where
 mem:=by simp
 obj:=fun i h ⟨hz,hTI,⟨a,b,hTO⟩,st1,st2⟩ c hc=>by
  simp only [A0d,A0u,A1m] at hc;rcases hc with rfl | rfl | rfl | rfl | rfl
  ·exact ⟨_,hz,fun v e=>by cases e⟩
  ·exact ⟨_,hTI,fun v e=>by cases e⟩
  ·exact ⟨_,hTO,fun v e=>by cases e⟩
  ·exact S1.obj i h st1
  ·exact S2.obj i h st2
 keep:=fun i h h' ⟨hz,hTI,⟨a,b,hTO⟩,st1,st2⟩ k=>⟨k z 0xA _ hz,k TI 0xA _ hTI,⟨a,b,k TO 0xA _ hTO⟩,S1.keep _ _ _ st1 fun o e=>k i1 0xA o e,S2.keep _ _ _ st2 fun o e=>k i2 0xA o e⟩
 item:=by
  intro X hP hw hK hc i pins s σ H E I hf ⟨hz,hTI,⟨a,b,hTO⟩,st1,st2⟩ ⟨hg1,hg2⟩;obtain ⟨U1,u1,k1,x,hx,d1⟩:=S1.item X pins σ H s i [z,TI,TO,i1,i2] hP hw hK I hf hg1;obtain ⟨U2,u2,k2,y,hy,d2⟩:=S2.item X pins σ H s i [z,TI,TO,i1,i2] hP hw hK I hf hg2;subst hP hw hK;have hT:s.TypeIs (.ref z) "zip":=⟨_,hz,rfl⟩;unfold pyNext;refine A0a (A2U (A1c (name:=Str.ofString "__next__") hT A3k (A0Z A3k hT A5f
   (W5 (x:=x) (y:=y) D hz hTI hTO u1 u2 st1 st2 k1 k2 (S1.keep i) (S2.keep i) (S1.keep (i+1)) (S2.keep (i+1)) d1 d2 fun u v h' tk ru rv hz' hTI' hTO' st1' st2' hp kk=>wpAny_pure ⟨_,rfl,?_⟩) (A4W _))))
  refine wpAny_letOwnedTupleGo_zip hz' fun h2 hz2 sb=>?_;have lt:∀ {c o},s.heap.get? c=some o->c≠s.heap.objs.size:=fun e=>A0I (A0t e);have nz:z≠s.heap.objs.size:=lt hz;have kk2:∀ c o,c∉[z,TI,TO,i1,i2]->s.heap.get? c=some o->h2.get? c=some o:=fun c o hc e=>by
   simp only [A0d,A0u,A1m,A5c] at hc;exact sb.extBut _ _ hc.1 (kk c o hc.1 hc.2.2.1 hc.2.2.2.1 hc.2.2.2.2 e)
  have hp2:IsPair h2 s.heap.objs.size u v:=sb.extBut _ _ nz.symm hp;refine ⟨.ref s.heap.objs.size,_,I.Js (o:=.tup [x,y]) hf kk2 0x2D ⟨wQ 0xA |> A2k,[u,v],.cons ru (.cons rv .nil),⟨_,hp2,rfl,_,rfl⟩⟩,rfl,⟨_,x,y,rfl,I.fresh,rfl,hx,hy⟩,⟨hz2,sb.extBut _ _ D.p1 hTI',⟨_,_,sb.extBut _ _ D.p2 hTO'⟩,S1.keep _ _ _ st1' fun o e=>sb.extBut _ _ D.p3 e,S2.keep _ _ _ st2' fun o e=>sb.extBut _ _ D.p4 e⟩,fun c hc=>?_⟩;have:∃ o,s.heap.get? c=some o:=by
   simp only [A0d,A0u,A1m] at hc;rcases hc with rfl | rfl | rfl | rfl | rfl
   ·exact ⟨_,hz⟩
   ·exact ⟨_,hTI⟩
   ·exact ⟨_,hTO⟩
   ·obtain ⟨o,e,_⟩:=S1.obj _ _ st1;exact ⟨o,e⟩
   ·obtain ⟨o,e,_⟩:=S2.obj _ _ st2;exact ⟨o,e⟩
  obtain ⟨o,e⟩:=this;rw [ak (lt e)];exact (hf c hc).1
 done:=by
  intro X hP hw hK hc i pins s σ H E I hf ⟨hz,hTI,⟨a,b,hTO⟩,st1,st2⟩ hs;have hT:s.TypeIs (.ref z) "zip":=⟨_,hz,rfl⟩;have fin:∀ (h':Heap) (tk:Nat),(∀ c o,c≠z->c≠TO->c≠i1->c≠i2->s.heap.get? c=some o->h'.get? c=some o)->Inv X pins σ H { s with heap:=h',toks:=tk }:=fun h' tk kk=>I.sZ hf fun c o hc e=>by
   simp only [A0d,A0u,A1m,A5c] at hc;exact kk c o hc.1 hc.2.2.1 hc.2.2.2.1 hc.2.2.2.2 e
  have hh:=I.ok.hd hc;rcases hs with hs1 | ⟨hg1,hs2⟩
  ·obtain ⟨U1,u1,k1,d1⟩:=S1.done X pins σ H s i [z,TI,TO,i1,i2] hP hw hK I hf hs1;subst hP hw hK;unfold pyNext;refine A0a (A2U (A1c (name:=Str.ofString "__next__") hT A3k (A0Z A3k hT A5f
    (Cm (x:=.non) (U2:=fun _=>True) (T2:=fun _=>True) (W6:=fun _=>True) hh D hz hTI hTO u1 st1 k1 (S1.keep i) (.inl d1) fun h' tk e kk he=>?_) (A4W _))))
   obtain ⟨o,ho,hc'⟩:=he;exact A0a (A4c (T:="StopIteration") (b:=true) ⟨o,ho,hc'⟩ isSubtype_stop (wpAny_pure ⟨rfl,fin _ _ kk⟩))
  ·obtain ⟨U1,u1,k1,x,hx,d1⟩:=S1.item X pins σ H s i [z,TI,TO,i1,i2] hP hw hK I hf hg1;obtain ⟨U2,u2,k2,d2⟩:=S2.done X pins σ H s i [z,TI,TO,i1,i2] hP hw hK I hf hs2;subst hP hw hK;unfold pyNext;refine A0a (A2U (A1c (name:=Str.ofString "__next__") hT A3k (A0Z A3k hT A5f
    (Cm (x:=x) (W6:=t1 (i+1)) hh D hz hTI hTO u1 st1 k1 (S1.keep i) (.inr ⟨d1,u2,st2,k2,S2.keep i,d2⟩) fun h' tk e kk he=>?_) (A4W _))))
   obtain ⟨o,ho,hc'⟩:=he;exact A0a (A4c (T:="StopIteration") (b:=true) ⟨o,ho,hc'⟩ isSubtype_stop (wpAny_pure ⟨rfl,fin _ _ kk⟩))
 self:=fun _ _ _ _ _ st h=>wpAny_pyIter_zip st.1 h
theorem Mj (v1 v2:Value) (o1 o2:Obj) (U:Heap->Prop) (hU:∀ h o,U h->U (h.push o))
  (h1:∀ (prog:Program) (w:World) (A:Around) (Q:Value->Shared->Prop) (E:Value->Shared->Prop) (s:Shared),U s.heap->Q 0x14 { s with heap:=s.heap.push o1 }->wpAny 0xC A (pyIter v1) Q E s)
  (h2:∀ (prog:Program) (w:World) (A:Around) (Q:Value->Shared->Prop) (E:Value->Shared->Prop) (s:Shared),U s.heap->Q 0x14 { s with heap:=s.heap.push o2 }->wpAny 0xC A (pyIter v2) Q E s) :
  Meets (Builtin.«zip.__new__» ⟨[.type "zip",v1,v2],[]⟩) (fun _ R s=>U s.heap /\
   R (.ok (.ret (.ref ((((s.heap.push o1).push o2).push { cls:=.type "tuple",data:=.seq #[.ref s.heap.objs.size,.ref (s.heap.push o1).objs.size] }).push { cls:=.type "tuple",data:=.seq #[.none,.none] }).objs.size)))
    { s with heap:=((((s.heap.push o1).push o2).push { cls:=.type "tuple",data:=.seq #[.ref s.heap.objs.size,.ref (s.heap.push o1).objs.size] }).push { cls:=.type "tuple",data:=.seq #[.none,.none] }).push { cls:=.type "zip",data:=.fields #[.none,.bool false,.bool false,.ref ((s.heap.push o1).push o2).objs.size,.ref (((s.heap.push o1).push o2).push { cls:=.type "tuple",data:=.seq #[.ref s.heap.objs.size,.ref (s.heap.push o1).objs.size] }).objs.size] } }) :=
 .of_wp fun prog w A R s h=>by
  obtain ⟨hp,g,d,tk,os⟩:=s;obtain ⟨hu,h⟩:=h;have hsub:=sub_zip;have hu2:U (hp.push o1):=hU _ _ hu
  wp_walk using h1 prog w _ _ _ ⟨hp,g,d,tk,os⟩ hu,h2 prog w _ _ _ ⟨hp.push o1,g,d,tk,os⟩ hu2
  exact ⟨_,rfl,h⟩
section
theorem Qp {R:It->Hp->Prop}{v1 v2:Value}{o1 o2:Obj}{U:Heap->Prop}{g1 g2 s1 s2:Nat->Hp->Prop}{y1 y2:Nat->Hp->V->Prop}{t1 t2:Nat->Heap->Prop} (I:Inv X pins σ H s)
  (hu:U s.heap) (hU:∀ h o,U h->U (h.push o))
  (h1:∀ (prog:Program) (w:World) (A:Around) (Q:Value->Shared->Prop) (E:Value->Shared->Prop) (s:Shared),U s.heap->Q 0x14 { s with heap:=s.heap.push o1 }->wpAny 0xC A (pyIter v1) Q E s)
  (h2:∀ (prog:Program) (w:World) (A:Around) (Q:Value->Shared->Prop) (E:Value->Shared->Prop) (s:Shared),U s.heap->Q 0x14 { s with heap:=s.heap.push o2 }->wpAny 0xC A (pyIter v2) Q E s)
  (S1:wY X.prog X.w X.K s.heap.objs.size g1 s1 y1 t1) (S2:wY X.prog X.w X.K 0x12 g2 s2 y2 t2) (b1:∀ h:Heap,h.get? s.heap.objs.size=some o1->t1 0 h) (b2:∀ h:Heap,h.get? 0x12=some o2->t2 0 h) (f1:o1.isFreed=false) (f2:o2.isFreed=false)
  (q:R (Itz g1 g2 s1 s2 y1 y2) H):wpAny 0x9 X.A (call (.type "zip") [v1,v2]) (fun v s1=>wpAny 0x9 X.A (pyIter v) (PIE X pins σ (.Tuple elts x1 tp) R) E s1) E s:=by
 refine callType_new F.called_zip 0x5 (F.typeCall_zip_2 _ _) (F.newCall_zip_2 _ _) (fun obj=>F.args_object_init_3 obj _ _) F.entry_zip_new (Mj v1 v2 o1 o2 U hU h1 h2) ⟨hu,?_⟩;generalize hG1:s.heap.push o1=G1;have z1:G1.objs.size=s.heap.objs.size+1:=by rw [<- hG1];exact A1S ..
 generalize hG2:G1.push o2=G2;have z2:G2.objs.size=s.heap.objs.size+2:=by rw [<- hG2,A1S,z1]
 rw [z1,z2];generalize hG3:G2.push { cls:=.type "tuple",data:=.seq #[.ref s.heap.objs.size,.ref 0x12] }=G3;have z3:G3.objs.size=s.heap.objs.size+3:=by rw [<- hG3,A1S,z2]
 rw [z3];generalize hG4:G3.push { cls:=.type "tuple",data:=.seq #[.none,.none] }=G4;have z4:G4.objs.size=s.heap.objs.size+4:=by rw [<- hG4,A1S,z3]
 rw [z4];generalize hG5:G4.push { cls:=.type "zip",data:=.fields #[.none,.bool false,.bool false,.ref (s.heap.objs.size+2),.ref (s.heap.objs.size+3)] }=G5;have e5:IsZip G5 (s.heap.objs.size+4) (s.heap.objs.size+2) (s.heap.objs.size+3) .none:=by rw [<- z4,<- hG5];exact A0n _ rfl
 have e4:IsPair G5 (s.heap.objs.size+3) .none .none:=by rw [<- z3,<- hG5];exact A0b _ (by rw [<- hG4];exact A0n _ rfl)
 have e3:IsPair G5 (s.heap.objs.size+2) 0x14 (.ref 0x12):=by rw [<- z2,<- hG5];exact A0b _ (by rw [<- hG4];exact A0b _ (by rw [<- hG3];exact A0n _ rfl))
 have up2:∀ c o,G2.get? c=some o->G5.get? c=some o:=fun c o e=>by rw [<- hG5];exact A0b _ (by rw [<- hG4];exact A0b _ (by rw [<- hG3];exact A0b _ e))
 have e2:G5.get? 0x12=some o2:=up2 _ _ (by rw [<- z1,<- hG2];exact A0n _ f2);have e1:G5.get? s.heap.objs.size=some o1:=up2 _ _ (by rw [<- hG2];exact A0b _ (by rw [<- hG1];exact A0n _ f1));have all:∀ c o,s.heap.get? c=some o->G5.get? c=some o:=fun c o e=>up2 _ _ (by rw [<- hG2];exact A0b _ (by rw [<- hG1];exact A0b _ e));refine ⟨⟨_,e5,rfl⟩,wpAny_pyIter_zip e5 ?_⟩;have ne:∀ {m n:Nat},m≠n->s.heap.objs.size+m≠s.heap.objs.size+n:=fun h z=>h (Nat.add_left_cancel z);refine ⟨_,_,_,_,H,rfl,I.kept (t':=s.toks) all,Qo ⟨ne 0x5,ne 0x5,ne (m:=0) 0x5,ne 0x5,ne 0x5,ne (n:=0) 0x5,ne 0x5,ne (n:=0) 0x5,ne 0x5,ne (m:=0) 0x5⟩ S1 S2,⟨e5,e3,⟨_,_,e4⟩,b1 _ e1,b2 _ e2⟩,fun b hb=>?_,q⟩;have hle:s.heap.objs.size<=b:=by
  simp only [A0d,A0u,A1m] at hb;rcases hb with rfl | rfl | rfl | rfl | rfl <;> lia
 exact I.ur hle (I.hok.fresh hle)
abbrev Jt (K:PySem.W.Frag) (a b:Addr):It:=Itz (fun i H=>∃ xs x,cj K H a xs/\xs[i]?=some x) (fun i H=>∃ xs x,cj K H b xs/\xs[i]?=some x) (fun i H=>∃ xs,cj K H a xs/\xs.length<=i) (fun i H=>∃ xs,cj K H b xs/\xs.length<=i)
 (fun i H x=>∀ xs,cj K H a xs->xs[i]?=some x) (fun i H x=>∀ xs,cj K H b xs->xs[i]?=some x)
abbrev Ju (K:PySem.W.Frag) (a b:Addr):It:=Itz (fun i H=>∃ xs x,bO K H a xs/\xs[i]?=some x) (fun i H=>∃ xs x,bO K H b xs/\xs[i]?=some x) (fun i H=>∃ xs,bO K H a xs/\xs.length<=i) (fun i H=>∃ xs,bO K H b xs/\xs.length<=i)
 (fun i H x=>∀ xs,bO K H a xs->xs[i]?=some x) (fun i H x=>∀ xs,bO K H b xs->xs[i]?=some x)
inductive Cp (K:W.Frag) (R:It->Hp->Prop) (vs:List V) (H1:Hp):Prop
 | mk (a b:Addr) (_:vs=[.ref a,.ref b]) (_:(∃ xs,cj K H1 a xs)) (_:(∃ xs,cj K H1 b xs)) (_:R (Jt K a b) H1):Cp K R vs H1
def ZP (K:PySem.W.Frag) (ta:TA):TI:=fun σ H R=>ta σ H fun vs H1=>Cp K R vs H1
inductive Cq (K:W.Frag) (R:It->Hp->Prop) (vs:List V) (H1:Hp):Prop
 | mk (a b:Addr) (_:vs=[.ref a,.ref b]) (_:(∃ xs,bO K H1 a xs)) (_:(∃ xs,bO K H1 b xs)) (_:R (Ju K a b) H1):Cq K R vs H1
def ZQ (K:PySem.W.Frag) (ta:TA):TI:=fun σ H R=>ta σ H fun vs H1=>Cq K R vs H1
variable {a b:Expr}{ta:TA}{p:Pos}
theorem Qq (hg:Gl X "zip") (hm:X.mg "zip"=none) (ha:PA X [a,b] ta) (hs:starEach [a,b] X.env=[(false,eval a X.env),(false,eval b X.env)]:=by rfl) (hs2:starEach [b] X.env=[(false,eval b X.env)]:=by rfl) :
  PI X (.Tuple elts x1 tp) (.Call (.Name "zip" p) [a,b] [] pos) (ZP X.K ta):=by
 intro pins s σ H R I h;refine Call_ (oY I hg hm Qk (A2v (cH 0x6C fun us s1 ⟨vs,H1,I1,r1,q1⟩=>?_) (by rw [hs,hs2]) (by rw [hs2];rfl)));obtain ⟨c,d,rfl,⟨xs,hx⟩,⟨ys,hy⟩,q⟩:=q1;obtain ⟨u,u',rfl,ru,ru'⟩:=vals2 r1;cases ru;cases ru';obtain ⟨its,rv,p1,_⟩:=I1.tuple hx;obtain ⟨its2,rv2,p2,_⟩:=I1.tuple hy;exact Qp (U:=fun h=>h.IsTuple c its.toArray/\h.IsTuple d its2.toArray) I1 ⟨p1,p2⟩ (fun h o ⟨⟨oc,e,r⟩,⟨od,e',r'⟩⟩=>⟨⟨oc,A0b _ e,r⟩,⟨od,A0b _ e',r'⟩⟩)
  (fun prog w A Q E s hu hQ=>wpAny_pyIter_tuple hu.1 hQ) (fun prog w A Q E s hu hQ=>wpAny_pyIter_tuple hu.2 hQ) (Jq c _) (Jq d _) (fun h e=>⟨_,e,rfl,rfl⟩) (fun h e=>⟨_,e,rfl,rfl⟩) rfl rfl q
theorem Qs (hg:Gl X "zip") (hm:X.mg "zip"=none) (ha:PA X [a,b] ta) (hs:starEach [a,b] X.env=[(false,eval a X.env),(false,eval b X.env)]:=by rfl) (hs2:starEach [b] X.env=[(false,eval b X.env)]:=by rfl) :
  PI X (.Tuple elts x1 tp) (.Call (.Name "zip" p) [a,b] [] pos) (ZQ X.K ta):=by
 intro pins s σ H R I h;refine Call_ (oY I hg hm Qk (A2v (cH 0x6C fun us s1 ⟨vs,H1,I1,r1,q1⟩=>?_) (by rw [hs,hs2]) (by rw [hs2];rfl)));obtain ⟨c,d,rfl,⟨xs,hx⟩,⟨ys,hy⟩,q⟩:=q1;obtain ⟨u,u',rfl,ru,ru'⟩:=vals2 r1;cases ru;cases ru';obtain ⟨its,rv,p1,_⟩:=I1.list hx;obtain ⟨its2,rv2,p2,_⟩:=I1.list hy;exact Qp (U:=fun h=>h.IsList c its.toArray/\h.IsList d its2.toArray) I1 ⟨p1.isList,p2.isList⟩ (fun h o ⟨⟨oc,e,r⟩,⟨od,e',r'⟩⟩=>⟨⟨oc,A0b _ e,r⟩,⟨od,A0b _ e',r'⟩⟩)
  (fun prog w A Q E s hu hQ=>A3o hu.1 hQ) (fun prog w A Q E s hu hQ=>A3o hu.2 hQ) (Jr c _) (Jr d _) (fun h e=>⟨_,e,rfl,rfl⟩) (fun h e=>⟨_,e,rfl,rfl⟩) rfl rfl q
end
theorem pZ {J:It}{fx fy:Nat->V}{k:Nat}{Q:VK} (Pv:Nat->List V->Hp->Prop)
  (hJ:∀ i ys H,Pv i ys H->(i<n->J.go i H/\∀ v H',J.J7 i H v H'->∃ p,v=.ref p/\H p=none/\H'=upd H p (.tup [fx i,fy i]))/\(n<=i->J.stop i H)) (h0:Pv 0 [] (upd H1 D 0x75)) (hD:∀ i ys H,Pv i ys H->H D=some 0x78)
  (hs:∀ i ys H p,i<n->Pv i ys H->H p=none->Cg D σ k ix g tt te 0x48 ys (upd H p (.tup [fx i,fy i])) (Pv (i+1))) (hd:∀ ys H,Pv n ys H->Q 0x60 H):pB J D σ k ix g tt te Q H1:=by
 refine ⟨fun i m ys H=>m=n - i/\i<=n/\Pv i ys H,⟨n,by simp,A0X _,h0⟩,?_⟩;rintro i m ys H ⟨rfl,hi,p⟩;refine ⟨hD i ys H p,?_⟩;obtain ⟨h1,h2⟩:=hJ i ys H p
 by_cases hlt:i<n
 ·obtain ⟨hg,hy⟩:=h1 hlt;refine .inr ⟨hg,Pv (i+1),fun zs H' p'=>⟨n - (i+1),by lia,rfl,hlt,p'⟩,fun x H' y=>?_⟩;obtain ⟨q,rfl,hq,rfl⟩:=hy x H' y;exact hs i ys H q hlt p hq
 ·have e:i=n:=by lia
  subst e;exact .inl ⟨h2 0x2D,hd ys H p⟩
theorem Cr (ha:cj K H a xs) (hb:cj K H b ys) (hl:xs.length=ys.length) :
  (i<xs.length->(Jt K a b).go i H/\∀ v H',(Jt K a b).J7 i H v H'->∃ p,v=.ref p/\H p=none/\H'=upd H p (.tup [xs.getD i .non,ys.getD i .non]))/\(xs.length<=i->(Jt K a b).stop i H):=by
 refine ⟨fun hi=>⟨⟨⟨xs,xs[i],ha,by simp [hi]⟩,⟨ys,ys[i]' 0x2,hb,by simp [hl ▸ hi]⟩⟩,fun v H' ⟨p,x,y,e1,e2,e3,e4,e5⟩=>⟨p,e1,e2,?_⟩⟩,fun hi=>.inl ⟨xs,ha,hi⟩⟩;rw [e3,qQ,qQ,e4 xs ha,e5 ys hb];rfl
theorem Cu (ha:bO K H a xs) (hb:bO K H b ys) (hl:xs.length=ys.length) :
  (i<xs.length->(Ju K a b).go i H/\∀ v H',(Ju K a b).J7 i H v H'->∃ p,v=.ref p/\H p=none/\H'=upd H p (.tup [xs.getD i .non,ys.getD i .non]))/\(xs.length<=i->(Ju K a b).stop i H):=by
 refine ⟨fun hi=>⟨⟨⟨xs,xs[i],ha,by simp [hi]⟩,⟨ys,ys[i]' 0x2,hb,by simp [hl ▸ hi]⟩⟩,fun v H' ⟨p,x,y,e1,e2,e3,e4,e5⟩=>⟨p,e1,e2,?_⟩⟩,fun hi=>.inl ⟨xs,ha,hi⟩⟩;rw [e3,qQ,qQ,e4 xs ha,e5 ys hb];rfl
theorem q8 {es:List Expr}{k:Nat}{t:Zh} (hc:X.calm=true) (h:PGs X es t) (hK:X.K=K:=by rfl)
  (hn:(assignEach es X.env).length=n:=by rfl) (hst:(assignEach es X.env).findIdx? (·.1)=none:=by rfl):PG X (.Tuple es k pos) (Zi K n t):=hK ▸ nu hc h hn hst
def q9 (n:Nat) (l:List Nat):List Nat:=(List.replicate n l).flatten
theorem Cv (l:Array Nat):∀ (n:Nat) (acc:Array Nat),((List.replicate n l).foldl (·++·) acc).toList=acc.toList++q9 n l.toList
 | 0,acc=>by simp [q9]
 | n+1,acc=>by
  rw [A3y,A1o,Cv l n];simp [q9,A3y]
theorem W9 (n:Nat) (l:List Nat):(q9 n l).length=n * l.length:=by
 unfold q9
 induction n with
 | zero=>simp
 | succ n ih=>rw [A3y,List.flatten_cons,iw,ih,Nat.succ_mul];lia
theorem FW:nA X (binaryOp .Mult) (fun x y H Q=>∃ z n,x=.str z/\y=.int n/\0<=n/\n<=1000/\z.length<=1000/\Q (.str (mZ (q9 n.toNat z.cps.toList))) H):=by
 intro pins s σ H x y v u Q I rx ry h;obtain ⟨z,n,rfl,rfl,h0,h1,hz,q⟩:=h;obtain ⟨t,rfl⟩:=rx;obtain ⟨t',rfl⟩:=ry;have hl:z.length * n.toNat<=1000000:=A0O (Nat.mul_le_mul hz (show n.toNat<=1000 by lia)) 0x5
 have hsl:z.length * n.toNat<=sizeLine:=A0O hl 0x5;refine PySem.P.mul_str (by rw [A0p 0x2,A0p 0x2];rfl) (fun hn _=>?_) (fun _ _=>by unfold Builtin.Str.tooLong;simp;lia) ?_
 ·have:(1000:Int)<=(2 ^ 63 - 1) / n:=Int.le_ediv_of_mul_le 0x2 0x2;lia
 ·by_cases hn:n<1
  ·rw [A0i hn];have e:n.toNat=0:=by lia
   refine ⟨by decide,.str _,H,I.tok _,⟨_,rfl⟩,?_⟩;have e2:mZ (q9 n.toNat z.cps.toList)=Str.empty:=by rw [e];rfl
   rw [<- e2];exact q
  ·rw [A0e hn]
   by_cases hc:(n==1||z.length==0)=true
   ·rw [A0i hc];refine ⟨.str z,H,I,⟨t,rfl⟩,?_⟩;have e2:mZ (q9 n.toNat z.cps.toList)=z:=by
     rcases Bool.or_eq_true_iff.mp hc with e | e
     ·have e':n=1:=by simpa using e
      subst e';simp [q9,nM]
     ·have e':z.cps.toList=[]:=by
       have:z.length=0:=by simpa using e
       simp only [Str.length] at this
       simpa using this
      have:∀ k,q9 k ([]:List Nat)=[]:=fun k=>by simp [q9]
      rw [e',this,<- e',nM]
    rw [<- e2];exact q
   ·rw [A0e hc];have e2:(⟨(List.replicate n.toNat z.cps).foldl (·++·) #[]⟩:Str)=mZ (q9 n.toNat z.cps.toList):=pY (by
     show ((List.replicate n.toNat z.cps).foldl (·++·) #[]).toList=_
     rw [Cv];simp)
    rw [e2];refine ⟨?_,.str _,H,I.tok _,⟨_,rfl⟩,q⟩;rw [jE,W9];have:z.cps.toList.length=z.length:=by simp [Str.length]
    rw [this,Nat.mul_comm];exact hsl
mutual
inductive cN (H:Hp):V->PyData->Prop
 | non:cN H .non .none
 | bl (b:_):cN H (.bl b) (.bool b)
 | int (i:_):cN H (.int i) (.int i)
 | str (x:_):cN H (.str x) (.str x)
 | lst {p xs ds:_}:H p=some 0x67->dg H xs ds->cN H 0x48 (.list ds)
 | tup {p xs ds:_}:H p=some 0x35->dg H xs ds->cN H 0x48 (.tuple ds)
inductive dg (H:Hp):List V->List PyData->Prop
 | nil:dg H [] []
 | cons {v vs d ds:_}:cN H v d->dg H vs ds->dg H (v::vs) (d::ds)
end
mutual
theorem cN.same {H H':Hp} (s:Same H H'):∀ {v:V}{d:PyData},cN H v d->cN H' v d
 | _,_,.non=>.non
 | _,_,.bl b=>.bl b
 | _,_,.int i=>.int i
 | _,_,.str x=>.str x
 | _,_,.lst h r=>.lst (s _ _ h) (dg.same s r)
 | _,_,.tup h r=>.tup (s _ _ h) (dg.same s r)
theorem dg.same {H H':Hp} (s:Same H H'):∀ {vs:List V}{ds:List PyData},dg H vs ds->dg H' vs ds
 | _,_,.nil=>.nil
 | _,_,.cons h r=>.cons (cN.same s h) (dg.same s r)
end
mutual
theorem cN.reads (I:Inv X pins σ H s):∀ {v:V}{d:PyData}{u:Value},cN H v d->RelV v u->∃ as,Reads s.heap u d as
 | _,_,_,.non,r=>by cases r;exact ⟨_,.none⟩
 | _,_,_,.bl b,r=>by cases r;exact ⟨_,.bool b⟩
 | _,_,_,.int i,r=>by obtain ⟨t,rfl⟩:=r;exact ⟨_,.int i t⟩
 | _,_,_,.str x,r=>by obtain ⟨t,rfl⟩:=r;exact ⟨_,.str x t⟩
 | _,_,_,.lst h q,r=>by
  cases r;obtain ⟨_,its,n,rv,e⟩:=(I.hok _ _ h);obtain ⟨as,ra⟩:=dg.reads I q rv;exact ⟨_,.list e rfl rfl (by simpa using ra)⟩
 | _,_,_,.tup h q,r=>by
  cases r;obtain ⟨_,its,rv,o,e,c,n,dd⟩:=(I.hok _ _ h);obtain ⟨as,ra⟩:=dg.reads I q rv;exact ⟨_,.tuple e c dd (by simpa using ra)⟩
theorem dg.reads (I:Inv X pins σ H s):∀ {vs:List V}{ds:List PyData}{us:List Value},dg H vs ds->Vals vs us->∃ as,ReadsAll s.heap us ds as
 | _,_,_,.nil,r=>by cases r;exact ⟨_,.nil⟩
 | _,_,_,.cons h q,r=>by
  cases r with
  | cons r1 r2 =>
   obtain ⟨as,ra⟩:=cN.reads I h r1;obtain ⟨bs,rb⟩:=dg.reads I q r2;exact ⟨_,.cons ra rb⟩
end
inductive ZR (x y:V) (H:Hp) (Q:VK):Prop
 | mk (dx dy:PySem.PyData) (_:cN H x dx) (_:cN H y dy) (_:dx.canLay0=true) (_:dy.canLay0=true) (_:dx.depth<=8) (_:Q (.bl (PyData.eqv dx dy)) H):ZR x y H Q
inductive rNeD (x y:V) (H:Hp) (Q:VK):Prop
 | mk (dx dy:PySem.PyData) (_:cN H x dx) (_:cN H y dy) (_:dx.canLay0=true) (_:dy.canLay0=true) (_:dx.depth<=8) (_:Q (.bl (!PyData.eqv dx dy)) H):rNeD x y H Q
theorem ZS (hu:X.A.units+64<cLine):nA X (compareOp .Eq) ZR:=by
 intro pins s σ H x y v u Q I rx ry h;obtain ⟨dx,dy,h1,h2,c1,c2,dp,q⟩:=h;obtain ⟨as,ra⟩:=h1.reads I rx;obtain ⟨bs,rb⟩:=h2.reads I ry;exact SeqAt.compareEq_reads ra rb c1 c2 0x2 ⟨.bl _,H,I,rfl,q⟩
theorem Qt (hu:X.A.units+64<cLine):nA X (compareOp .NotEq) rNeD:=by
 intro pins s σ H x y v u Q I rx ry h;obtain ⟨dx,dy,h1,h2,c1,c2,dp,q⟩:=h;obtain ⟨as,ra⟩:=h1.reads I rx;obtain ⟨bs,rb⟩:=h2.reads I ry;exact SeqAt.compareNe_reads ra rb c1 c2 0x2 ⟨.bl _,H,I,rfl,q⟩
open PySem.W PySem.Builtin.ObjectAttr PySem.Builtin.Getset_descriptor
structure XC (K:PySem.W.Frag) (D:Addr):Prop where
 ga:findIn K 0x60 "__getattribute__"=some (some (.builtin "BaseException.__getattribute__"))
 gh:findIn K 0x60 "__getattr__"=some none
 cl:(clsIn K D).isSome=true
 ca:findIn K 0x60 "__class__"=some (some 0x65)
 gs:specialIn K 0x65 "__get__"=some (some (.builtin "getset_descriptor.__get__"))
 tk:takesIn K 0x65=some true
 ob:mroIn K D (.type "object")=some true
 be:mroIn K D (.type "BaseException")=some true
section
variable {x:Addr}
end
structure Fly (B h0 h:Heap) (outer:List Env) (H':Hp) (ea:Addr) (C a0:Value):Prop where
 fl:Heap.FlyingW B outer ea C a0 h
 tr:∀ b o,H' b=some o->∃ u,B.get? b=some u
 old:∀ b o,h0.get? b=some o->b∉frs outer->∃ u,B.get? b=some u
section
variable {E:XK}
end
section
variable {k:Nat}{pP:List V}{ds:List Value}{E:St->XK}{x m:Str}{p:Pos}{o:Expr}{es:List Expr}{t:TA}
end
section
variable {Ox:List 0x16}{xe:Value->Shared->Prop}{ea:Addr}
end
section
variable {κ:Type} [DecidableEq κ]
def bH (kvs:List (κ×V)) (k:κ):Option V:=(kvs.find? fun kv=>decide (kv.1=k)).map (·.2)
def putK (kvs:List (κ×V)) (k:κ) (v:V):List (κ×V) :=
 if (kvs.any fun kv=>decide (kv.1=k))=true then kvs.map (fun kv=>if kv.1=k then (kv.1,v) else kv) else kvs++[(k,v)]
def jj (kvs:List (κ×V)) (k:κ):List (κ×V):=kvs.filter fun kv=>decide (kv.1≠k)
theorem fB {p:κ×V}{r:List (κ×V)}{k:κ} (e:p.1=k):bH (p::r) k=some p.2:=by simp [bH,A2s,e]
theorem dO {p:κ×V}{r:List (κ×V)}{k:κ} (e:¬ p.1=k):bH (p::r) k=bH r k:=by simp [bH,A2s,e]
theorem lO (k:κ):∀ kvs:List (κ×V),(kvs.any fun kv=>decide (kv.1=k))=(bH kvs k).isSome
 | []=>rfl
 | p::r=>by
  rw [A2y]
  by_cases e:p.1=k
  ·simp only [fB e,A0k e,Bool.true_or,Option.isSome_some]
  ·rw [dO e,A0p e,Bool.false_or];exact lO k r
theorem Cw (k j:κ) (y:V):∀ kvs:List (κ×V),bH (kvs.map fun kv=>if kv.1=k then (kv.1,y) else kv) j=(bH kvs j).map fun x=>if j=k then y else x
 | []=>rfl
 | p::r=>by
  have ih:=Cw k j y r;rw [A0h]
  by_cases h:p.1=k
  ·rw [A0i h]
   by_cases e:p.1=j
   ·rw [fB (p:=(p.1,y)) e,fB e,A4o,A0i (e.symm.trans h)]
   ·rw [dO (p:=(p.1,y)) e,dO e,ih]
  ·rw [A0e h]
   by_cases e:p.1=j
   ·rw [fB (p:=p) e,fB e,A4o,A0e (fun z=>h (e.trans z))]
   ·rw [dO (p:=p) e,dO e,ih]
theorem xq (k j:κ) (y:V):∀ kvs:List (κ×V),bH kvs k=none->bH (kvs++[(k,y)]) j=if j=k then some y else bH kvs j
 | [],_=>by
  by_cases e:k=j
  ·rw [A0i e.symm];exact fB (p:=(k,y)) e
  ·rw [A0e (fun z=>e z.symm)];exact dO (p:=(k,y)) e
 | p::r,hn=>by
  rw [A1Y];have hk:¬ p.1=k:=fun z=>by rw [fB z] at hn;cases hn
  rw [dO hk] at hn;have ih:=xq k j y r hn
  by_cases e:p.1=j
  ·rw [fB e,fB e,A0e (fun z=>hk (e.trans z))]
  ·rw [dO e,dO e,ih]
theorem bJ (kvs:List (κ×V)) (k j:κ) (y:V):bH (putK kvs k y) j=if j=k then some y else bH kvs j:=by
 unfold putK
 by_cases a:(kvs.any fun kv=>decide (kv.1=k))=true
 ·rw [A0i a,Cw];rw [lO] at a
  by_cases e:j=k
  ·obtain ⟨x,hx⟩:=A2T.mp a;rw [A0i e,e,hx,A4o,A0i rfl]
  ·rw [A0e e];cases bH kvs j with
   | none=>rfl
   | some x=>rw [A4o,A0e e]
 ·rw [A0e a];refine xq k j y kvs ?_;rw [lO] at a;cases q:bH kvs k with
  | none=>rfl
  | some x=>rw [q] at a;exact (a rfl).elim
theorem fO (kvs:List (κ×V)) (k:κ) (v:V):(putK kvs k v).length<=kvs.length+1:=by
 unfold putK
 split
 ·rw [bV];lia
 ·rw [iw,oX,A4p];lia
theorem Qu {kvs:List (κ×V)}{k:κ} (v:V) (h:bH kvs k=none):putK kvs k v=kvs++[(k,v)]:=by
 unfold putK;rw [lO,h];exact A0e 0x5
theorem jA.j9 {o:Option V}{u:Option Value} (r:jA o u):o.isSome=u.isSome:=by
 cases o with
 | none=>cases u with
  | none=>rfl
  | some _=>exact (show False from r).elim
 | some _=>cases u with
  | none=>exact (show False from r).elim
  | some _=>rfl
theorem jA.getD {o:Option V}{u:Option Value}{d:V}{d':Value} (r:jA o u) (rd:RelV d d'):RelV (o.getD d) (u.getD d'):=by
 cases o with
 | none=>cases u with
  | none=>exact rd
  | some _=>exact (show False from r).elim
 | some _=>cases u with
  | none=>exact (show False from r).elim
  | some _=>exact r
theorem KV.val {kvs:List (κ×V)}{vs:List (κ×Value)} (r:KV kvs vs) (k:κ):jA (bH kvs k) (valueAt vs k):=by
 unfold KV at r
 induction r with
 | nil=>exact True.intro
 | @cons p q ps qs h t ih =>
  obtain ⟨h1,h2⟩:=h
  by_cases e:p.1=k
  ·have e':q.1=k:=h1.symm.trans e;have b:valueAt (q::qs) k=some q.2:=by simp [valueAt,A2s,e']
   rw [fB e,b];exact h2
  ·have e':¬ q.1=k:=fun z=>e (h1.trans z);have b:valueAt (q::qs) k=valueAt qs k:=by simp [valueAt,A2s,e']
   rw [dO e,b];exact ih
theorem KV.any {kvs:List (κ×V)}{vs:List (κ×Value)} (r:KV kvs vs) (k:κ):(kvs.any fun kv=>decide (kv.1=k))=vs.any fun kv=>decide (kv.1=k):=by
 unfold KV at r
 induction r with
 | nil=>rfl
 | cons h t ih=>rw [A2y,A2y,ih,h.1]
theorem KV.repl {kvs:List (κ×V)}{vs:List (κ×Value)} (r:KV kvs vs) (k:κ)  (ry:RelV y u) :
  KV (kvs.map fun kv=>if kv.1=k then (kv.1,y) else kv) (vs.map fun kv=>if kv.1=k then (kv.1,u) else kv):=by
 unfold KV at r ⊢
 induction r with
 | nil=>exact .nil
 | @cons p q ps qs h t ih =>
  rw [A0h,A0h];refine .cons ?_ ih;obtain ⟨h1,h2⟩:=h
  by_cases e:p.1=k
  ·rw [A0i e,A0i (h1.symm.trans e)];exact ⟨h1,ry⟩
  ·rw [A0e e,A0e (fun z=>e (h1.trans z))];exact ⟨h1,h2⟩
theorem KV.put {kvs:List (κ×V)}{vs:List (κ×Value)} (r:KV kvs vs) (k:κ)  (ry:RelV y u):KV (putK kvs k y) (stored vs k u):=by
 unfold putK stored;rw [r.any k]
 by_cases e:(vs.any fun kv=>decide (kv.1=k))=true
 ·rw [A0i e,A0i e];exact r.repl k ry
 ·rw [A0e e,A0e e];exact Paired.snoc r ⟨rfl,ry⟩
theorem KV.drop {kvs:List (κ×V)}{vs:List (κ×Value)} (r:KV kvs vs) (k:κ):KV (jj kvs k) (without vs k):=by
 unfold KV at r ⊢;unfold jj without
 induction r with
 | nil=>exact .nil
 | @cons p q ps qs h t ih =>
  obtain ⟨h1,h2⟩:=h;rw [List.filter_cons,List.filter_cons]
  by_cases e:p.1=k
  ·have a:¬ decide (p.1≠k)=true:=by simp [e]
   have b:¬ decide (q.1≠k)=true:=by simp [h1.symm.trans e]
   rw [A0e a,A0e b];exact ih
  ·have e':¬ q.1=k:=fun z=>e (h1.trans z);have a:decide (p.1≠k)=true:=by simp [e]
   have b:decide (q.1≠k)=true:=by simp [e']
   rw [A0i a,A0i b];exact .cons ⟨h1,h2⟩ ih
theorem KV.length {kvs:List (κ×V)}{vs:List (κ×Value)} (r:KV kvs vs):kvs.length=vs.length:=A4f r
theorem Cy (kvs:List (κ×V)) (k:κ):(jj kvs k).length<=kvs.length:=A0K _ _
end
theorem nO {k:Key} (r:RelV (kV k) u):(bQ P w).is k u=true:=by
 cases k with
 | inl i=>obtain ⟨t,e⟩:=(show ∃ t,u=Value.int i t from r);subst e;exact Bo P w i t
 | inr x=>obtain ⟨t,e⟩:=(show ∃ t,u=Value.str x t from r);subst e;exact Bp P w x t
theorem xr:∀ {ks:List Key}{us:List Value},Vals (ks.map kV) us->ItemsAre (bQ P w) ks us
 | [],_,r=>by rw [A3V] at r;cases r;exact .nil
 | k::ks,_,r=>by
  rw [A0h] at r;cases r with
  | cons h t=>exact .cons (nO h) (xr t)
abbrev KT (H:Hp):List (List Key×V)->List 0x88->Prop:=Paired fun p q=>p.1=q.1/\H q.2.1=some (.tup (p.1.map kV))/\RelV p.2 q.2.2
theorem KT.val {kvs:List (List Key×V)}{xs:List 0x88} (r:KT H kvs xs) (k:List Key):jA (bH kvs k) ((atKey xs k).map (·.2)):=by
 induction r with
 | nil=>exact True.intro
 | @cons p q ps qs h t ih =>
  obtain ⟨h1,_,h2⟩:=h
  by_cases e:p.1=k
  ·have e':q.1=k:=h1.symm.trans e;have b:atKey (q::qs) k=some q.2:=by simp [atKey,A2s,e']
   rw [fB e,b];exact h2
  ·have e':¬ q.1=k:=fun z=>e (h1.trans z);have b:atKey (q::qs) k=atKey qs k:=by simp [atKey,A2s,e']
   rw [dO e,b];exact ih
theorem KT.repl {kvs:List (List Key×V)}{xs:List 0x88} (r:KT H kvs xs) (k:List Key)  (ry:RelV y u) :
  KT H (kvs.map fun kv=>if kv.1=k then (kv.1,y) else kv) (xs.map (putAt k u)):=by
 induction r with
 | nil=>exact .nil
 | @cons p q ps qs h t ih =>
  rw [A0h,A0h];refine .cons ?_ ih;obtain ⟨h1,h2,h3⟩:=h;unfold putAt
  by_cases e:p.1=k
  ·rw [A0i e,A0i (h1.symm.trans e)];exact ⟨h1,h2,ry⟩
  ·rw [A0e e,A0e (fun z=>e (h1.trans z))];exact ⟨h1,h2,h3⟩
theorem KT.put {kvs:List (List Key×V)}{xs:List 0x88} (r:KT H kvs xs) (k:List Key)  (hb:H b=some (.tup (k.map kV))) (ry:RelV y u) :
  KT H (putK kvs k y) (storedH xs k b u):=by
 have e:(kvs.any fun kv=>decide (kv.1=k))=(atKey xs k).isSome:=by
  rw [lO,(r.val k).j9,A4X]
 unfold putK storedH;rw [e]
 by_cases q:(atKey xs k).isSome=true
 ·rw [A0i q,A0i q];exact r.repl k ry
 ·rw [A0e q,A0e q];exact Paired.snoc r ⟨rfl,hb,ry⟩
theorem KT.keeps {kvs:List (List Key×V)}{xs:List 0x88} (r:KT H kvs xs) (ht:∀ b ys,H b=some (.tup ys)->H' b=some (.tup ys)):KT H' kvs xs :=
 Paired.Ou r fun _ _ z=>⟨z.1,ht _ _ z.2.1,z.2.2⟩
theorem Yz {u:HO} (ok:oE P w H h) (e:Rd H a u):cJ P w H h a u:=e.ok ok
theorem sG (ok:oE P w H h) (e:Rd H a 0x15):kvs.length<=sizeLine/\0x74=false/\∃ vs,KV kvs vs/\h.DictOf (bQ P w) a vs :=
 show cJ P w H h a 0x15 from Yz ok e
theorem oU (ok:oE P w H h) (e:H a=some 0x15):kvs.length<=sizeLine/\0x74=false/\∃ vs,KV kvs vs/\h.DictOf (bQ P w) a vs:=sG ok (.inl e)
theorem pC {ks:List Key} (ok:oE P w H h) (e:H a=some (.tup (ks.map kV))):(tupleKind (bQ P w)).is h ks a:=by
 obtain ⟨_,its,r,o,h1,h2,n,h3⟩:=(show cJ P w H h a (.tup (ks.map kV)) from ok a _ e)
 exact ⟨o,its.toArray,n,h1,h2,h3,by simpa using xr r⟩
theorem sH {kvs:List (List Key×V)} (ok:oE P w H h) (e:Rd H a (.dT kvs)):kvs.length<=sizeLine/\0x74=false /\
  ∃ xs,KT H kvs xs/\h.DictOfH (tupleKind (bQ P w)) a xs:=by
 obtain ⟨z,y,xs,r,o,es,ep,h1,h2,h3,h4,h5⟩:=(show cJ P w H h a (.dT kvs) from Yz ok e)
 refine ⟨z,y,xs,r,o,es,ep,h1,h2,h3,h4,fun x hx=>?_,h5⟩;have all:∀ {l:List (List Key×V)}{m:List 0x88},KT H l m->∀ x∈m,(tupleKind (bQ P w)).is h x.1 x.2.1:=by
  intro l m q
  induction q with
  | nil=>intro x hx;exact nomatch hx
  | @cons p q ps qs hq t ih =>
   intro x hx;rcases A0d.mp hx with e | hx
   ·subst e;exact pC ok (by rw [<- hq.1];exact hq.2.1)
   ·exact ih x hx
 exact all r x hx
theorem a1J {kvs:List (List Key×V)} (ok:oE P w H h) (e:H a=some (.dT kvs)):kvs.length<=sizeLine/\0x74=false /\
  ∃ xs,KT H kvs xs/\h.DictOfH (tupleKind (bQ P w)) a xs:=sH ok (.inl e)
def dW (H:Hp) (a:Addr) (y:V) (r:Option V):Prop :=
 (∃ kvs k,Rd H a 0x15/\y=kV k/\r=bH kvs k)\/∃ kvs k b,Rd H a (.dT kvs)/\y=.ref b/\H b=some (.tup (k.map kV))/\r=bH kvs k
def jc (H:Hp) (a:Addr) (y v:V) (H':Hp):Prop :=
 (∃ kvs k,H a=some 0x15/\y=kV k/\kvs.length<sizeLine/\H'=upd H a (.dK (putK kvs k v))) \/
 ∃ kvs k b,H a=some (.dT kvs)/\y=.ref b/\H b=some (.tup (k.map kV))/\kvs.length<sizeLine/\H'=upd H a (.dT (putK kvs k v))
theorem dW.k {k:Key} (e:H a=some 0x15):dW H a (kV k) (bH kvs k):=.inl ⟨kvs,k,.inl e,rfl,rfl⟩
theorem jc.k {k:Key} (e:H a=some 0x15) (hl:kvs.length<sizeLine):jc H a (kV k) v (upd H a (.dK (putK kvs k v))):=.inl ⟨kvs,k,e,rfl,hl,rfl⟩
section
variable {r:Value}{o:Option V}
theorem Inv.big (I:Inv X pins σ H s):sysModules<s.heap.objs.size:=by
 have h:mainGlobals<s.heap.objs.size:=(I.mod.glob.keeps I.bk).lt;exact Nat.lt_trans 0x5 h
theorem xu (hu:A.units+1<cLine) (I:Inv X pins σ H s) (g:dW H a y (some v)) (ry:RelV y u) (h:∀ w' s',Inv X pins σ H s'->RelV v w'->Q w' s') :
  wpAny 0x9 A (getItem 0x3C u) Q E s:=by
 rcases g with ⟨kvs,k,e,ey,l⟩ | ⟨kvs,k,b,e,ey,eb,l⟩
 ·subst ey;obtain ⟨z,hd,vs,rel,dd⟩:=sG I.hok e;obtain ⟨w',hw,cO⟩:=jA.some_of (v:=v) (o:=valueAt vs k) (by rw [l];exact rel.val k);exact wpAny_getItem_of (nO ry) dd.mapOf hw (h w' _ (I.tok _) cO)
 ·subst ey;cases 0x8A
  obtain ⟨z,hd,xs,rel,dd⟩:=sH I.hok e;obtain ⟨w',hw,cO⟩:=jA.some_of (v:=v) (o:=(atKey xs k).map (·.2)) (by rw [l];exact rel.val k);obtain ⟨p,hp,hp2⟩:=A0v.mp hw;refine wpAny_getItem_heap (A2J hu) (pC I.hok eb) dd hp ?_;rw [hp2];exact h w' _ (I.tok _) cO
theorem d_in (hu:A.units+1<cLine) (I:Inv X pins σ H s) (g:dW H a y o) (ry:RelV y u) (h:∀ s',Inv X pins σ H s'->Q (.bool o.isSome) s') :
  wpAny 0x9 A (compareOp .In u 0x3C) Q E s:=by
 rcases g with ⟨kvs,k,e,ey,l⟩ | ⟨kvs,k,b,e,ey,eb,l⟩
 ·subst ey;obtain ⟨z,hd,vs,rel,dd⟩:=sG I.hok e;refine wpAny_in_of (nO ry) hd dd.mapOf ?_;rw [<- (rel.val k).j9,<- l];exact h _ (I.tok _)
 ·subst ey;cases 0x8A
  obtain ⟨z,hd,xs,rel,dd⟩:=sH I.hok e;refine wpAny_in_heap (A2J hu) (pC I.hok eb) hd dd ?_;have q:=(rel.val k).j9;rw [A4X] at q;rw [<- q,<- l];exact h _ (I.tok _)
theorem Wa (hu:A.units+1<cLine) (I:Inv X pins σ H s) (g:dW H a y o) (ry:RelV y u) (h:∀ s',Inv X pins σ H s'->Q (.bool (!o.isSome)) s') :
  wpAny 0x9 A (compareOp .NotIn u 0x3C) Q E s:=by
 rcases g with ⟨kvs,k,e,ey,l⟩ | ⟨kvs,k,b,e,ey,eb,l⟩
 ·subst ey;obtain ⟨z,hd,vs,rel,dd⟩:=sG I.hok e;refine wpAny_notIn_of (nO ry) hd dd.mapOf ?_;rw [<- (rel.val k).j9,<- l];exact h _ (I.tok _)
 ·subst ey;cases 0x8A
  obtain ⟨z,hd,xs,rel,dd⟩:=sH I.hok e;refine wpAny_notIn_heap (A2J hu) (pC I.hok eb) hd dd ?_;have q:=(rel.val k).j9;rw [A4X] at q;rw [<- q,<- l];exact h _ (I.tok _)
theorem jf {ob:HO} (I:Inv X pins σ H s) (mu:Mut (H a)) (hs:Heap.SameBut a s.heap h') (he:∃ q,h'.get? a=some q) (new:cJ X.prog X.w (upd H a ob) h' a ob) :
  Inv X pins σ (upd H a ob) { s with heap:=h',toks:=t' } :=
 I.write (x:=a) (e:=a) mu 0x51 (fun b q hb z=>(hs.2 b hb).trans z) he new
theorem uK {vs:List (Key×Value)} (z:kvs.length<=sizeLine) (hd:0x74=false) (rel:KV kvs vs) (dd:h'.DictOf (bQ P w) a vs) :
  cJ P w H' h' a 0x15:=⟨z,hd,vs,rel,dd⟩
theorem xG {Q:Unit->Shared->Prop} (hu:A.units+1<cLine) (I:Inv X pins σ H s) (g:jc H a y v H') (ry:RelV y u) (rv:RelV v r) (h:∀ s',Inv X pins σ H' s'->Q () s') :
  wpAny 0x9 A (setItem 0x3C u r) Q E s:=by
 rcases g with ⟨kvs,k,e,ey,l,eH⟩ | ⟨kvs,k,b,e,ey,eb,l,eH⟩
 ·subst ey eH;obtain ⟨z,hd,vs,rel,dd⟩:=oU I.hok e;have hz:vs.length<=sizeLine:=by rw [<- rel.length];exact z
  have hl:(putK kvs k v).length<=sizeLine:=by have:=fO kvs k v;lia
  refine wpAny_setItem_pairs (hsz:=hz) (nO ry) dd fun h' sI hs=>h _ ?_;have he:∃ q,h'.get? a=some q:=let ⟨q,_,_,hq,_⟩:=sI;⟨q,hq⟩
  exact jf I 0x57 hs he (uK hl hd (rel.put k rv) sI)
 ·subst ey eH;cases 0x8A
  obtain ⟨z,hd,xs,rel,dd⟩:=a1J I.hok e;have hz:xs.length<=sizeLine:=by rw [<- A4f rel];exact z
  have hl:(putK kvs k v).length<=sizeLine:=by have:=fO kvs k v;lia
  refine wpAny_setItem_heap (hsz:=hz) (A2J hu) (pC I.hok eb) dd fun h' sI hs=>h _ ?_;obtain ⟨q,es,ep,hq,h2,h3,h4,_,h5⟩:=sI;refine jf I 0x57 hs ⟨q,hq⟩ ⟨hl,hd,_,(rel.put k eb rv).keeps fun c ys ec=>?_,q,es,ep,hq,h2,h3,h4,h5⟩;rw [ak (aZ ec e 0x53)]
  exact ec
end
section
variable {k:Key}
theorem Ml {Q:Unit->Shared->Prop} (I:Inv X pins σ H s) (e:H a=some 0x15) (ry:RelV (kV k) u) (l:(bH kvs k).isSome=true) (h:∀ s',Inv X pins σ (upd H a (.dK (jj kvs k))) s'->Q () s') :
  wpAny 0x9 A (delItem 0x3C u) Q E s:=by
 obtain ⟨z,hd,vs,rel,dd⟩:=oU I.hok e;refine wpAny_delItem_slot dd.typeIs 0x5 PySem.F.slot_dict_delitem
  (A2w PySem.F.slot_dict_delitem dd.typeIs PySem.F.entry_dict_delitem (PySem.F.args_dict_delitem_2 _ _) (meets_dict_delitem_pairs 0x36 a (nO ry)) ⟨vs,dd,by rw [<- rel.length];exact z,by rw [<- (rel.val k).j9];exact l,fun h' sI hs=>h _ ?_⟩)
 have he:∃ q,h'.get? a=some q:=let ⟨q,_,_,hq,_⟩:=sI;⟨q,hq⟩
 exact jf I 0x57 hs he (uK (A0O (Cy kvs k) z) hd (rel.drop k) sI)
theorem a1K {more:List Value} (I:Inv X pins σ H s) (e:H a=some 0x15) (ry:RelV (kV k) u) (l:bH kvs k=some v) (hm:more=[]\/∃ x,more=[x])
  (h:∀ w' s',Inv X pins σ (upd H a (.dK (jj kvs k))) s'->RelV v w'->Q w' s'):wpAny 0x9 A (call (.builtin "dict.pop") (.ref a::u::more)) Q E s:=by
 obtain ⟨z,hd,vs,rel,dd⟩:=oU I.hok e;obtain ⟨w',hw,cO⟩:=jA.some_of (v:=v) (o:=valueAt vs k) (by rw [<- l];exact rel.val k);have hp:(keyPart u).isSome=true:=by
  cases k with
  | inl i=>obtain ⟨t,q⟩:=(show ∃ t,u=Value.int i t from ry);subst q;rfl
  | inr x=>obtain ⟨t,q⟩:=(show ∃ t,u=Value.str x t from ry);subst q;rfl
 have ha:argsOk "dict.pop" ⟨.ref a::u::more,[]⟩:=by
  rcases hm with q | ⟨x,q⟩
  ·subst q;exact PySem.F.args_dict_pop_2 _ _
  ·subst q;exact PySem.F.args_dict_pop_3 _ _ _
 refine A2w PySem.F.slot_dict_pop dd.typeIs PySem.F.entry_dict_pop ha (meets_dict_pop_there 0x36 a (nO ry) more hm hp)
  ⟨vs,w',dd,by rw [<- rel.length];exact z,hw,fun h' sI hs=>h w' _ ?_ cO⟩
 have he:∃ q,h'.get? a=some q:=let ⟨q,_,_,hq,_⟩:=sI;⟨q,hq⟩
 exact jf I 0x57 hs he (uK (A0O (Cy kvs k) z) hd (rel.drop k) sI)
end
def NoSl (i:Expr):Prop:=∀ ov iv,subscripted i false ov iv=operate [ov,iv] (getItem ov iv)
theorem Wb {slice:Expr}{id:String}
  (hl:typeLookup (.type T) "__getitem__"=pure (some (.builtin id))) (hs:NoSl slice)
  (h:wpAny 0xC A (eval value env) (fun o s₁=>wpAny 0xC A (eval slice env) (fun i s₂=>s₂.TypeIs o T/\wpAny 0xC A (getItem o i) Q E s₂) E s₁) E s) :
  wpAny 0xC A (eval (.Subscript value slice pos) env) Q E s:=by
 refine Subscript_ (A1b h (fun o s₁ h₁=>A1b h₁ (fun i s₂ h₂=>?_) fun _ _ x=>x) fun _ _ x=>x);obtain ⟨hT,h₂⟩:=h₂;unfold subscriptTail;refine A0a ?_;rw [getitemInPython_of_ne hT.not_modules];refine A0a (wpAny_specialOf hT hl ?_);have fin:wpAny 0xC A (subscripted slice false o i) (fun r s₃=>wpAny 0xC A (letTemporaryGo value o r >>= fun _=>pure r) Q E s₃) E s₂:=by
  rw [hs o i];exact wpAny_operating (A1b h₂ (fun r s₃ h₃=>A0a (wpAny_letTemporaryGo (wpAny_pure h₃))) fun _ _ x=>x)
 first
  | exact wpAny_pure (A0a fin)
  | exact A0a (wpAny_pure (A0a fin))
  | exact A0a fin
theorem Cz {o:Option V} (I:Inv X pins σ H s) (g:dW H a y o):s.TypeIs 0x3C "dict":=by
 rcases g with ⟨kvs,k,e,_,_⟩ | ⟨kvs,k,b,e,_,_,_⟩
 ·obtain ⟨_,_,vs,_,dd⟩:=sG I.hok e;exact dd.typeIs
 ·obtain ⟨_,_,xs,_,dd⟩:=sH I.hok e;exact dd.typeIs
inductive Jv (Q:VK) (x y:V) (H2:Hp):Prop
 | mk (a:Addr) (v:V) (_:x=.ref a) (_:dW H2 a y (some v)) (_:Q v H2):Jv Q x y H2
def a1L (td ty:TE):TE:=fun σ H Q=>td σ H fun x H1=>ty σ H1 fun y H2=>Jv Q x y H2
inductive Qw (Q:VK) (y x:V) (H2:Hp):Prop
 | mk (a:Addr) (o:Option V) (_:x=.ref a) (_:dW H2 a y o) (_:Q (.bl o.isSome) H2):Qw Q y x H2
def tDIn (ty td:TE):TE:=fun σ H Q=>ty σ H fun y H1=>td σ H1 fun x H2=>Qw Q y x H2
inductive xH (Q:VK) (y x:V) (H2:Hp):Prop
 | mk (a:Addr) (o:Option V) (_:x=.ref a) (_:dW H2 a y o) (_:Q (.bl (!o.isSome)) H2):xH Q y x H2
def Wc (ty td:TE):TE:=fun σ H Q=>ty σ H fun y H1=>td σ H1 fun x H2=>xH Q y x H2
inductive Jw (D:Ends) (σ:L2.St) (v x y:V) (H3:Hp):Prop
 | mk (a:Addr) (H4:Hp) (_:x=.ref a) (_:jc H3 a y v H4) (_:D.nx σ H4):Jw D σ v x y H3
def a1M (td ty tv:TE):TS:=fun D σ H=>tv σ H fun v H1=>td σ H1 fun x H2=>ty σ H2 fun y H3=>Jw D σ v x y H3
inductive Jx (tv:TE) (rd:V->V->Hp->VK->Prop) (D:Ends) (σ:L2.St) (x y:V) (H2:Hp):Prop
 | mk (a:Addr) (v:V) (_:x=.ref a) (_:dW H2 a y (some v)) (_:tv σ H2 fun y2 H3=>rd v y2 H3 fun z H4=>∃ H5,jc H4 a y z H5/\D.nx σ H5):Jx tv rd D σ x y H2
def a1N (td ty tv:TE) (rd:V->V->Hp->VK->Prop):TS:=fun D σ H=>td σ H fun x H1=>ty σ H1 fun y H2=>Jx tv rd D σ x y H2
inductive Jy (D:Ends) (σ:L2.St) (x y:V) (H2:Hp):Prop
 | mk (a:Addr) (kvs:List 0x18) (k:L2.Key) (_:x=.ref a) (_:H2 a=some 0x15) (_:y=kV k) (_:(bH kvs k).isSome=true) (_:D.nx σ (upd H2 a (.dK (jj kvs k)))):Jy D σ x y H2
def a1O (td ty:TE):TS:=fun D σ H=>td σ H fun x H1=>ty σ H1 fun y H2=>Jy D σ x y H2
section
variable {o i:Expr}{tpos:Pos}
theorem bf (hu:X.A.units+1<cLine) (ho:PE X o td) (hi:PE X i ty) (hs:NoSl i):PE X (.Subscript o i pos) (a1L td ty):=by
 intro pins s σ H Q I h;refine Wb PySem.F.slot_dict_getitem.lookup hs (cH 0x5E fun u s1 ⟨x,H1,I1,rx,q1⟩=>cH (hi pins s1 σ H1 _ I1 q1) fun iv s2 zq=>?_);obtain ⟨y,H2,I2,ry,a,v,ex,g,q2⟩:=zq;subst ex;obtain rfl:u=Value.ref a:=rx;exact ⟨Cz I2 g,xu hu I2 g ry fun w' s3 I3 cO=>⟨v,H2,I3,cO,q2⟩⟩
theorem yR (hu:X.A.units+1<cLine) (hi:PE X i ty) (ho:PE X o td):PC X .In i o (tDIn ty td):=by
 intro pins s σ H Q I h;refine cH (hi pins s σ H _ I h) fun iv s1 ⟨y,H1,I1,ry,q1⟩=>cH (ho pins s1 σ H1 _ I1 q1) fun u s2 zq=>?_;obtain ⟨x,H2,I2,rx,a,ov,ex,g,q2⟩:=zq;subst ex;obtain rfl:u=Value.ref a:=rx;exact d_in hu I2 g ry fun s3 I3=>⟨.bl ov.isSome,H2,I3,rfl,q2⟩
theorem Mp (hu:X.A.units+1<cLine) (hi:PE X i ty) (ho:PE X o td):PC X .NotIn i o (Wc ty td):=by
 intro pins s σ H Q I h;refine cH (hi pins s σ H _ I h) fun iv s1 ⟨y,H1,I1,ry,q1⟩=>cH (ho pins s1 σ H1 _ I1 q1) fun u s2 zq=>?_;obtain ⟨x,H2,I2,rx,a,ov,ex,g,q2⟩:=zq;subst ex;obtain rfl:u=Value.ref a:=rx;exact Wa hu I2 g ry fun s3 I3=>⟨.bl (!ov.isSome),H2,I3,rfl,q2⟩
theorem dR (hu:X.A.units+1<cLine) (ho:PE X o td) (hi:PE X i ty) (hv:PE X value tv) (hs:swapsWith value (some (.Subscript o i pos')) pos.line X.env=pure false) :
  PS X (.Assign [.Subscript o i pos'] value pos) (a1M td ty tv):=by
 intro pins s σ H D I h;refine wpAny_Assign_Subscript (cH (hv pins s σ H _ I h) fun r s1 ⟨v,H1,I1,rv,q1⟩=>cH (ho pins s1 σ H1 _ I1 q1) fun u s2 ⟨x,H2,I2,rx,q2⟩=>cH (hi pins s2 σ H2 _ I2 q2) fun iv s3 ⟨y,H3,I3,ry,a,H4,ex,g,q3⟩=>?_) hs;subst ex;obtain rfl:u=Value.ref a:=rx;exact xG hu I3 g ry rv fun s4 I4=>⟨σ,H4,I4,q3⟩
theorem tu {op:Operator}{rd:V->V->Hp->VK->Prop} (hu:X.A.units+1<cLine) (ho:PE X o td) (hi:PE X i ty) (hv:PE X value tv) (hop:Zv X op rd)
  (ha:∀ ov iv new,augStore i ov iv new=(do holding [new,ov,iv] (setItem ov iv new);release [new,ov,iv] [];pure .next)):PS X (.AugAssign (.Subscript o i tpos) op value pos) (a1N td ty tv rd):=by
 intro pins s σ H D I h;refine wpAny_AugAssign_SubscriptAny (cH 0x5E fun u s1 ⟨x,H1,I1,rx,q1⟩=>cH (hi pins s1 σ H1 _ I1 q1) fun iv s2 ⟨y,H2,I2,ry,a,v,ex,g,q2⟩=>?_) ha;subst ex;obtain rfl:u=Value.ref a:=rx;refine xu hu I2 g ry fun w' s3 I3 cO=>cH (hv pins s3 σ H2 _ I3 q2) fun w2 s4 ⟨y2,H3,I4,ry2,q3⟩=>cH (hop pins s4 σ H3 v y2 w' w2 _ I4 cO ry2 q3) fun w3 s5 zq=>?_;obtain ⟨z,H4,I5,rz,H5,g5,q4⟩:=zq;exact xG hu I5 g5 ry rz fun s6 I6=>⟨σ,H5,I6,q4⟩
theorem qb (ho:PE X o td) (hi:PE X i ty):PS X (.Delete [.Subscript o i tpos] pos) (a1O td ty):=by
 intro pins s σ H D I h;refine wpAny_Delete (wpAny_deleteEach_cons (wpAny_delete_Subscript (cH 0x5E fun u s1 ⟨x,H1,I1,rx,q1⟩=>cH (hi pins s1 σ H1 _ I1 q1) fun iv s2 zq=>?_)));obtain ⟨y,H2,I2,ry,a,kvs,k,ex,e,ey,l,q2⟩:=zq;subst ex ey;obtain rfl:u=Value.ref a:=rx;exact Ml I2 e ry l fun s3 I3=>wpAny_deleteEach_nil ⟨σ,_,I3,q2⟩
end
theorem CG (h:Heap) (hb:sysModules<h.objs.size):cJ P w H (h.push { cls:=.type "dict",data:=.dict #[] }) h.objs.size (.dK []) :=
 ⟨A0X _,A1J.mpr (A0m (A0I hb)),[],.nil,Heap.DictOf.new h⟩
def FZ:TE:=fun _ H Q=>∀ p,H p=none->Q 0x48 (upd H p (.dK []))
theorem jk:PE X (.Dict [] [] pos) FZ:=fun pins s σ H Q I h =>
 wpAny_Dict_empty ⟨.ref s.heap.objs.size,_,I.laid (a:=s.heap.objs.size) (o:=.dK []) (t':=s.toks) (fun _ _ q=>A0b _ q) 0x2D (CG s.heap I.big),rfl,h _ 0x3D⟩
def pD:List (TE×TE)->St->Hp->(List (V×V)->Hp->Prop)->Prop
 | [],_,H,Q=>Q [] H
 | (tk,tv)::r,σ,H,Q=>tk σ H fun x H1=>tv σ H1 fun y H2=>pD r σ H2 fun ps H3=>Q ((x,y)::ps) H3
abbrev VV:List (V×V)->List (Value×Value)->Prop:=Paired fun p q=>RelV p.1 q.1/\RelV p.2 q.2
def PPs (X:Cx) (pos:Pos) (keys:List (Option Expr)) (values:List Expr) (Ol:List (TE×TE)):Prop :=
 ∀ (pins:List 0x16) (s:Shared) (σ:St) (H:Hp) (Q:List (V×V)->Hp->Prop),Inv X pins σ H s->pD Ol σ H Q ->
  wpAny 0x9 X.A (evalPairs (pairTrees keys values X.env pos)) (fun vs s'=>∃ ps H',Inv X pins σ H' s'/\VV ps vs/\Q ps H') X.xe s
theorem Jz:PPs X pos [] [] []:=fun pins s σ H Q I h=>pairTrees_nil_walk ⟨[],H,I,.nil,h⟩
theorem iD {k v:Expr}{ks:List (Option Expr)}{vs:List Expr}{tk:TE} (hk:PE X k tk) (hv:PE X v tv) (hr:PPs X pos ks vs Ol) :
  PPs X pos (some k::ks) (v::vs) ((tk,tv)::Ol):=fun pins s σ H Q I h =>
 pairTrees_cons_walk (cH (hk pins s σ H _ I h) fun u s1 ⟨x,H1,I1,rx,q1⟩=>cH (hv pins s1 σ H1 _ I1 q1) fun w2 s2 ⟨y,H2,I2,ry,q2⟩ =>
  cH (hr pins s2 σ H2 _ I2 q2) fun ws s3 ⟨ps,H3,I3,rel,q3⟩=>⟨(x,y)::ps,H3,I3,.cons ⟨rx,ry⟩ rel,q3⟩)
def dw (kvs more:List 0x2C):List 0x2C:=more.foldl (fun acc kv=>putK acc kv.1 kv.2) kvs
theorem KV.merge:∀ {more:List 0x2C}{rs:List (Key×Value)}{kvs:List 0x2C}{vs:List (Key×Value)},KV more rs->KV kvs vs->KV (dw kvs more) (merged vs rs):=by
 intro more rs kvs vs r;unfold KV at r
 induction r generalizing kvs vs with
 | nil=>intro q;exact q
 | @cons p q ps qs h t ih =>
  intro r0;have e:KV (putK kvs p.1 p.2) (stored vs q.1 q.2):=by
   have:=r0.put p.1 h.2;rw [<- h.1];exact this
  exact ih e
theorem lq:∀ (more kvs:List 0x2C),(dw kvs more).length<=kvs.length+more.length
 | [],kvs=>by show kvs.length<=kvs.length+0;lia
 | p::r,kvs=>by
  have h1:=lq r (putK kvs p.1 p.2);have h2:=fO kvs p.1 p.2
  show (dw (putK kvs p.1 p.2) r).length<=_
  rw [oX];lia
theorem uL {P:Program}{w:World}:∀ {kvs:List 0x2C}{ws:List (Value×Value)},VV (kvs.map fun kv=>(kV kv.1,kv.2)) ws->∃ rs,Carries (bQ P w) ws rs/\KV kvs rs
 | [],_,r=>by rw [A3V] at r;cases r;exact ⟨[],True.intro,.nil⟩
 | p::kvs,_,r=>by
  rw [A0h] at r;cases r with
  | @cons a b as bs h t =>
   obtain ⟨rs,c,q⟩:=uL (P:=P) (w:=w) t;obtain ⟨b1,b2⟩:=b;exact ⟨(p.1,b2)::rs,⟨nO h.1,rfl,c⟩,.cons ⟨rfl,h.2⟩ q⟩
def oV (Ol:List (TE×TE)):TE:=fun σ H Q=>∀ p,H p=none->pD Ol σ (upd H p (.dK [])) fun ps H2=>H2 p=some (.dK [])/\∃ kvs:List 0x2C,ps=kvs.map (fun kv=>(kV kv.1,kv.2))/\kvs.length<=15/\Q 0x48 (upd H2 p (.dK (dw [] kvs)))
theorem JC {keys:List (Option Expr)}{values:List Expr} (h:PPs X pos keys values Ol) (hall:keys.all (·.isSome)=true) (hl:keys.length=values.length) (h0:keys≠[])
  (h15:keys.length<=15):PE X (.Dict keys values pos) (oV Ol):=by
 intro pins s σ H Q I q;have hn:=I.hok.fresh (A0f s.heap.objs.size);have I1:=I.laid (a:=s.heap.objs.size) (o:=.dK []) (h':=s.heap.push { cls:=.type "dict",data:=.dict #[] }) (t':=s.toks) (fun _ _ q=>A0b _ q) 0x2D (CG s.heap I.big);refine wpAny_Dict_walk (knd:=bQ X.prog X.w) hall hl h0 h15 (cH (h pins _ σ _ _ I1 (q _ hn)) fun ws s2 zq=>?_);obtain ⟨ps,H2,I2,rel,e,kvs,ep,lk,q2⟩:=zq;subst ep;obtain ⟨rs,c,rk⟩:=uL (P:=X.prog) (w:=X.w) rel;obtain ⟨z,hd,vs0,r0,dd⟩:=oU I2.hok e;cases r0;refine ⟨rs,c,dd,fun h' sI hs=>⟨.ref s.heap.objs.size,_,?_,rfl,q2⟩⟩;have hz:(dw [] kvs).length<=sizeLine:=by
  have h1:=lq kvs [];rw [A4p] at h1;rw [A1e];lia
 have he:∃ q,h'.get? s.heap.objs.size=some q:=let ⟨q,_,_,hq,_⟩:=sI;⟨q,hq⟩
 exact jf I2 0x57 hs he (uK hz hd (rk.merge .nil) sI)
structure M1 (X:Cx) (o:Expr) (m:Str) (apos:Pos) (e:Expr) (cpos:Pos):Prop where
 base:attributeBase o m X.env (eval o X.env)=eval o X.env
 few:((backTo cpos (starEach [e] X.env)).all (fun x=>!x.1)&&(backToKw cpos (keywordEach [] X.env)).all (fun x=>x.1.isSome)
  &&decide (([e]:List Expr).length+([]:List Keyword).length+(if ([]:List Keyword).isEmpty then 0 else 1)<30))=true
 line:0x64=true
 trees:backTo cpos (starEach [e] X.env)=[0x3E]
structure M2 (X:Cx) (o:Expr) (m:Str) (apos:Pos) (e f:Expr) (cpos:Pos):Prop where
 base:attributeBase o m X.env (eval o X.env)=eval o X.env
 few:((backTo cpos (starEach [e,f] X.env)).all (fun x=>!x.1)&&(backToKw cpos (keywordEach [] X.env)).all (fun x=>x.1.isSome)
  &&decide (([e,f]:List Expr).length+([]:List Keyword).length+(if ([]:List Keyword).isEmpty then 0 else 1)<30))=true
 line:0x64=true
 trees:backTo cpos (starEach [e,f] X.env)=[0x3E,(false,eval f X.env)]
def IsD (H:Hp) (a:Addr):Prop:=(∃ kvs,Rd H a 0x15)\/∃ kvs,Rd H a (.dT kvs)
theorem yS (I:Inv X pins σ H s) (d:IsD H a) :
  s.TypeIs 0x3C "dict"/\(∀ b,Value.ref a=.ref b->∃ ob,s.heap.get? b=some ob/\ob.dict=none)/\0x74=false:=by
 rcases d with ⟨kvs,e⟩ | ⟨kvs,e⟩
 ·obtain ⟨_,hd,vs,_,dd⟩:=sG I.hok e;refine ⟨dd.typeIs,fun b q=>?_,hd⟩;cases q;obtain ⟨ob,_,_,h1,h2,_⟩:=dd;exact ⟨ob,h1,h2.2.1⟩
 ·obtain ⟨_,hd,xs,_,dd⟩:=sH I.hok e;refine ⟨dd.typeIs,fun b q=>?_,hd⟩;cases q;obtain ⟨ob,_,_,h1,h2,_⟩:=dd;exact ⟨ob,h1,h2.2.1⟩
section
variable {d:V}{r:Value}{o:Option V}
theorem ZV (hu:A.units+1<cLine) (I:Inv X pins σ H s) (g:dW H a y o) (ry:RelV y u) (h:∀ w' s',Inv X pins σ H s'->RelV (o.getD .non) w'->Q w' s') :
  wpAny 0x9 A (call (.builtin "dict.get") [.ref a,u]) Q E s:=by
 rcases g with ⟨kvs,k,e,ey,l⟩ | ⟨kvs,k,b,e,ey,eb,l⟩
 ·subst ey;obtain ⟨z,hd,vs,rel,dd⟩:=sG I.hok e;refine A2w A2h dd.typeIs A3g (PySem.F.args_dict_get_2 _ _) (meets_dict_get 0x36 a (nO ry) hd) ⟨_,dd.mapOf,h _ _ (I.tok _) ?_⟩;rw [l];exact (rel.val k).getD rfl
 ·subst ey;cases 0x8A
  obtain ⟨z,hd,xs,rel,dd⟩:=sH I.hok e;refine A2w A2h dd.typeIs A3g (PySem.F.args_dict_get_2 _ _) (meetsH_dict_get (tupleKind 0x36) a b hd) ⟨A2J hu,k,xs,pC I.hok eb,dd,h _ _ (I.tok _) ?_⟩;rw [l];exact (rel.val k).getD rfl
theorem ZW (hu:A.units+1<cLine) (I:Inv X pins σ H s) (g:dW H a y o) (ry:RelV y u) (rd:RelV d r) (h:∀ w' s',Inv X pins σ H s'->RelV (o.getD d) w'->Q w' s') :
  wpAny 0x9 A (call (.builtin "dict.get") [.ref a,u,r]) Q E s:=by
 rcases g with ⟨kvs,k,e,ey,l⟩ | ⟨kvs,k,b,e,ey,eb,l⟩
 ·subst ey;obtain ⟨z,hd,vs,rel,dd⟩:=sG I.hok e;refine A2w A2h dd.typeIs A3g (PySem.F.args_dict_get_3 _ _ _) (meets_dict_get_default 0x36 a (nO ry) hd r) ⟨_,dd.mapOf,h _ _ (I.tok _) ?_⟩;rw [l];exact (rel.val k).getD rd
 ·subst ey;cases 0x8A
  obtain ⟨z,hd,xs,rel,dd⟩:=sH I.hok e;refine A2w A2h dd.typeIs A3g (PySem.F.args_dict_get_3 _ _ _) (meetsH_dict_get_default (tupleKind 0x36) a b hd r) ⟨A2J hu,k,xs,pC I.hok eb,dd,h _ _ (I.tok _) ?_⟩;rw [l];exact (rel.val k).getD rd
end
inductive CJ (ty:TE) (σ:L2.St) (Q:VK) (x:V) (H1:Hp):Prop
 | mk (a:Addr) (_:x=.ref a) (_:IsD H1 a) (_:ty σ H1 fun y H2=>∃ o,dW H2 a y o/\Q (o.getD .non) H2):CJ ty σ Q x H1
def ZX (td ty:TE):TE:=fun σ H Q=>td σ H fun x H1=>CJ ty σ Q x H1
inductive CN (ty tx:TE) (σ:L2.St) (Q:VK) (x:V) (H1:Hp):Prop
 | mk (a:Addr) (_:x=.ref a) (_:IsD H1 a) (_:ty σ H1 fun y H2=>tx σ H2 fun z H3=>∃ o,dW H3 a y o/\Q (o.getD z) H3):CN ty tx σ Q x H1
def a0a (td ty tx:TE):TE:=fun σ H Q=>td σ H fun x H1=>CN ty tx σ Q x H1
inductive CP (ty:TE) (σ:L2.St) (Q:VK) (x:V) (H1:Hp):Prop
 | mk (a:Addr) (_:x=.ref a) (_:IsD H1 a) (_:ty σ H1 fun y H2=>∃ kvs k v,H2 a=some 0x15/\y=kV k/\bH kvs k=some v/\Q v (upd H2 a (.dK (jj kvs k)))):CP ty σ Q x H1
def a0b (td ty:TE):TE:=fun σ H Q=>td σ H fun x H1=>CP ty σ Q x H1
section
variable {o f:Expr}{tx:TE}
theorem CQ (hu:X.A.units+1<cLine) (ho:PE X o td) (he:PE X e ty) (m:M1 X o "get" apos e cpos):PE X (.Call (.Attribute o "get" apos) [e] [] cpos) (ZX td ty):=by
 intro pins s σ H Q I h;refine A3p m.base m.few m.line A1L A2h PySem.F.type_dict_get (cH 0x5E fun u s1 zq=>?_);obtain ⟨x,H1,I1,rx,a,ex,d,q1⟩:=zq;subst ex;obtain rfl:u=Value.ref a:=rx;obtain ⟨t1,t2,_⟩:=yS I1 d;refine ⟨t1,t2,?_⟩;rw [m.trees];refine A1k rfl (A2n (A1U (cH (he pins s1 σ H1 _ I1 q1) fun iv s2 ⟨y,H2,I2,ry,ov,g,q2⟩=>A2N ?_)));exact ZV hu I2 g ry fun w' s3 I3 cO=>⟨_,H2,I3,cO,q2⟩
theorem Qx (hu:X.A.units+1<cLine) (ho:PE X o td) (he:PE X e ty) (hf:PE X f tx) (m:M2 X o "get" apos e f cpos):PE X (.Call (.Attribute o "get" apos) [e,f] [] cpos) (a0a td ty tx):=by
 intro pins s σ H Q I h;refine A3p m.base m.few m.line A1L A2h PySem.F.type_dict_get (cH 0x5E fun u s1 zq=>?_);obtain ⟨x,H1,I1,rx,a,ex,d,q1⟩:=zq;subst ex;obtain rfl:u=Value.ref a:=rx;obtain ⟨t1,t2,_⟩:=yS I1 d;refine ⟨t1,t2,?_⟩;rw [m.trees];refine A1k rfl (A2n (A1U (cH (he pins s1 σ H1 _ I1 q1) fun iv s2 ⟨y,H2,I2,ry,q2⟩ =>
  A1U (cH (hf pins s2 σ H2 _ I2 q2) fun fv s3 ⟨z,H3,I3,rz,ov,g,q3⟩=>A2N ?_))))
 exact ZW hu I3 g ry rz fun w' s4 I4 cO=>⟨_,H3,I4,cO,q3⟩
theorem qd (ho:PE X o td) (he:PE X e ty) (m:M1 X o "pop" apos e cpos):PE X (.Call (.Attribute o "pop" apos) [e] [] cpos) (a0b td ty):=by
 intro pins s σ H Q I h;refine A3p m.base m.few m.line A1L PySem.F.slot_dict_pop PySem.F.type_dict_pop (cH 0x5E fun u s1 zq=>?_);obtain ⟨x,H1,I1,rx,a,ex,d,q1⟩:=zq;subst ex;obtain rfl:u=Value.ref a:=rx;obtain ⟨t1,t2,_⟩:=yS I1 d;refine ⟨t1,t2,?_⟩;rw [m.trees];refine A1k rfl (A2n (A1U (cH (he pins s1 σ H1 _ I1 q1) fun iv s2 ⟨y,H2,I2,ry,kvs,k,v,ea,ey,l,q2⟩=>A2N ?_)));subst ey;exact a1K I2 ea ry l 0x51 fun w' s3 I3 cO=>⟨v,_,I3,cO,q2⟩
end
section
variable {a b:Expr}{ta:TA}{p:Pos}
end
def gF (P:Params):List DictEntry->List 0x81->Prop
 | [],[]=>True
 | e::r,(k,v)::q=>((∃ t,e.key=.str k t)/\e.hash=PyData.keyHash P k/\RelV v e.val)/\gF P r q
 | _,_=>False
theorem gF.lit {P:Params}:∀ {es:List DictEntry}{kvs:List 0x81},gF P es kvs->KeysLit P es
 | [],[],_=>trivial
 | e::r,(k,v)::q,⟨⟨⟨t,h1⟩,h2,_⟩,h⟩=>⟨⟨k,t,h1,h2⟩,h.lit⟩
theorem gF.rel {P:Params} (x:Str):∀ {es:List DictEntry}{kvs:List 0x81},gF P es kvs->jA (kvs.lookup x) ((es.find? fun e=>Value.isStrOf x e.key).map (·.val))
 | [],[],_=>trivial
 | e::r,(k,v)::q,⟨⟨⟨t,h1⟩,h2,h3⟩,h⟩=>by
  have hk:Value.isStrOf x e.key=(k==x):=by rw [h1];rfl
  by_cases hx:x=k
  ·subst hx;have:Value.isStrOf x e.key=true:=by rw [hk];simp
   rw [A2s,this,A1a];simp only [A3c];exact h3
  ·have h4:Value.isStrOf x e.key=false:=by rw [hk];simpa using fun z:k=x=>hx z.symm
   have h5:(x==k)=false:=by simpa using hx
   rw [A2s,h4,A1a,h5];exact h.rel x
structure KD (K:PySem.W.Frag) (P:Params) (a:Addr) (kvs:List 0x81):Prop where
 ex:∃ es n,K.lookup a=some ⟨.type "dict",none,.dict es n,#[]⟩/\gF P es.toList kvs
 lo:0x74=false
theorem KD.map {kvs:List 0x81} (d:KD K w.params a kvs)  (X:K.In h):∃ f,h.MapOf 0x20 a f/\∀ x,jA (kvs.lookup x) (f x):=by
 obtain ⟨es,n,hl,he⟩:=d.ex;refine ⟨_,mapOf_K X hl he.lit,fun x=>?_⟩;obtain ⟨l⟩:=es;have:=he.rel x;unfold findBy;rw [List.find?_toArray];exact this
inductive YB (K:W.Frag) (P:Params) (neg:Bool) (x y:V) (H:Hp) (Q:VK):Prop
 | mk (z:Str) (a:Addr) (kvs:List (Prod Str V)) (_:x=.str z) (_:y=.ref a) (_:KD K P a kvs) (_:Q (.bl (neg != (kvs.lookup z).isSome)) H):YB K P neg x y H Q
theorem JD:nA X (compareOp .In) (YB X.K X.w.params false):=by
 intro pins s σ H x y v u Q I rx ry h;obtain ⟨z,a,kvs,rfl,rfl,d,q⟩:=h;obtain ⟨t,rfl⟩:=rx;cases ry;obtain ⟨f,hm,hr⟩:=d.map (prog:=X.prog) I.oO;refine wpAny_in_of (A2V X.prog X.w z t) d.lo hm ?_;rw [<- (hr z).j9];exact ⟨.bl _,H,I.tok _,rfl,by simpa using q⟩
inductive YC (K:W.Frag) (P:Params) (x y:V) (H:Hp) (Q:VK):Prop
 | mk (a:Addr) (kvs:List (Prod Str V)) (z:Str) (v:V) (_:x=.ref a) (_:y=.str z) (_:KD K P a kvs) (_:kvs.lookup z=some v) (_:Q v H):YC K P x y H Q
theorem JF:IxR X (YC X.K X.w.params):=by
 intro value slice pins s σ H x y v u Q I rx ry h hs;obtain ⟨a,kvs,z,w',rfl,rfl,d,hl,q⟩:=h;cases rx;obtain ⟨t,rfl⟩:=ry;obtain ⟨f,hm,hr⟩:=d.map (prog:=X.prog) I.oO;obtain ⟨u',hu,ru⟩:=jA.some_of (v:=w') (o:=f z) (by rw [<- hl];exact hr z);exact tail_any hm.typeIs slot_dict_getitem.lookup (wpAny_getItem_of (A2V X.prog X.w z t) hm hu ⟨w',H,I.tok _,ru,q⟩) hs
end L2
namespace HT
open PySem PySem.Spec PyProof.Rows
theorem qe {items:Array Value}{lo:Option Int} (ht:IsTup s.heap t items) (hs:s.heap.IsSliceOf sl vl vu .none) (pl:IsPart vl lo) (pu:IsPart vu hi)
  (hw:eN items.size 0 lo=0/\eN items.size items.size hi=items.size) (h:Q 0x70 s):wpAny 0xC A (getItem 0x70 (.ref sl)) Q E s:=by
 obtain ⟨os,hos,hcs,hds⟩:=id hs;have hTs:s.TypeIs (.ref sl) "slice":=⟨os,hos,hcs⟩;unfold getItem
 try with_reducible refine A1T ?_
 first | refine A0a 0x13 | skip
 refine A0a (wpAny_sequenceKey ht.typeIs 0x5 ?_);refine A0a (A1c (name:=Str.ofString "__getitem__") ht.typeIs A1t
  (A0Z A1t ht.typeIs entry_tuple_getitem ?_ (args_tuple_getitem _ _)))
 show wpAny _ _ (Builtin.Tuple.tupleItemsOf 0x70 >>= _) _ _ s
 refine A0a (tupleItemsOf_ ht ?_);refine A0a (A4v hTs ?_);rw [A0i 0x5];refine A0a (lM hs pl pu ?_);have hyes:(((eN items.size 0 lo:Nat):Int)==0&&(1:Int)==1&&0x24==items.size)=true:=by
  rw [hw.1,hw.2];simp
 show wpAny _ _ (if (((eN items.size 0 lo:Nat):Int)==0&&(1:Int)==1&&0x24==items.size)=true then _ else _) _ _ s
 rw [A0i hyes];unfold Builtin.Tuple.tupleIsExact;refine A0a (A0a (A4v ht.typeIs 0x13));rw [A0i 0x5];exact A0a (A3q (wpAny_pure ⟨_,rfl,wpAny_pure h⟩))
end HT
namespace L2
open PySem PySem.Spec PyProof.Rows PySem.W
theorem Qy {lo:Option Int} (h:HT.eN xs.length 0 lo=0/\HT.eN xs.length xs.length hi=xs.length):gK xs lo hi=xs:=by
 unfold gK;rw [h.1,h.2];simp
inductive rSlW (K:W.Frag) (x:V) (lo hi:Option Int) (H:Hp) (Q:VK):Prop
 | mk (a:Addr) (xs:List V) (_:x=.ref a) (_:cj K H a xs) (_:∀ p H',(cj K H a (gK xs lo hi)/\p=a/\H'=H)\/(H p=none/\H'=upd H p (.tup (gK xs lo hi)))->Q 0x48 H'):rSlW K x lo hi H Q
theorem JG:SlR X (rSlW X.K):=by
 intro pins s σ H x v vl vu lo hi sl Q I rx hs pl pu h;obtain ⟨a,xs,rfl,hx,q⟩:=h
 by_cases hw:HT.eN xs.length 0 lo=0/\HT.eN xs.length xs.length hi=xs.length
 ·cases rx;obtain ⟨its,r,ht,hz⟩:=I.tuple hx;have hlen:its.toArray.size=xs.length:=by rw [A0s];exact r.length.symm
  refine ⟨"tuple",_,A1t.lookup,ht.typeIs,?_⟩;exact HT.qe ht hs pl pu (by rw [hlen];exact hw) ⟨.ref a,H,I,rfl,q a H (.inl ⟨by rw [Qy hw];exact hx,rfl,rfl⟩)⟩
 ·exact Zz pins s σ H _ v vl vu lo hi sl Q I rx hs pl pu ⟨a,xs,rfl,hx,hw,fun p hp=>q p _ (.inr ⟨hp,rfl⟩)⟩
theorem uM {zs:List V} (h:(cj K H a zs/\p=a/\H'=H)\/(H p=none/\H'=upd H p (.tup zs))):cj K H' p zs/\Same H H':=by
 rcases h with ⟨h,rfl,rfl⟩ | ⟨h,rfl⟩
 ·exact ⟨h,Same.refl _⟩
 ·refine ⟨cj.of ao,fun b u q=>?_⟩;rw [ak (au q h)];exact q
def SetT (P:Program) (w:World) (a:Addr) (S:Str->Bool) (n:Nat):HO:=.ext fun h=>h.SetOf (strKind P w) a S n
theorem yU {S:Str->Bool} (hs:h.SetOf (strKind P w) a S n):cJ P w H h a (SetT P w a S n):=by
 refine ⟨hs,?_,fun h1 h2 p k=>?_⟩
 ·obtain ⟨o,es,ep,t,e,_⟩:=hs;exact ⟨o,e⟩
 ·obtain ⟨o,es,ep,t,e,r⟩:=p;exact ⟨o,es,ep,t,k _ e,r⟩
theorem Inv.Qz {S:Str->Bool} (I:Inv X pins σ H s) (e:H a=some (SetT X.prog X.w a S n)):s.heap.SetOf (strKind X.prog X.w) a S n:=(I.hok _ _ e).1
inductive rInT (P:Program) (w:World) (neg:Bool) (x y:V) (H:Hp) (Q:VK):Prop
 | mk (z:Str) (a:Addr) (S:Str->Bool) (n:Nat) (_:x=.str z) (_:y=.ref a) (_:H a=some (SetT P w a S n)) (_:Q (.bl (neg != S z)) H):rInT P w neg x y H Q
theorem Mq:nA X (compareOp .NotIn) (rInT X.prog X.w true):=by
 intro pins s σ H x y v u Q I rx ry h;obtain ⟨z,a,S,n,rfl,rfl,e,q⟩:=h;obtain ⟨t,rfl⟩:=rx;cases ry;exact wpAny_notInSet_of (A2V X.prog X.w z t) rfl (I.Qz e) ⟨.bl _,H,I.tok _,rfl,by simpa using q⟩
inductive JH (P:Program) (w:World) (ty:TE) (σ:L2.St) (Q:VK) (x:V) (H1:Hp):Prop
 | mk (a:Addr) (S:Str->Bool) (n:Nat) (_:x=.ref a) (_:H1 a=some (SetT P w a S n)) (_:ty σ H1 fun y H2=>∃ z,y=.str z/\H2 a=some (SetT P w a S n)/\n<=1000/\Q .non (upd H2 a (SetT P w a (fun k=>S k||decide (k=z)) (if S z=true then n else n+1)))):JH P w ty σ Q x H1
def a1P (P:Program) (w:World) (td ty:TE):TE:=fun σ H Q=>td σ H fun x H1=>JH P w ty σ Q x H1
theorem Wd {o:Expr} (ho:PE X o td) (he:PE X e ty) (m:M1 X o "add" apos e cpos):PE X (.Call (.Attribute o "add" apos) [e] [] cpos) (a1P X.prog X.w td ty):=by
 intro pins s σ H Q I h;refine A3p m.base m.few m.line PySem.F.plainAttrs_set PySem.F.slot_set_add PySem.F.type_set_add (cH 0x5E fun u s1 zq=>?_);obtain ⟨x,H1,I1,rx,a,S,n,ex,d,q1⟩:=zq;subst ex;obtain rfl:u=Value.ref a:=rx;refine ⟨(I1.Qz d).typeIs,(I1.Qz d).noDict,?_⟩;rw [m.trees];refine A1k rfl (A2n (A1U (cH (he pins s1 σ H1 _ I1 q1) fun iv s2 ⟨y,H2,I2,ry,z,ey,d2,hn,q2⟩=>A2N ?_)));subst ey;obtain ⟨t,rfl⟩:=ry;refine call_set_add (A2V X.prog X.w z t) rfl (I2.Qz d2) (A1y (Nat.succ_le_succ hn) 0x5) fun h' hsb hS'=>?_;have he':∃ q,h'.get? a=some q:=by obtain ⟨o,_,_,_,e,_⟩:=hS';exact ⟨o,e⟩
 exact ⟨.non,_,jf I2 (by rw [d2];exact True.intro) hsb he' (yU hS'),rfl,q2⟩
inductive JK (P:Program) (w:World) (Q:VK) (p:Addr) (x:V) (H2:Hp):Prop
 | mk (z:Str) (_:x=.str z) (_:H2 p=some (SetT P w p (fun _=>false) 0)) (_:Q 0x48 (upd H2 p (SetT P w p (fun k=>decide (k=z)) 1))):JK P w Q p x H2
def a1Q (P:Program) (w:World) (te:TE):TE:=fun σ H Q=>∀ p,H p=none->te σ (upd H p (SetT P w p (fun _=>false) 0)) fun x H2=>JK P w Q p x H2
theorem QB (h:codeIn K cd q=true):kdsCode K cd=true:=by
 unfold codeIn at h;unfold kdsCode
 split at h
 ·split at h
  ·rename_i ho
   simp only [ho]
  ·cases h
 ·cases h
theorem Wg (hc:kdsCode X.K X.env.code=true) (he:PE X e te) (hp:kdsPlain e=true:=by rfl):PE X (.Set [e] 0 pos) (a1Q X.prog X.w te):=by
 intro pins s σ H Q I h;rw [arm_eval_Set];refine A0a (A2l ?_);refine A0a (kds_main I.oO hc fun b=>?_);rw [kds_star [e] (by rw [A2x,hp];rfl),A0S];refine kds_core (ts:=(evalEach [e] X.env).map fun t=>do let v <- t;standAt pos;pure v) rfl ?_ ?_ ?_ fun led=>?_
 ·refine List.findIdx?_eq_none_iff.mpr fun x hx=>?_;obtain ⟨t,_,rfl⟩:=A0j.mp hx;rfl
 ·rw [bV,kds_len];exact A1h rfl
 ·rw [A0S];try rfl
 ·refine kds_all pos [e] _ _ ?_;have hfr:=I.hok.fresh (A0f s.heap.objs.size);have hS0:(s.heap.push { cls:=.type "set",dict:=none,data:=.set #[] 0 (.fresh 0 0 led) }).SetOf (strKind X.prog X.w) s.heap.objs.size (fun _=>false) 0:=(setObjOf_fresh led).setOf (A0n _ rfl) 0x5;have I1:=I.laid (a:=s.heap.objs.size) (o:=SetT X.prog X.w s.heap.objs.size (fun _=>false) 0) (h':=s.heap.push { cls:=.type "set",dict:=none,data:=.set #[] 0 (.fresh 0 0 led) }) (t':=s.toks) (fun _ _ q=>A0b _ q) 0x2D (yU hS0);refine A1b (he pins _ σ _ _ I1 (h _ hfr)) (fun v s2 ⟨x,H2,I2,rx,z,ex,d2,q2⟩=>?_) fun _ _ y=>y;subst ex;obtain ⟨t,rfl⟩:=rx;refine kds_fill_cons ?_;unfold setAdd;refine A0a ((strKind X.prog X.w).pyHash (A2V X.prog X.w z t) ?_);refine wpAny_setAddHashed_of (s:={ s2 with toks:=s2.toks+1 }) (A2V X.prog X.w z t) rfl (I2.Qz d2) 0x5 fun h' hsb hS'=>?_;refine kds_fill_nil rfl ?_;have he':∃ q,h'.get? s.heap.objs.size=some q:=by obtain ⟨o,_,_,_,e,_⟩:=hS';exact ⟨o,e⟩
  have hS2:h'.SetOf (strKind X.prog X.w) s.heap.objs.size (fun k=>decide (k=z)) 1:=by
   have e1:(fun k'=>(fun _:Str=>false) k'||decide (k'=z))=fun k=>decide (k=z):=by funext k;simp
   have:=hS';rw [e1] at this;exact this
  exact ⟨.ref _,_,jf (I2.tok _) (by rw [d2];exact True.intro) hsb he' (yU hS2),rfl,q2⟩
theorem fK.okC {x:Str}{k:Nat} (F:fK K x qual st f fd) (S:aO N ps (aH st)) (len:∀ vs H Q E,sp vs H Q E->vs.length=ps.length)
  (hbody:∀ (cdv:Value) (A:Around) (outer:List Env) (s:Shared) (H:Hp) (vs:List V) (Q:VK) (E:XK),codeIn K cdv qual=true->cM k (A.deeper (envOfC qual (aH st) s.heap.objs.size f cdv))->sp vs H Q E ->
   ∃ t,EY (Fx bM P w K mg base N qual (aH st) f cdv A outer s H E).nox (iB st) t/\t { nx:=fun _ H'=>Q .non H',rt:=Q } (start N vs) H):aJ P w K mg base bM (k+1) f fd ps sp:=by
 obtain ⟨oc,od,kV,doc,pm,an,cdv,ct,osl,rfl,lk,hcd⟩:=F.ex;refine Yq lk hcd S len fun A outer s H vs Q E hr hsp=>?_;obtain ⟨t,h,q⟩:=hbody cdv A outer s H vs Q E hcd hr hsp;exact ⟨t,h.nox,q⟩
theorem yV:∀ {ss:List Str}{us:List Value},Vals (ss.map V.str) us->StrsAre us ss
 | [],_,r=>by rw [A3V] at r;cases r;exact .nil
 | x::ss,_,r=>by
  rw [A0h] at r;cases r with
  | cons r1 r2 =>
   obtain ⟨t,rfl⟩:=r1;exact .cons x t (yV r2)
theorem qg:∀ {ss:List Str}{us:List Value},StrsAre us ss->Vals (ss.map V.str) us
 | _,_,.nil=>.nil
 | _,_,.cons y t r=>.cons ⟨t,rfl⟩ (qg r)
inductive QC (K:W.Frag) (xs:List V) (H:Hp) (Q:VK):Prop
 | mk (p:Addr) (ss:List Str) (_:xs=[.ref p]) (_:bO K H p (ss.map V.str)) (_:ss.length<64) (_:∀ l ss',H l=none->ss'.Perm ss->sortedS ss'=true->Q (.ref l) (upd H l (.lst (ss'.map V.str)))):QC K xs H Q
theorem fQ:iy X (.builtin "sorted") (QC X.K):=by
 intro pins s σ H xs us Q I r h;obtain ⟨p,ss,rfl,hq,hl,q⟩:=h;obtain ⟨u,rfl,ru⟩:=vals1 r;cases ru;obtain ⟨its,rv,pl,hz⟩:=I.list hq;have hlen:=rv.length;rw [bV] at hlen;refine sorted_strs pl.isList (yV rv) 0x2 fun out ss' h1 h2 h3=>?_;obtain ⟨e,he⟩:=sortedAll_at s.heap its out;have hle:ss'.length<64:=by rw [h2.length_eq];exact hl
 have new:cJ X.prog X.w (upd H 0x12 (.lst (ss'.map V.str))) (sortedAll s.heap its out) 0x12 (.lst (ss'.map V.str)) :=
  ⟨by rw [bV];exact A0O (A2k hle) 0x5,out.toList,e,qg h1,by rw [he]⟩
 exact ⟨.ref 0x12,_,I.laid (t':=s.toks) (fun b o q=>sortedAll_old q) (A2d _) new,rfl,q _ ss' (I.hok.fresh (A2d _)) h2 h3⟩
section
variable {o:Obj}
theorem Inv.freeze (I:Inv X pins σ H s) (e:H a=some 0x15):∃ o,Inv X pins σ (upd H a 0x40) s/\∀ o u,X.H₀ a≠some (.gH o u):=by
 obtain ⟨z,hd,vs,rel,dd⟩:=oU I.hok e;obtain ⟨o,es,ep,ho,r⟩:=id dd;refine ⟨o,jf (t':=s.toks) I 0x57 (Heap.SameBut.refl a s.heap) ⟨o,ho⟩ ⟨ho,z,hd,vs,rel,dd⟩,fun o' u q=>?_⟩;have:=I.base.uf a o' u q;rw [e] at this;cases this
theorem Inv.thaw (I:Inv X pins σ H s) (e:H a=some 0x40) (n:∀ o u,X.H₀ a≠some (.gH o u)):Inv X pins σ (upd H a 0x15) s:=by
 have nn:∀ {b},H b=none->b≠a:=fun q h=>by rw [h,e] at q;cases q
 have nt:∀ {b xs},H b=some 0x35->b≠a:=fun q h=>by rw [h,e] at q;cases q
 have no:∀ {b y},H b=some (.own y)->b≠a:=fun q h=>by rw [h,e] at q;cases q
 refine ⟨I.ok,I.os,I.bare,⟨I.base.keep,I.base.slot,fun b ob q hb hx=>?_,I.base.there,fun b xs q=>?_,fun b ob u q=>?_,fun b ps q=>?_⟩,I.loc,I.cell,?_,fun x c q=>?_,fun p hp=>?_,fun b u q=>?_,I.len⟩
 ·have z:=I.base.free b ob q hb hx;rw [ak (nn z)];exact z
 ·have z:=I.base.tups b xs q;rw [ak (nt z)];exact z
 ·by_cases h:b=a
  ·subst h;exact absurd q (n ob u)
  ·rw [ak h];exact I.base.uf b ob u q
 ·obtain ⟨more,z⟩:=I.base.yx b ps q;exact ⟨more,by rw [ak (fun h=>by rw [h,e] at z;cases z)];exact z⟩
 ·rw [ak (nn I.free)];exact I.free
 ·rw [ak (nn (I.jX x c q))];exact I.jX x c q
 ·obtain ⟨q1,q2,q3⟩:=I.pin p hp;exact ⟨q1,by rw [ak (nn q2)];exact q2,q3⟩
 ·by_cases h:b=a
  ·subst h;rw [ao] at q;cases q;obtain ⟨_,z⟩:=I.hok _ _ e;exact z.stay (fun _ _ _ q=>q) (fun c q=>by rw [ak (no q)];exact q) fun c xs q=>by rw [ak (nt q)];exact q
  ·rw [ak h] at q;exact (I.hok b u q).stay (fun _ _ _ q=>q) (fun c q=>by rw [ak (no q)];exact q) fun c xs q=>by rw [ak (nt q)];exact q
inductive a0c (t:TE) (σ:L2.St) (H:Hp) (Q:VK):Prop
 | mk (a:Addr) (kvs:List (Prod L2.Key V)) (_:H a=some 0x15) (_:∀ o,t σ (upd H a 0x40) fun v H'=>H' a=some 0x40/\Q v (upd H' a 0x15)):a0c t σ H Q
theorem pF {t:TE} (he:PE X e t):PE X e (a0c t):=by
 intro pins s σ H Q I ⟨a,kvs,ea,h⟩;obtain ⟨o,I1,n⟩:=I.freeze ea;exact A1b (he pins s σ _ _ I1 (h o)) (fun v s' ⟨x,H',I',r,e',q⟩=>⟨x,_,I'.thaw e' n,r,q⟩) fun _ _ y=>y
def Itd (a:Addr) (o:Obj) (kvs:List 0x2C):It:=⟨fun i H=>H a=some 0x40/\i<kvs.length,fun i H v H'=>H'=H/\∃ kv,kvs[i]?=some kv/\v=kV kv.1,fun i H=>H a=some 0x40/\kvs.length<=i⟩
theorem QD {k:Key} (h:(bQ P w).is k u=true):RelV (kV k) u:=by
 rcases dF (show uc k u=true from h) with ⟨i,t,rfl,rfl⟩ | ⟨x,t,rfl,rfl⟩
 ·exact ⟨t,rfl⟩
 ·exact ⟨t,rfl⟩
theorem KV.at {κ:Type}:∀ {kvs:List (κ×V)}{vs:List (κ×Value)},KV kvs vs->∀ {i:Nat}{kv:κ×V},kvs[i]?=some kv->∃ u,vs[i]?=some (kv.1,u)/\RelV kv.2 u:=by
 intro kvs vs r;unfold KV at r
 induction r with
 | nil=>intro i kv h;simp at h
 | @cons p q ps qs h t ih =>
  intro i kv hi;cases i with
  | zero =>
   simp only [List.getElem?_cons_zero,Option.some.injEq] at hi;subst hi;obtain ⟨q1,q2⟩:=q;obtain ⟨h1,h2⟩:=h;simp only at h1;subst h1;exact ⟨q2,rfl,h2⟩
  | succ j =>
   simp only [List.getElem?_cons_succ] at hi ⊢;exact ih hi
theorem qZ (I:Inv X pins σ H s) (e:H a=some 0x40) {es:Array DictEntry} (hd:o.data=.dict es ep):0x74=false/\∃ vs,KV kvs vs/\s.heap.DictAt 0x36 a vs ep:=by
 obtain ⟨ho,z,hs,vs,rel,o',es',ep',ho',r⟩:=I.hok _ _ e;rw [ho] at ho';cases ho';obtain ⟨r1,r2,r3⟩:=r;rw [hd] at r2;injection r2 with q1 q2;subst q1 q2;exact ⟨hs,vs,rel,o,es,ho,r1,hd,r3⟩
theorem Mr (it:Addr) {es:Array DictEntry} (hd:o.data=.dict es ep) :
  Turn P w K tg (Itd a o kvs) [it] it (fun i h=>h.IsKeyIter it a i kvs.length ep) where
 mem:=by simp
 obj:=fun i h st b hb=>by
  have e:b=it:=by simpa using hb
  subst e;obtain ⟨ob,e,c,d⟩:=st;exact ⟨ob,e,fun v z=>by rw [d] at z;cases z⟩
 keep:=fun i h h' st k=>by
  obtain ⟨ob,e,r⟩:=st;exact ⟨ob,k it 0xA ob e,r⟩
 item:=by
  intro X hP hw hK hc i pins s σ H E I hf st hg;subst hP hw hK;obtain ⟨f0,f1,f2,f3,f4,f5⟩:=hf it 0xA;obtain ⟨hg1,hg2⟩:=hg;obtain ⟨hs,vs,rel,dat⟩:=qZ I hg1 hd;have hl:kvs.length=vs.length:=rel.length;obtain ⟨u,hu,ru⟩:=rel.at (ju hg2);rw [hl] at st;refine wpAny_pyNext_dict_item st dat hu fun key h' hkey hit' hsb=>?_;have I1:Inv X pins σ H { s with heap:=h' }:=I.turned (t':=s.toks) (fun b ob hb e=>hsb.extBut b ob hb e) f0 f1 f3 f4 f5;obtain ⟨ob,e,cc,d⟩:=id hit';refine ⟨_,rfl,J8 (s:={ s with heap:=h' }) e cc d 0x5 ⟨kV (kvs[i]).1,H,I1,QD hkey,⟨rfl,_,ju hg2,rfl⟩,?_,fun b hb=>(hf b hb).1⟩⟩;rw [hl];exact hit'
 done:=by
  intro X hP hw hK hc i pins s σ H E I hf st hg;subst hP hw hK;obtain ⟨f0,f1,f2,f3,f4,f5⟩:=hf it 0xA;obtain ⟨hg1,hg2⟩:=hg;obtain ⟨hs,vs,rel,dat⟩:=qZ I hg1 hd;have hl:kvs.length=vs.length:=rel.length;rw [hl] at st hg2;exact wpAny_pyNext_dict_end (I.ok.hd hc) st dat (A2i hg2) fun h' eb=>⟨rfl,I.turned (t':=s.toks) (fun b ob hb e=>eb b ob hb e) f0 f1 f3 f4 f5⟩
 self:=fun A i s Q E st h=>wpAny_pyIter_keyiter st h
inductive JM (R:It->Hp->Prop) (x:V) (H1:Hp):Prop
 | mk (a:Addr) (o:Obj) (kvs:List 0x18) (_:x=.ref a) (_:H1 a=some 0x40) (_:R (Itd a o kvs) H1):JM R x H1
def YD (tl:TE):TI:=fun σ H R=>tl σ H fun x H1=>JM R x H1
theorem tD {l:Expr} (hl:PE X l tl):PI X tg l (YD tl):=by
 intro pins s σ H R I h;refine cH (hl pins s σ H _ I h) fun v s1 zq=>?_;obtain ⟨x,H1,I1,r1,a,o,kvs,ex,ea,q⟩:=zq;subst ex;cases r1;obtain ⟨ho,z,hs,vs,rel,o',es,ep,ho',hx,hdd,r⟩:=id (I1.hok _ _ ea);rw [ho] at ho';cases ho';have dat:s1.heap.DictAt 0x36 a vs ep:=⟨o,es,ho,hx,hdd,r⟩;have hlen:kvs.length=vs.length:=rel.length;refine wpAny_pyIter_dict hs dat ?_;refine ⟨s1.heap.objs.size,[s1.heap.objs.size],_,_,H1,rfl,I1.kept (t':=s1.toks) fun b o e=>A0b _ e,Mr _ hdd,⟨_,A0n _ rfl,rfl,by rw [hlen];rfl⟩,fun b hb=>?_,q⟩;have e:b=s1.heap.objs.size:=by simpa using hb
 subst e;exact I1.ur 0x2D (I1.hok.fresh 0x2D)
theorem xJ {o:Obj}{k:Nat}{Q:VK} (Pv:Nat->List V->Hp->Prop) (hl:∀ i ys H,Pv i ys H->H a=some 0x40) (h0:Pv 0 [] (upd H1 D 0x75)) (hD:∀ i ys H,Pv i ys H->H D=some 0x78)
  (hs:∀ i ys H kv,kvs[i]?=some kv->Pv i ys H->Cg D σ k ix g tt te (kV kv.1) ys H (Pv (i+1))) (hd:∀ ys H,Pv kvs.length ys H->Q 0x60 H):pB (Itd a o kvs) D σ k ix g tt te Q H1 :=
 yP (n:=kvs.length) (item:=fun i=>match kvs[i]? with | some kv=>kV kv.1 | none=>.non) Pv (fun i ys H p=>⟨fun h=>⟨⟨hl i ys H p,h⟩,fun v H' y=>by
  obtain ⟨e,kv,hc,rfl⟩:=y;exact ⟨e,by rw [hc]⟩⟩,fun h=>⟨hl i ys H p,h⟩⟩) h0 hD (fun i ys H h p=>by
   have e:kvs[i]?=some kvs[i]:=ju h;simp only [e];exact hs i ys H _ e p) hd
end
end L2
namespace PySem
theorem lQ:entryFor table "dict_itemiterator.__iter__"=some Builtin.«dict_keyiterator.__iter__» :=
 A4N (id':="dict_keyiterator.__iter__") 0x7E rfl 0x8 0x7E
end PySem
namespace L2
open PySem PySem.Spec PyProof.Rows PySem.W
def YF (a:Addr) (o:Obj) (kvs:List 0x2C):It:=⟨fun i H=>H a=some 0x40/\i<kvs.length,fun i H v H'=>∃ p kv,kvs[i]?=some kv/\v=.ref p/\H p=none/\H'=upd H p (.tup [kV kv.1,kv.2]),fun i H=>H a=some 0x40/\kvs.length<=i⟩
section
variable {o:Obj}
theorem Ga (it:Addr) {es:Array DictEntry} (hd:o.data=.dict es ep) :
  Turn P w K (.Tuple elts x1 tp) (YF a o kvs) [it] it (fun i h=>∃ ok ov,IsItemIter h it a i kvs.length ep ok ov) where
 mem:=by simp
 obj:=fun i h ⟨ok,ov,st⟩ b hb=>by
  have e:b=it:=by simpa using hb
  subst e;exact ⟨_,st,fun v z=>by cases z⟩
 keep:=fun i h h' ⟨ok,ov,st⟩ k=>⟨ok,ov,k it 0xA _ st⟩
 item:=by
  intro X hP hw hK hc i pins s σ H E I hf ⟨ok,ov,st⟩ hg;subst hP hw hK;obtain ⟨hg1,hg2⟩:=hg;obtain ⟨hs,vs,rel,dat⟩:=qZ I hg1 hd;have hl:kvs.length=vs.length:=rel.length;obtain ⟨u,hu,ru⟩:=rel.at (ju hg2);rw [hl] at st;refine wpAny_pyNext_items_item st dat hu fun key h' hkey ho hT hsz hk=>⟨_,rfl,wpAny_letOwnedTupleGo_items ho fun h2 he2 sb=>?_⟩;have hilt:it<s.heap.objs.size:=A0t st;have hT2:=sb.extBut _ _ (A3e hilt) hT;have kk:∀ b ob,b∉[it]->s.heap.get? b=some ob->h2.get? b=some ob:=fun b ob hb q=>by
   have hb':b≠it:=by simpa using hb
   exact sb.extBut _ _ hb' (hk b ob hb' q)
  refine ⟨.ref s.heap.objs.size,upd H s.heap.objs.size (.tup [kV (kvs[i]).1,(kvs[i]).2]),I.Js (t':=s.toks) hf kk 0x2D ⟨wQ 0xA |> A2k,[key,u],.cons (QD hkey) (.cons ru .nil),⟨_,hT2,rfl,_,rfl⟩⟩,rfl,⟨_,kvs[i],ju hg2,rfl,I.fresh,rfl⟩,?_,fun b hb=>?_⟩
  ·rw [hl];exact ⟨_,_,he2⟩
  ·have e:b=it:=by simpa using hb
   subst e;rw [ak (A0I hilt)];exact (hf _ 0xA).1
 done:=by
  intro X hP hw hK hc i pins s σ H E I hf ⟨ok,ov,st⟩ hg;subst hP hw hK;obtain ⟨f0,f1,f2,f3,f4,f5⟩:=hf it 0xA;obtain ⟨hg1,hg2⟩:=hg;obtain ⟨hs,vs,rel,dat⟩:=qZ I hg1 hd;have hl:kvs.length=vs.length:=rel.length;rw [hl] at st hg2;exact wpAny_pyNext_items_end (I.ok.hd hc) st dat (A2i hg2) fun h' eb=>⟨rfl,I.turned (t':=s.toks) (fun b ob hb e=>eb b ob hb e) f0 f1 f3 f4 f5⟩
 self:=fun A i s Q E ⟨ok,ov,st⟩ h=>by
  have hT:s.TypeIs 0x49 "dict_itemiterator":=⟨_,st,rfl⟩;refine A3X hT A3H (A0Z A3H hT PySem.lQ ?_ (PySem.F.args_dict_itemiterator_iter_1 _))
  show wpAny _ _ (ret 0x49) _ _ s
  exact wpAny_pure ⟨_,rfl, "dict_itemiterator",_,hT,PySem.F.slot_dict_itemiterator_next.lookup,h⟩
inductive CT (R:It->Hp->Prop) (x:V) (H1:Hp):Prop
 | mk (a:Addr) (o:Obj) (kvs:List 0x18) (_:x=.ref a) (_:H1 a=some 0x40) (_:R (YF a o kvs) H1):CT R x H1
def a0d (tl:TE):TI:=fun σ H R=>tl σ H fun x H1=>CT R x H1
theorem uN {l:Expr} (hl:PE X l tl) (hbase:attributeBase l "items" X.env (eval l X.env)=eval l X.env:=by rfl) (hline:0x64=true:=by rfl) :
  PI X (.Tuple elts x1 tp) (.Call (.Attribute l "items" apos) [] [] cpos) (a0d tl):=by
 intro pins s σ H R I h;refine A3b hbase hline (cH (hl pins s σ H _ I h) fun v s1 zq=>?_);obtain ⟨x,H1,I1,r1,a,o,kvs,ex,ea,q⟩:=zq;subst ex;cases r1;obtain ⟨ho,z,hs,vs,rel,o',es,ep,ho',hx,hdd,r⟩:=id (I1.hok _ _ ea);rw [ho] at ho';cases ho';have dat:s1.heap.DictAt 0x36 a vs ep:=⟨o,es,ho,hx,hdd,r⟩;have hT:s1.TypeIs 0x3C "dict":=dat.dictOf.typeIs;refine ⟨"dict", "dict.items",A1L,PySem.F.slot_dict_items,PySem.F.type_dict_items,hT,(fun b e=>by injection e with e;subst e;exact ⟨o,ho,hx.2.1⟩),?_⟩;refine A1k rfl (A3x ?_);refine A2w PySem.F.slot_dict_items hT PySem.F.entry_dict_items (PySem.F.args_dict_items_1 _) (meets_dict_items 0x36 a hs) ⟨⟨vs,dat.dictOf⟩,?_⟩;have hlen:kvs.length=vs.length:=rel.length;have hne:a≠s1.heap.objs.size:=A0I dat.lt_size;have I2:Inv X pins σ H1 { s1 with heap:=s1.heap.push { cls:=.type "dict_items",data:=.fields #[.ref a] } }:=I1.kept (t':=s1.toks) fun b o e=>A0b _ e;have a0e:(s1.heap.push { cls:=.type "dict_items",data:=.fields #[.ref a] }).DictAt 0x36 a vs ep:=dat.at' fun o e=>A0b _ e
 show wpAny _ _ (pyIter (.ref s1.heap.objs.size)) _ _ _
 refine wpAny_pyIter_items (s:={ s1 with heap:=s1.heap.push { cls:=.type "dict_items",data:=.fields #[.ref a] } }) ⟨_,A0n _ rfl,rfl,rfl⟩ a0e ?_;refine ⟨_,[_],_,_,H1,rfl,I2.kept (t':=s1.toks) fun b o e=>A0b _ e,Ga _ hdd,⟨_,_,by rw [hlen];exact A0n _ rfl⟩,fun b hb=>?_,q⟩;have e:=A0c.mp hb;subst e;exact I2.ur 0x2D (I2.hok.fresh 0x2D)
theorem sJ (h:H a=some 0x40):(i<kvs.length->(YF a o kvs).go i H/\∀ v H',(YF a o kvs).J7 i H v H'->∃ p,v=.ref p/\H p=none/\H'=upd H p (.tup [(kvs.map fun kv=>kV kv.1).getD i .non,(kvs.map fun kv=>kv.2).getD i .non]))/\(kvs.length<=i->(YF a o kvs).stop i H):=by
 refine ⟨fun hi=>⟨⟨h,hi⟩,fun v H' ⟨p,kv,e1,e2,e3,e4⟩=>⟨p,e2,e3,?_⟩⟩,fun hi=>⟨h,hi⟩⟩;rw [e4,qQ,qQ,jW,jW,e1];rfl
end
end L2
namespace M
open PySem L2
def top (i:Nat):Stmt:=PySem.Challenge.pw_manrent_k15_deaths_and_heirs_judged.main.body.getD i (.Pass ⟨0,0,0,0⟩)
abbrev QF:Stmt:=inClass (top 22) 0
abbrev Gb:Stmt:=inClass (top 22) 1
abbrev qj:Stmt:=inClass (top 22) 2
abbrev yW:Stmt:=inClass (top 22) 3
abbrev QG:Stmt:=inClass (top 22) 4
abbrev a0f:Stmt:=inClass (top 22) 5
abbrev uO:Stmt:=inClass (top 22) 6
abbrev uP:Stmt:=inClass (top 22) 7
abbrev Gd:Stmt:=inClass (top 22) 8
abbrev JN:Stmt:=inClass (top 22) 9
abbrev yX:Stmt:=inClass (top 22) 10
abbrev JQ:Stmt:=inClass (top 22) 11
abbrev Ge:Stmt:=inClass (top 22) 12
abbrev yZ:Stmt:=inClass (top 22) 14
abbrev QH:Stmt:=inClass (top 22) 15
abbrev Gf:Stmt:=inClass (top 22) 16
abbrev QJ:Stmt:=inClass (top 22) 17
abbrev Gg:Stmt:=inClass (top 22) 18
abbrev a0g:Stmt:=inClass (top 22) 19
theorem aM (h:H p=none) (o:HO):Same H (upd H p o):=fun b u q=>by rw [ak (au q h)];exact q
theorem bK {l:Addr} (s:Same H H2) (h:H l=none):Same H (upd H2 l o):=fun b u q=>by rw [ak (au q h)];exact s b u q
theorem small (h:n<=1000000):n<=sizeLine:=A0O h 0x5
theorem bR (h:n<1000000):n<sizeLine:=A0q h 0x5
theorem u1 {k:Nat} (r:cM k A):A.units+1<cLine:=by have:=r.un;lia
structure dX (K:PySem.W.Frag) (C:Addr):Prop where
 cl:Cls K C
 n1:dJ K C "lord_of"
 n2:dJ K C "holder_of"
 n3:dJ K C "own_of"
 n4:dJ K C "service_of"
 n5:dJ K C "breadth_of"
abbrev F5 (a1 a2 a3 a4 a5:Addr):List 0x81:=[("lord_of",.ref a1),("holder_of",.ref a2),("own_of",.ref a3),("service_of",.ref a4),("breadth_of",.ref a5)]
structure cg (C:Addr) (H:Hp) (x dx a1 a2 a3 a4 a5:Addr) (lo ho ow se br:List 0x2C):Prop where
 o:H x=some (.ins C dx (F5 a1 a2 a3 a4 a5))
 l1:H a1=some (.dK lo)
 l2:H a2=some (.dK ho)
 l3:H a3=some (.dK ow)
 l4:H a4=some (.dK se)
 l5:H a5=some (.dK br)
theorem cg.same {x a1 a2 a3 a4 a5:Addr}{se br:List 0x2C} (k:cg C H x dx a1 a2 a3 a4 a5 lo ho ow se br) (s:Same H H'):cg C H' x dx a1 a2 a3 a4 a5 lo ho ow se br:=⟨s _ _ k.o,s _ _ k.l1,s _ _ k.l2,s _ _ k.l3,s _ _ k.l4,s _ _ k.l5⟩
structure QK (a1 a2 a3 a4 a5:Addr):Prop where
 n12:a1≠a2
 n13:a1≠a3
 n14:a1≠a4
 n15:a1≠a5
 n23:a2≠a3
 n24:a2≠a4
 n25:a2≠a5
 n34:a3≠a4
 n35:a3≠a5
 n45:a4≠a5
inductive Ch (lo:List 0x2C):Str->List Str->Prop
 | crown {e:Str}:bH lo 0x31=some .non->Ch lo e [e]
 | up {e p:Str}{l:List Str}:bH lo 0x31=some (.str p)->Ch lo p l->Ch lo e (e::l)
theorem gZ {e:Str} (h:H a=some 0x15) (hv:bH kvs 0x31=some v):dW H a (V.str e) (some v):=by
 have:=dW.k (k:=.inr e) h;rw [hv] at this;exact this
inductive ql (C:Addr) (vs:List V) (H:Hp) (Q:VK) (cD:XK):Prop
 | mk (x dx a1 a2 a3 a4 a5:Addr) (lo ho ow se br:List 0x18) (e:Str) (_:vs=[.ref x,.str e]) (_:cg C H x dx a1 a2 a3 a4 a5 lo ho ow se br) (_:Q (.bl (bH lo 0x31).isSome) H):ql C vs H Q cD
inductive iG (C:Addr) (vs:List V) (H:Hp) (Q:VK) (cD:XK):Prop
 | mk (x dx a1 a2 a3 a4 a5:Addr) (lo ho ow se br:List 0x18) (e:Str) (_:vs=[.ref x,.str e]) (_:cg C H x dx a1 a2 a3 a4 a5 lo ho ow se br) (_:(bH lo 0x31).isSome=true) (_:Q .non H):iG C vs H Q cD
inductive uQ (C:Addr) (vs:List V) (H:Hp) (Q:VK) (cD:XK):Prop
 | mk (x dx a1 a2 a3 a4 a5:Addr) (lo ho ow se br:List 0x18) (e:Str) (v:V) (_:vs=[.ref x,.str e]) (_:cg C H x dx a1 a2 a3 a4 a5 lo ho ow se br) (_:(bH lo 0x31).isSome=true) (_:bH ho 0x31=some v) (_:Q v H):uQ C vs H Q cD
inductive Gh (C:Addr) (vs:List V) (H:Hp) (Q:VK) (cD:XK):Prop
 | mk (x dx a1 a2 a3 a4 a5:Addr) (lo ho ow se br:List 0x18) (e:Str) (v:V) (_:vs=[.ref x,.str e]) (_:cg C H x dx a1 a2 a3 a4 a5 lo ho ow se br) (_:(bH lo 0x31).isSome=true) (_:bH lo 0x31=some v) (_:Q v H):Gh C vs H Q cD
inductive JR (C:Addr) (vs:List V) (H:Hp) (Q:VK) (cD:XK):Prop
 | mk (x dx a1 a2 a3 a4 a5:Addr) (lo ho ow se br:List 0x18) (e:Str) (v:V) (_:vs=[.ref x,.str e]) (_:cg C H x dx a1 a2 a3 a4 a5 lo ho ow se br) (_:(bH lo 0x31).isSome=true) (_:bH ow 0x31=some v) (_:Q v H):JR C vs H Q cD
inductive rB (C:Addr) (vs:List V) (H:Hp) (Q:VK) (cD:XK):Prop
 | mk (x dx a1 a2 a3 a4 a5:Addr) (lo ho ow se br:List 0x18) (e:Str) (v:V) (_:vs=[.ref x,.str e]) (_:cg C H x dx a1 a2 a3 a4 a5 lo ho ow se br) (_:(bH lo 0x31).isSome=true) (_:bH br 0x31=some v) (_:Q v H):rB C vs H Q cD
inductive rC (C:Addr) (vs:List V) (H:Hp) (Q:VK) (cD:XK):Prop
 | mk (x dx a1 a2 a3 a4 a5:Addr) (lo ho ow se br:List 0x18) (e:Str) (v:V) (_:vs=[.ref x,.str e]) (_:cg C H x dx a1 a2 a3 a4 a5 lo ho ow se br) (_:(bH lo 0x31).isSome=true) (_:bH se 0x31=some v) (_:Q v H):rC C vs H Q cD
inductive z7 (C:Addr) (vs:List V) (H:Hp) (Q:VK) (cD:XK):Prop
 | mk (x dx a1 a2 a3 a4 a5:Addr) (lo ho ow se br:List 0x18) (e:Str) (l:List Str) (_:vs=[.ref x,.str e]) (_:cg C H x dx a1 a2 a3 a4 a5 lo ho ow se br) (_:(bH lo 0x31).isSome=true) (_:Ch lo e l) (_:l.length<=1000) (_:∀ r H',Same H H'->H r=none->H' r=some (.lst (l.map V.str))->Q 0x71 H'):z7 C vs H Q cD
inductive qm (C:Addr) (vs:List V) (H:Hp) (Q:VK) (cD:XK):Prop
 | mk (x dx a1 a2 a3 a4 a5:Addr) (lo ho ow se br:List 0x18) (e man:Str) (_:vs=[.ref x,.str e,.str man]) (_:cg C H x dx a1 a2 a3 a4 a5 lo ho ow se br) (_:ho.length<=900) (_:Q .non (upd H a2 (.dK (putK ho 0x31 (.str man))))):qm C vs H Q cD
def Mt (H:Hp) (a1 a2 a3 a4 a5:Addr) (lo ho ow se br:List 0x2C) (n:Str) (lord holder:Str) (acres:Int) (t:Addr):Hp :=
 upd (upd (upd (upd (upd H a1 (.dK (putK lo 0x29 (.str lord)))) a2 (.dK (putK ho 0x29 (.str holder)))) a3 (.dK (putK ow 0x29 (.int acres)))) a4 (.dK (putK se 0x29 0x70))) a5 (.dK (putK br 0x29 (.int acres)))
inductive QL (C:Addr) (vs:List V) (H:Hp) (Q:VK) (cD:XK):Prop
 | mk (x dx a1 a2 a3 a4 a5:Addr) (lo ho ow se br:List 0x18) (n lord holder:Str) (acres:Int) (t:Addr) (_:vs=[.ref x,.str n,.str lord,.str holder,.int acres,.ref t]) (_:cg C H x dx a1 a2 a3 a4 a5 lo ho ow se br) (_:QK a1 a2 a3 a4 a5) (_:lo.length<=900) (_:ho.length<=900) (_:ow.length<=900) (_:se.length<=900) (_:br.length<=900) (_:Q .non (Mt H a1 a2 a3 a4 a5 lo ho ow se br n lord holder acres t)):QL C vs H Q cD
section
theorem Wh:aO A5y A5y (aH Gb):=0x0
theorem QM (T:dX K C) (F:fK K "there" "Land.there" Gb f fd):aJ P w K mg base bM 1 f fd A5y (ql C):=by
 refine F.ok Wh 0x1 0x3;obtain ⟨x,dx,a1,a2,a3,a4,a5,lo,ho,ow,se,br,e,rfl,L,k⟩:=h;refine ⟨_,aG (aV (Fj (yR 0x17 0xF 0xD) 0x11)),?_⟩;exact ⟨_,rfl,_,rfl,x,C,dx,_,_,rfl,L.o,T.cl,T.n1,rfl,a1,_,rfl,dW.k (k:=.inr e) L.l1,k⟩
theorem QS:aO A5y A5y (aH Gg):=0x0
theorem Mu (T:dX K C) (F:fK K "check_there" "Land.check_there" Gg f fd)  (G1:aJ P w K mg base bM 1 g1 d1 A5y (ql C)) (m1:Meth K C "there" g1) (b1:Binds K d1 A5y []):aJ P w K mg base bM 2 f fd A5y (iG C):=by
 refine F.ok QS 0x1 0x3;obtain ⟨x,dx,a1,a2,a3,a4,a5,lo,ho,ow,se,br,e,rfl,L,he,k⟩:=h;refine ⟨_,aG (bN (gP (dY 0x22)) cA aU),?_⟩;refine ⟨_,rfl,x,dx,_,rfl,L.o,rfl,_,rfl,x,dx,a1,a2,a3,a4,a5,lo,ho,ow,se,br,e,rfl,L,_,rfl,?_⟩;rw [he];exact cu k
theorem QT:aO A5y A5y (aH yW):=0x0
theorem Mv (T:dX K C) (F:fK K "holder" "Land.holder" yW f fd)  (G1:aJ P w K mg base bM 2 g1 d1 A5y (iG C)) (m1:Meth K C "check_there" g1) (b1:Binds K d1 A5y []):aJ P w K mg base bM 3 f fd A5y (uQ C):=by
 refine F.ok QT 0x1 0x3;obtain ⟨x,dx,a1,a2,a3,a4,a5,lo,ho,ow,se,br,e,v,rfl,L,he,hv,k⟩:=h;refine ⟨_,aq (bL 0x22) (aG (aV 0x6F)),?_⟩;refine ⟨_,rfl,x,dx,_,rfl,L.o,rfl,_,rfl,x,dx,a1,a2,a3,a4,a5,lo,ho,ow,se,br,e,rfl,L,he,?_⟩;exact ⟨_,rfl,x,C,dx,_,_,rfl,L.o,T.cl,T.n2,rfl,_,rfl,_,v,rfl,gZ L.l2 hv,k⟩
theorem a0h:aO A5y A5y (aH QG):=0x0
theorem Wi (T:dX K C) (F:fK K "lord" "Land.lord" QG f fd)  (G1:aJ P w K mg base bM 2 g1 d1 A5y (iG C)) (m1:Meth K C "check_there" g1) (b1:Binds K d1 A5y []):aJ P w K mg base bM 3 f fd A5y (Gh C):=by
 refine F.ok a0h 0x1 0x3;obtain ⟨x,dx,a1,a2,a3,a4,a5,lo,ho,ow,se,br,e,v,rfl,L,he,hv,k⟩:=h;refine ⟨_,aq (bL 0x22) (aG (aV 0x6F)),?_⟩;refine ⟨_,rfl,x,dx,_,rfl,L.o,rfl,_,rfl,x,dx,a1,a2,a3,a4,a5,lo,ho,ow,se,br,e,rfl,L,he,?_⟩;exact ⟨_,rfl,x,C,dx,_,_,rfl,L.o,T.cl,T.n1,rfl,_,rfl,_,v,rfl,gZ L.l1 hv,k⟩
theorem a1R:aO A5y A5y (aH a0f):=0x0
theorem a0i (T:dX K C) (F:fK K "own" "Land.own" a0f f fd)  (G1:aJ P w K mg base bM 2 g1 d1 A5y (iG C)) (m1:Meth K C "check_there" g1) (b1:Binds K d1 A5y []):aJ P w K mg base bM 3 f fd A5y (JR C):=by
 refine F.ok a1R 0x1 0x3;obtain ⟨x,dx,a1,a2,a3,a4,a5,lo,ho,ow,se,br,e,v,rfl,L,he,hv,k⟩:=h;refine ⟨_,aq (bL 0x22) (aG (aV 0x6F)),?_⟩;refine ⟨_,rfl,x,dx,_,rfl,L.o,rfl,_,rfl,x,dx,a1,a2,a3,a4,a5,lo,ho,ow,se,br,e,rfl,L,he,?_⟩;exact ⟨_,rfl,x,C,dx,_,_,rfl,L.o,T.cl,T.n3,rfl,_,rfl,_,v,rfl,gZ L.l3 hv,k⟩
theorem Mw:aO A5y A5y (aH uO):=0x0
theorem Gi (T:dX K C) (F:fK K "breadth" "Land.breadth" uO f fd)  (G1:aJ P w K mg base bM 2 g1 d1 A5y (iG C)) (m1:Meth K C "check_there" g1) (b1:Binds K d1 A5y []):aJ P w K mg base bM 3 f fd A5y (rB C):=by
 refine F.ok Mw 0x1 0x3;obtain ⟨x,dx,a1,a2,a3,a4,a5,lo,ho,ow,se,br,e,v,rfl,L,he,hv,k⟩:=h;refine ⟨_,aq (bL 0x22) (aG (aV 0x6F)),?_⟩;refine ⟨_,rfl,x,dx,_,rfl,L.o,rfl,_,rfl,x,dx,a1,a2,a3,a4,a5,lo,ho,ow,se,br,e,rfl,L,he,?_⟩;exact ⟨_,rfl,x,C,dx,_,_,rfl,L.o,T.cl,T.n5,rfl,_,rfl,_,v,rfl,gZ L.l5 hv,k⟩
theorem Mx:aO A5y A5y (aH uP):=0x0
theorem Gj (T:dX K C) (F:fK K "service" "Land.service" uP f fd)  (G1:aJ P w K mg base bM 2 g1 d1 A5y (iG C)) (m1:Meth K C "check_there" g1) (b1:Binds K d1 A5y []):aJ P w K mg base bM 3 f fd A5y (rC C):=by
 refine F.ok Mx 0x1 0x3;obtain ⟨x,dx,a1,a2,a3,a4,a5,lo,ho,ow,se,br,e,v,rfl,L,he,hv,k⟩:=h;refine ⟨_,aq (bL 0x22) (aG (aV 0x6F)),?_⟩;refine ⟨_,rfl,x,dx,_,rfl,L.o,rfl,_,rfl,x,dx,a1,a2,a3,a4,a5,lo,ho,ow,se,br,e,rfl,L,he,?_⟩;exact ⟨_,rfl,x,C,dx,_,_,rfl,L.o,T.cl,T.n4,rfl,_,rfl,_,v,rfl,gZ L.l4 hv,k⟩
theorem z9:aO ["self", "estate", "row"] A5y (aH Gd):=0x0
theorem QV (T:dX K C) (F:fK K "chain" "Land.chain" Gd f fd)  (G1:aJ P w K mg base bM 2 g1 d1 A5y (iG C)) (m1:Meth K C "check_there" g1) (b1:Binds K d1 A5y []):aJ P w K mg base bM 3 f fd A5y (z7 C):=by
 refine F.ok z9 0x1 0x3;obtain ⟨x,dx,a1,a2,a3,a4,a5,lo,ho,ow,se,br,e,l,rfl,L,he,hc,hl,k⟩:=h;refine ⟨_,aq (bL 0x22)
  (aq (aR (i:=2) z9.nd rfl 0x7 (dN aC))
  (aq (lG A0U (aQ Jd 0xF lZ 0x61)
   (aq (bL (iz A0z A0Q A0R cQ 0x2B 0x38))
   (aG (aR (i:=1) z9.nd rfl 0x7 0x6F))))
  (aG (aV 0x2B)))),?_⟩
 refine ⟨_,rfl,x,dx,_,rfl,L.o,rfl,_,rfl,x,dx,a1,a2,a3,a4,a5,lo,ho,ow,se,br,e,rfl,L,he,?_⟩;refine ⟨small 0xA,fun r hr0=>?_⟩;refine ⟨fun m σ Hx=>∃ (l0 l1:List Str) (cur:V),m=l1.length/\l=l0++l1/\σ=[some (.ref x),some cur,some 0x71]/\Same H Hx/\Hx r=some (.lst (l0.map V.str))/\((cur=.non/\l1=[])\/∃ y,cur=.str y/\Ch lo y l1),
  ⟨_,[],l,.str e,rfl,rfl,rfl,aM hr0 _,ao,.inr ⟨e,rfl,hc⟩⟩,?_⟩
 rintro m σ Hx ⟨l0,l1,cur,rfl,hl0,rfl,sx,rx,hcur⟩;have Lx:=L.same sx;rcases hcur with ⟨rfl,rfl⟩ | ⟨y,rfl,hy⟩
 ·refine ⟨_,rfl,rfl,_,rfl,cu ?_⟩;rw [A1u] at hl0;subst hl0;exact ⟨_,rfl,k r Hx sx hr0 rx⟩
 ·refine ⟨_,rfl,rfl,_,rfl,dU ?_⟩;have step:∀ (l2:List Str) (nx:V),l1=y::l2->bH lo (.inr y)=some nx->((nx=.non/\l2=[])\/∃ z,nx=.str z/\Ch lo z l2)->_:=fun l2 nx e1 e2 e3=>(⟨e1,e2,e3⟩:l1=y::l2/\bH lo (.inr y)=some nx/\((nx=.non/\l2=[])\/∃ z,nx=.str z/\Ch lo z l2));obtain ⟨l2,nx,e1,e2,e3⟩:∃ l2 nx,l1=y::l2/\bH lo (.inr y)=some nx/\((nx=.non/\l2=[])\/∃ z,nx=.str z/\Ch lo z l2):=by
   cases hy with
   | crown h=>exact ⟨[],.non,rfl,h,.inl ⟨rfl,rfl⟩⟩
   | up h hc=>exact ⟨_,_,rfl,h,.inr ⟨_,rfl,hc⟩⟩
  subst e1;refine ⟨fun σ' H'=>∃ (wj l1':List Str) (cur:V),l1'.length<(y::l2).length/\l=wj++l1'/\σ'=[some (.ref x),some cur,some 0x71]/\Same H H'/\H' r=some (.lst (wj.map V.str))/\((cur=.non/\l1'=[])\/∃ y,cur=.str y/\Ch lo y l1'),
   fun σ' H' ⟨wj,l1',cur,q1,q⟩=>⟨_,q1,wj,l1',cur,rfl,q⟩,?_⟩
  have hll:l0.length+(l2.length+1)=l.length:=by rw [hl0,iw,oX]
  refine ⟨_,rfl,.inl ⟨rfl,_,bO.of rx⟩,_,rfl,r,_,_,rfl,rfl,rx,0x62,?_⟩;have s2:=bK sx hr0 (o:=.lst (l0.map V.str++[V.str y]));refine ⟨_,rfl,x,C,dx,_,_,rfl,s2 _ _ L.o,T.cl,T.n1,rfl,_,rfl,_,nx,rfl,gZ (s2 _ _ L.l1) e2,?_⟩;exact ⟨l0++[y],l2,nx,by simp,by rw [hl0];simp,rfl,s2,by rw [ao,jw];rfl,e3⟩
theorem QW:aO ["self", "estate", "man"] ["self", "estate", "man"] (aH yZ):=0x0
theorem Mz (T:dX K C) (F:fK K "convey" "Land.convey" yZ f fd):aJ P w K mg base bM 1 f fd ["self", "estate", "man"] (qm C):=by
 refine F.ok QW 0x1 0x3;obtain ⟨x,dx,a1,a2,a3,a4,a5,lo,ho,ow,se,br,e,man,rfl,L,hl,k⟩:=h;refine ⟨_,aG (dR 0x17 0xD 0xF 0x2B rfl),?_⟩;exact ⟨_,rfl,_,rfl,x,C,dx,_,_,rfl,L.o,T.cl,T.n2,rfl,_,rfl,a2,_,rfl,jc.k (k:=.inr e) L.l2 (bR 0x2),k⟩
theorem a1S:aO A5P A5P (aH a0g):=0x0
theorem a0j (T:dX K C) (F:fK K "add_estate" "Land.add_estate" a0g f fd):aJ P w K mg base bM 1 f fd A5P (QL C):=by
 refine F.ok a1S 0x1 0x3;obtain ⟨x,dx,a1,a2,a3,a4,a5,lo,ho,ow,se,br,n,lord,holder,acres,t,rfl,L,ap,e1,e2,e3,e4,e5,k⟩:=h;refine ⟨_,aq (dR 0x17 0xD 0xF 0x2B rfl) (aq (dR 0x17 0xD 0xF 0x5D rfl) (aq (dR 0x17 0xD 0xF (pv 4) rfl)
  (aq (dR 0x17 0xD 0xF (pv 5) rfl) (aG (dR 0x17 0xD 0xF (pv 4) rfl))))),?_⟩
 have x1:=aZ L.o L.l1 0x1C;have x2:=aZ L.o L.l2 0x1C;have x3:=aZ L.o L.l3 0x1C;have x4:=aZ L.o L.l4 0x1C;refine ⟨_,rfl,_,rfl,x,C,dx,_,_,rfl,L.o,T.cl,T.n1,rfl,_,rfl,a1,_,rfl,jc.k (k:=.inr n) L.l1 (bR 0x2),?_⟩;refine ⟨_,rfl,_,rfl,x,C,dx,_,_,rfl,by rw [ak x1];exact L.o,T.cl,T.n2,rfl,_,rfl,a2,_,rfl,jc.k (k:=.inr n) (by rw [ak (A0m ap.n12)];exact L.l2) (bR 0x2),?_⟩;refine ⟨_,rfl,_,rfl,x,C,dx,_,_,rfl,by rw [ak x2,ak x1];exact L.o,T.cl,T.n3,rfl,_,rfl,a3,_,rfl,jc.k (k:=.inr n) (by rw [ak (A0m ap.n23),ak (A0m ap.n13)];exact L.l3) (bR 0x2),?_⟩;refine ⟨_,rfl,_,rfl,x,C,dx,_,_,rfl,by rw [ak x3,ak x2,ak x1];exact L.o,T.cl,T.n4,rfl,_,rfl,a4,_,rfl,jc.k (k:=.inr n) (by rw [ak (A0m ap.n34),ak (A0m ap.n24),ak (A0m ap.n14)];exact L.l4) (bR 0x2),?_⟩;exact ⟨_,rfl,_,rfl,x,C,dx,_,_,rfl,by rw [ak x4,ak x3,ak x2,ak x1];exact L.o,T.cl,T.n5,rfl,_,rfl,a5,_,rfl,jc.k (k:=.inr n) (by rw [ak (A0m ap.n45),ak (A0m ap.n35),ak (A0m ap.n25),ak (A0m ap.n15)];exact L.l5) (bR 0x2),k⟩
open PyProof.Rows
def jx (kv:Key×V):Str:=match kv.1 with
 | .inr s=>s
 | .inl _=>""
def TK (kvs:List 0x2C):Prop:=∀ kv∈kvs,kV kv.1=V.str (jx kv)
def TV (kvs:List 0x2C):Prop:=∀ kv∈kvs,kv.2=.non\/∃ s,kv.2=.str s
theorem jK {p:Key×V->Bool}{kv:Key×V} (h:kvs[i]?=some kv):((kvs.take (i+1)).filter p).map (fun kv=>V.str (jx kv))=((kvs.take i).filter p).map (fun kv=>V.str (jx kv))++(if p kv=true then [V.str (jx kv)] else []):=by
 rw [A1f,h,A3h,jw]
 congr 1
 cases e:p kv <;> simp [e]
theorem uR {p:Key×V->Bool} (h:kvs.length<=n):(((kvs.take i).filter p).map (fun kv=>V.str (jx kv))).length<=n:=by
 rw [bV];have:=A0K p (kvs.take i);rw [A0G] at this;lia
theorem strs_map (l:List 0x2C):l.map (fun kv=>V.str (jx kv))=(l.map jx).map V.str:=by rw [A0S];rfl
theorem gC {x y:Str}:decide (V.str x=V.str y)=decide (x=y):=A4d.mpr ⟨fun e=>by injection e,fun e=>by rw [e]⟩
inductive rD (C:Addr) (vs:List V) (H:Hp) (Q:VK) (cD:XK):Prop
 | mk (x dx a1 a2 a3 a4 a5:Addr) (lo ho ow se br:List (Prod L2.Key V)) (_:vs=[.ref x]) (_:cg C H x dx a1 a2 a3 a4 a5 lo ho ow se br) (_:TK lo) (_:lo.length<64) (_:∀ r ss H',Same H H'->H r=none->H' r=some 0x23->ss.Perm ((lo.filter fun kv=>!decide (jx kv="")).map jx)->sortedS ss=true->Q 0x71 H'):rD C vs H Q cD
inductive za (C:Addr) (vs:List V) (H:Hp) (Q:VK) (cD:XK):Prop
 | mk (x dx a1 a2 a3 a4 a5:Addr) (lo ho ow se br:List (Prod L2.Key V)) (man:Str) (_:vs=[.ref x,.str man]) (_:cg C H x dx a1 a2 a3 a4 a5 lo ho ow se br) (_:TK ho) (_:TV ho) (_:ho.length<64) (_:∀ r ss H',Same H H'->H r=none->H' r=some 0x23->ss.Perm ((ho.filter fun kv=>decide (kv.2=.str man)).map jx)->sortedS ss=true->Q 0x71 H'):za C vs H Q cD
inductive tE (C:Addr) (vs:List V) (H:Hp) (Q:VK) (cD:XK):Prop
 | mk (x dx a1 a2 a3 a4 a5:Addr) (lo ho ow se br:List (Prod L2.Key V)) (e:Str) (_:vs=[.ref x,.str e]) (_:cg C H x dx a1 a2 a3 a4 a5 lo ho ow se br) (_:(bH lo 0x31).isSome=true) (_:TK lo) (_:TV lo) (_:lo.length<64) (_:∀ r ss H',Same H H'->H r=none->H' r=some 0x23->ss.Perm ((lo.filter fun kv=>decide (kv.2=.str e)).map jx)->sortedS ss=true->Q 0x71 H'):tE C vs H Q cD
theorem a1T:aO A5S A5S (aH qj):=0x0
def scE1:Scope:={ kind:=.function,names:=[0x79,("name",.local),("CROWN",.globalImplicit)],isGenerator:=false,isCoroutine:=false }
theorem csE1:fu A5S (aH qj) scE1 ["name"] [] []:=0xB
theorem ndE1:((["name"]:List Str)++([]:List Str)).Nodup:=by decide +kernel
theorem lR {Hz:Hp}{o:Obj} (h:H a=some 0x15) (s:Same (upd H a 0x40) Hz):Same H (upd Hz a 0x15):=fun b u q=>by
 by_cases e:b=a
 ·subst e;rw [h] at q;cases q;exact ao
 ·rw [ak e];exact s b u (by rw [ak e];exact q)
theorem Gk (T:dX K C)  (mC:mg "CROWN"=some (.str "" tc)) (ms:mg "sorted"=none) (F:fK K "estates" "Land.estates" qj f fd):aJ P w K mg base bM 1 f fd A5S (rD C):=by
 refine F.ok a1T 0x1 0x3;obtain ⟨x,dx,a1,a2,a3,a4,a5,lo,ho,ow,se,br,rfl,L,tk,hl,k⟩:=h;refine ⟨_,aG (aV (bG fQ rfl ms fV (aj (pF (gO rfl csE1 (tD 0xD) (fun s H fp C'=>⟨bC (i:=0) ndE1 rfl 0x7,kI (aQ nF 0x32 0x2F 0x61),pv 0⟩))) aC))),?_⟩;have nx:=aZ L.o L.l1 0x1C;refine ⟨a1,lo,L.l1,fun o=>⟨_,rfl,x,C,dx,_,_,rfl,by rw [ak nx];exact L.o,T.cl,T.n1,rfl,a1,o,lo,rfl,ao,fun D hD=>?_⟩⟩;have nD:a1≠D:=au (show (upd H a1 (.gH o (.dK lo))) a1=some (.gH o (.dK lo)) from ao) hD
 have qR:H D=none:=by rw [ak (A0m nD)] at hD;exact hD
 refine xJ (o:=o) (fun i ys Hz=>ys=((lo.take i).filter fun kv=>!decide (jx kv="")).map (fun kv=>V.str (jx kv))/\Same (upd H a1 (.gH o (.dK lo))) Hz/\Hz D=some 0x78) (fun i ys Hz h=>h.2.1 _ _ ao) ⟨rfl,aM hD _,ao⟩ (fun i ys Hz h=>h.2.2) ?_ ?_
 ·rintro i ys Hz kv hkv ⟨rfl,sz,jU⟩;rw [tk kv (vY hkv)];refine ⟨Kp.set rfl 0x69,?_⟩;refine ⟨_,rfl,rfl,_,rfl,?_⟩;rw [gC];refine iU 0x45 0x45
  ·refine ⟨_,rfl,jU,A1y (uR (A2k hl)) 0x5,?_,bK sz hD,ao⟩;rw [jK hkv,A0i c]
  ·refine ⟨?_,sz,jU⟩;rw [jK hkv,A0e c,A1u]
 ·rintro ys Hz ⟨rfl,sz,jU⟩;rw [A1d] at jU;refine ⟨sz _ _ ao,?_⟩;have s2:=lR L.l1 sz;have hDt:(upd Hz a1 (.dK lo)) D=some (.lst (((lo.filter fun kv=>!decide (jx kv="")).map jx).map V.str)):=by rw [ak (A0m nD),jU,strs_map]
  refine ⟨D,_,rfl,bO.of hDt,?_,fun l ss hl0 hp hs=>?_⟩
  ·rw [bV];exact A1y (A0K _ _) hl
  ·exact k l ss _ (bK s2 (s2.free hl0)) (s2.free hl0) ao hp hs
theorem a0k:aO A5K A5K (aH JN):=0x0
def a1U:Scope:={ kind:=.function,names:=[0x79,("name",.local),("holder",.local),("man",.free)],isGenerator:=false,isCoroutine:=false }
theorem a1V:fu A5K (aH JN) a1U ["name", "holder"] ["man"] [1]:=0xB
theorem YG:((["name", "holder"]:List Str)++(["man"]:List Str)).Nodup:=by decide +kernel
theorem zc {α:Type}{g:Key×V->α}{d:α}{kv:Key×V} (h:kvs[i]?=some kv):(kvs.map g).getD i d=g kv:=by rw [qQ,jW,h];rfl
theorem Wj (T:dX K C) (ms:mg "sorted"=none) (F:fK K "held" "Land.held" JN f fd):aJ P w K mg base bM 1 f fd A5K (za C):=by
 refine F.ok a0k 0x1 0x3;obtain ⟨x,dx,a1,a2,a3,a4,a5,lo,ho,ow,se,br,man,rfl,L,tk,tv,hl,k⟩:=h;refine ⟨_,aG (aV (bG fQ rfl ms fV (aj (pF (gO rfl a1V (uN 0xD) (fun s H fp C'=>⟨q8 (K:=K) (n:=2) rfl (bT (bC (i:=0) YG rfl 0x7) (bT (bC (i:=1) YG rfl 0x7) gM)),kI (aQ dI 0xF 0x2B 0x61),pv 0⟩))) aC))),?_⟩;have nx:=aZ L.o L.l2 0x1C;refine ⟨a2,ho,L.l2,fun o=>⟨_,rfl,x,C,dx,_,_,rfl,by rw [ak nx];exact L.o,T.cl,T.n2,rfl,a2,o,ho,rfl,ao,fun D hD=>?_⟩⟩;have nD:a2≠D:=au (show (upd H a2 (.gH o (.dK ho))) a2=some (.gH o (.dK ho)) from ao) hD
 refine pZ (n:=ho.length) (fx:=fun i=>(ho.map fun kv=>kV kv.1).getD i .non) (fy:=fun i=>(ho.map fun kv=>kv.2).getD i .non) (fun i ys Hz=>ys=((ho.take i).filter fun kv=>decide (kv.2=.str man)).map (fun kv=>V.str (jx kv))/\Same (upd H a2 (.gH o (.dK ho))) Hz/\Hz D=some 0x78)
  (fun i ys Hz h=>sJ (h.2.1 _ _ ao)) ⟨rfl,aM hD _,ao⟩ (fun i ys Hz h=>h.2.2) ?_ ?_
 ·rintro i ys Hz p hi ⟨rfl,sz,jU⟩ hp;have hkv:ho[i]?=some ho[i]:=ju hi;rw [zc hkv,zc hkv];have hm:=A0P hi;rw [tk _ hm];have npD:D≠p:=au jU hp;have sp:=aM hp (.tup [V.str (jx ho[i]),(ho[i]).2]);refine ⟨p,_,rfl,cj.of ao,rfl,_,_,rfl,_,_,rfl,rfl,Kp.set rfl (Kp.set rfl 0x69),?_⟩;have hsc:Pb (ho[i]).2 (V.str man)=true:=by
   rcases tv _ hm with e | ⟨z,e⟩ <;> rw [e] <;> rfl
  refine ⟨_,rfl,_,rfl,hsc,_,rfl,?_⟩;refine iU 0x45 0x45
  ·refine ⟨_,rfl,sp _ _ jU,A1y (uR (A2k hl)) 0x5,?_,bK (sz.trans sp) hD,ao⟩;rw [jK hkv,A0i c]
  ·refine ⟨?_,sz.trans sp,sp _ _ jU⟩;rw [jK hkv,A0e c,A1u]
 ·rintro ys Hz ⟨rfl,sz,jU⟩;rw [A1d] at jU;refine ⟨sz _ _ ao,?_⟩;have s2:=lR L.l2 sz;have hDt:(upd Hz a2 (.dK ho)) D=some (.lst (((ho.filter fun kv=>decide (kv.2=.str man)).map jx).map V.str)):=by rw [ak (A0m nD),jU,strs_map]
  refine ⟨D,_,rfl,bO.of hDt,?_,fun l ss hl0 hp hs=>?_⟩
  ·rw [bV];exact A1y (A0K _ _) hl
  ·exact k l ss _ (bK s2 (s2.free hl0)) (s2.free hl0) ao hp hs
theorem scUn:aO A5y A5y (aH yX):=0x0
def a1W:Scope:={ kind:=.function,names:=[0x79,("name",.local),("lord",.local),("estate",.free)],isGenerator:=false,isCoroutine:=false }
theorem a1X:fu A5y (aH yX) a1W ["name", "lord"] ["estate"] [1]:=0xB
theorem YH:((["name", "lord"]:List Str)++(["estate"]:List Str)).Nodup:=by decide +kernel
theorem QX (T:dX K C) (ms:mg "sorted"=none) (F:fK K "under" "Land.under" yX f fd)  (G1:aJ P w K mg base bM 2 g1 d1 A5y (iG C)) (m1:Meth K C "check_there" g1) (b1:Binds K d1 A5y []):aJ P w K mg base bM 3 f fd A5y (tE C):=by
 refine F.ok scUn 0x1 0x3;obtain ⟨x,dx,a1,a2,a3,a4,a5,lo,ho,ow,se,br,man,rfl,L,he,tk,tv,hl,k⟩:=h;refine ⟨_,aq (bL 0x22) (aG (aV (bG fQ rfl ms fV (aj (pF (gO rfl a1X (uN 0xD) (fun s H fp C'=>⟨q8 (K:=K) (n:=2) rfl (bT (bC (i:=0) YH rfl 0x7) (bT (bC (i:=1) YH rfl 0x7) gM)),kI (aQ dI 0xF 0x2B 0x61),pv 0⟩))) aC)))),?_⟩;refine ⟨_,rfl,x,dx,_,rfl,L.o,rfl,_,rfl,x,dx,a1,a2,a3,a4,a5,lo,ho,ow,se,br,man,rfl,L,he,?_⟩;have nx:=aZ L.o L.l1 0x1C;refine ⟨a1,lo,L.l1,fun o=>⟨_,rfl,x,C,dx,_,_,rfl,by rw [ak nx];exact L.o,T.cl,T.n1,rfl,a1,o,lo,rfl,ao,fun D hD=>?_⟩⟩;have nD:a1≠D:=au (show (upd H a1 (.gH o (.dK lo))) a1=some (.gH o (.dK lo)) from ao) hD
 refine pZ (n:=lo.length) (fx:=fun i=>(lo.map fun kv=>kV kv.1).getD i .non) (fy:=fun i=>(lo.map fun kv=>kv.2).getD i .non) (fun i ys Hz=>ys=((lo.take i).filter fun kv=>decide (kv.2=.str man)).map (fun kv=>V.str (jx kv))/\Same (upd H a1 (.gH o (.dK lo))) Hz/\Hz D=some 0x78)
  (fun i ys Hz h=>sJ (h.2.1 _ _ ao)) ⟨rfl,aM hD _,ao⟩ (fun i ys Hz h=>h.2.2) ?_ ?_
 ·rintro i ys Hz p hi ⟨rfl,sz,jU⟩ hp;have hkv:lo[i]?=some lo[i]:=ju hi;rw [zc hkv,zc hkv];have hm:=A0P hi;rw [tk _ hm];have npD:D≠p:=au jU hp;have sp:=aM hp (.tup [V.str (jx lo[i]),(lo[i]).2]);refine ⟨p,_,rfl,cj.of ao,rfl,_,_,rfl,_,_,rfl,rfl,Kp.set rfl (Kp.set rfl 0x69),?_⟩;have hsc:Pb (lo[i]).2 (V.str man)=true:=by
   rcases tv _ hm with e | ⟨z,e⟩ <;> rw [e] <;> rfl
  refine ⟨_,rfl,_,rfl,hsc,_,rfl,?_⟩;refine iU 0x45 0x45
  ·refine ⟨_,rfl,sp _ _ jU,A1y (uR (A2k hl)) 0x5,?_,bK (sz.trans sp) hD,ao⟩;rw [jK hkv,A0i c]
  ·refine ⟨?_,sz.trans sp,sp _ _ jU⟩;rw [jK hkv,A0e c,A1u]
 ·rintro ys Hz ⟨rfl,sz,jU⟩;rw [A1d] at jU;refine ⟨sz _ _ ao,?_⟩;have s2:=lR L.l1 sz;have hDt:(upd Hz a1 (.dK lo)) D=some (.lst (((lo.filter fun kv=>decide (kv.2=.str man)).map jx).map V.str)):=by rw [ak (A0m nD),jU,strs_map]
  refine ⟨D,_,rfl,bO.of hDt,?_,fun l ss hl0 hp hs=>?_⟩
  ·rw [bV];exact A1y (A0K _ _) hl
  ·exact k l ss _ (bK s2 (s2.free hl0)) (s2.free hl0) ao hp hs
inductive tG (C:Addr) (vs:List V) (H:Hp) (Q:VK) (cD:XK):Prop
 | mk (x dx a1 a2 a3 a4 a5:Addr) (lo ho ow se br:List 0x18) (e n man:Str) (acres service own:Int) (_:vs=[.ref x,.str e,.str n,.str man,.int acres,.int service]) (_:cg C H x dx a1 a2 a3 a4 a5 lo ho ow se br) (_:QK a1 a2 a3 a4 a5) (_:bH ow 0x31=some (.int own)) (_:lo.length<=900) (_:ho.length<=900) (_:ow.length<=800) (_:se.length<=900) (_:br.length<=900) (_:∀ t,H t=none->Q .non (Mt (upd (upd H a3 (.dK (putK ow 0x31 (.int (own - acres))))) t (.tup [.int service,.int 1])) a1 a2 a3 a4 a5 lo ho (putK ow 0x31 (.int (own - acres))) se br n e man acres t)):tG C vs H Q cD
def moved (lo:List 0x2C) (ss:List Str) (p:Str):List 0x2C:=ss.foldl (fun acc n=>putK acc 0x29 (.str p)) lo
theorem uT (lo:List 0x2C) (ss:List Str) (n p:Str):moved lo (ss++[n]) p=putK (moved lo ss p) 0x29 (.str p):=by
 unfold moved;rw [List.foldl_append];rfl
theorem xK (lo:List 0x2C) (p:Str) (ss:List Str):(moved lo ss p).length<=lo.length+ss.length:=by
 unfold moved
 induction ss generalizing lo with
 | nil=>exact A0f _
 | cons n r ih =>
  rw [A1o,oX];have h1:=ih (putK lo 0x29 (.str p));have h2:=fO lo 0x29 (.str p);lia
inductive zf (C:Addr) (vs:List V) (H:Hp) (Q:VK) (cD:XK):Prop
 | mk (x dx a1 a2 a3 a4 a5:Addr) (lo ho ow se br:List (Prod L2.Key V)) (e p:Str) (own1 zj:Int) (_:vs=[.ref x,.str e]) (_:cg C H x dx a1 a2 a3 a4 a5 lo ho ow se br) (_:QK a1 a2 a3 a4 a5) (_:bH lo 0x31=some (.str p)) (_:bH ow 0x31=some (.int own1)) (_:bH ow (.inr p)=some (.int zj)) (_:(bH ho 0x31).isSome=true) (_:(bH se 0x31).isSome=true) (_:(bH br 0x31).isSome=true) (_:TK lo) (_:TV lo) (_:lo.length<64) (_:ow.length<=800) (_:∀ ss H',ss.Perm ((lo.filter fun kv=>decide (kv.2=.str e)).map jx)->(bH (moved lo ss p) 0x31).isSome=true->cg C H' x dx a1 a2 a3 a4 a5 (jj (moved lo ss p) 0x31) (jj ho 0x31) (jj (putK ow (.inr p) (.int (zj+own1))) 0x31) (jj se 0x31) (jj br 0x31)->(∀ c o,c≠a1->c≠a2->c≠a3->c≠a4->c≠a5->H c=some o->H' c=some o)->Q .non H'):zf C vs H Q cD
theorem Gm {k:Key}{p:Str} (h:(bH lo k).isSome=true):∀ ss:List Str,(bH (moved lo ss p) k).isSome=true:=by
 intro ss;unfold moved
 induction ss generalizing lo with
 | nil=>exact h
 | cons n r ih =>
  rw [A1o];refine ih ?_;rw [bJ]
  by_cases q:k=.inr n
  ·rw [A0i q];rfl
  ·rw [A0e q];exact h
theorem Wk:aO A5Q A5Q (aH Ge):=0x0
theorem QZ (T:dX K C) (F:fK K "grant" "Land.grant" Ge f fd)  (G1:aJ P w K mg base bM 1 g1 d1 A5P (QL C)) (m1:Meth K C "add_estate" g1) (b1:Binds K d1 A5P []) :
  aJ P w K mg base bM 2 f fd A5Q (tG C):=by
 refine F.ok Wk 0x1 0x3;obtain ⟨x,dx,a1,a2,a3,a4,a5,lo,ho,ow,se,br,e,n,man,acres,service,own,rfl,L,ap,hn,e1,e2,e3,e4,e5,k⟩:=h;refine ⟨_,aq (tu 0x17 0xD 0xF (pv 4) Pz (fun _ _ _=>rfl))
  (aG (bL (bU 0x32 T.cl m1 G1 hr b1 .nil aX (aj 0x2B (aj 0xF (aj 0x5D (aj (pv 4) (aj (cP (aj (pv 5) (aj aA aC))) aC)))))))),?_⟩
 refine ⟨_,rfl,x,C,dx,_,_,rfl,L.o,T.cl,T.n3,rfl,_,rfl,a3,_,rfl,gZ L.l3 hn,_,rfl,_,_,rfl,rfl,_,jc.k (k:=.inr e) L.l3 (bR 0x2),?_⟩;have L1:cg C (upd H a3 (.dK (putK ow 0x31 (.int (own - acres))))) x dx a1 a2 a3 a4 a5 lo ho (putK ow 0x31 (.int (own - acres))) se br :=
  ⟨by rw [ak (aZ L.o L.l3 0x1C)];exact L.o,by rw [ak ap.n13];exact L.l1,by rw [ak ap.n23];exact L.l2,ao,by rw [ak (A0m ap.n34)];exact L.l4,by rw [ak (A0m ap.n35)];exact L.l5⟩
 refine ⟨_,rfl,x,dx,_,rfl,L1.o,rfl,_,rfl,_,rfl,_,rfl,_,rfl,_,rfl,small 0xA,fun t ht=>?_⟩;have nt:t≠a3:=fun q=>by rw [q,ao] at ht;cases ht
 have ht0:H t=none:=by rw [ak nt] at ht;exact ht
 have hl:=fO ow 0x31 (.int (own - acres));exact ⟨x,dx,a1,a2,a3,a4,a5,lo,ho,_,se,br,n,e,man,acres,t,rfl,L1.same (aM ht _),ap,e1,e2,by lia,e4,e5,k t ht0⟩
theorem Gn:aO ["self", "estate", "lord", "name"] A5y (aH QH):=0x0
theorem Wm (T:dX K C) (F:fK K "fall_back" "Land.fall_back" QH f fd)  (G1:aJ P w K mg base bM 3 g1 d1 A5y (tE C)) (m1:Meth K C "under" g1) (b1:Binds K d1 A5y []) :
  aJ P w K mg base bM 4 f fd A5y (zf C):=by
 refine F.ok Gn 0x1 0x3;obtain ⟨x,dx,a1,a2,a3,a4,a5,lo,ho,ow,se,br,e,p,own1,zj,rfl,L,ap,hlo,ho1,ho2,hh,hse,hbr,tk,tv,hl,how,k⟩:=h;refine ⟨_,aq (aR (i:=2) Gn.nd rfl 0x7 0x6F)
  (aq (tu 0x17 0xD 0x2B 0x6F Px (fun _ _ _=>rfl))
  (aq (gJ A0U rfl (eY 0x22) (bC (i:=3) Gn.nd rfl 0x7) (aG (dR 0x17 0xD 0x5D 0x2B rfl)))
  (aq (qb 0xD 0xF) (aq (qb 0xD 0xF) (aq (qb 0xD 0xF) (aq (qb 0xD 0xF) (aG (qb 0xD 0xF)))))))),?_⟩
 refine ⟨_,rfl,x,C,dx,_,_,rfl,L.o,T.cl,T.n1,rfl,_,rfl,_,_,rfl,gZ L.l1 hlo,?_⟩;refine ⟨_,rfl,x,C,dx,_,_,rfl,L.o,T.cl,T.n3,rfl,_,rfl,a3,_,rfl,gZ L.l3 ho2,_,rfl,x,C,dx,_,_,rfl,L.o,T.cl,T.n3,rfl,_,rfl,_,_,rfl,gZ L.l3 ho1,_,_,rfl,rfl,_,jc.k (k:=.inr p) L.l3 (bR 0x2),?_⟩;have L1:cg C (upd H a3 (.dK (putK ow (.inr p) (.int (zj+own1))))) x dx a1 a2 a3 a4 a5 lo ho (putK ow (.inr p) (.int (zj+own1))) se br :=
  ⟨by rw [ak (aZ L.o L.l3 0x1C)];exact L.o,by rw [ak ap.n13];exact L.l1,by rw [ak ap.n23];exact L.l2,ao,by rw [ak (A0m ap.n34)];exact L.l4,by rw [ak (A0m ap.n35)];exact L.l5⟩
 have Om:∀ c o,c≠a3->H c=some o->(upd H a3 (.dK (putK ow (.inr p) (.int (zj+own1))))) c=some o:=fun c o hc q=>by rw [ak hc];exact q
 have hown:(bH (putK ow (.inr p) (.int (zj+own1))) 0x31).isSome=true:=by
  rw [bJ]
  by_cases q:(Sum.inr e:Key)=.inr p
  ·rw [A0i q];rfl
  ·rw [A0e q,ho1];rfl
 generalize upd H a3 (.dK (putK ow (.inr p) (.int (zj+own1))))=H1 at L1 Om ⊢;generalize putK ow (.inr p) (.int (zj+own1))=ow1 at L1 hown k ⊢;refine ⟨_,rfl,x,dx,_,rfl,L1.o,rfl,_,rfl,x,dx,a1,a2,a3,a4,a5,lo,ho,ow1,se,br,e,rfl,L1,by rw [hlo];rfl,tk,tv,hl,fun r ss H2 s2 hr0 hr2 hp hs=>?_⟩;have hsl:ss.length<=lo.length:=by
  rw [hp.length_eq,bV];exact A0K _ _
 have L2:=L1.same s2;refine ⟨r,rfl,⟨_,bO.of hr2⟩,gq (K:=K) (a:=r) (xs:=ss.map V.str) (fun i σ Hx=>(∃ u3,σ=[some (.ref x),some (.str e),some (.str p),u3])/\Hx r=some 0x23/\cg C Hx x dx a1 a2 a3 a4 a5 (moved lo (ss.take i) p) ho ow1 se br/\∀ c o,c≠a1->H1 c=some o->Hx c=some o)
  ⟨⟨none,rfl⟩,hr2,L2,fun c o _ q=>s2 c o q⟩ (fun i σ Hx _ h=>bO.of h.2.1) ?_ ?_⟩
 ·rintro i v σ Hx hv ⟨⟨u3,rfl⟩,rx,Lx,fx⟩;rw [jW] at hv;obtain ⟨n,hn,rfl⟩:=A0v.mp hv;have hml:=xK lo p (ss.take i);rw [A0G] at hml;refine ⟨_,rfl,_,rfl,x,C,dx,_,_,rfl,Lx.o,T.cl,T.n1,rfl,_,rfl,a1,_,rfl,jc.k (k:=.inr n) Lx.l1 (bR 0x2),?_⟩;have em:moved lo (ss.take (i+1)) p=putK (moved lo (ss.take i) p) 0x29 (.str p):=by rw [A1f,hn];exact uT _ _ _ _
  refine ⟨⟨_,rfl⟩,by rw [ak (aZ rx Lx.l1 0x1C)];exact rx,⟨by rw [ak (aZ Lx.o Lx.l1 0x1C)];exact Lx.o,by rw [em];exact ao,by rw [ak (A0m ap.n12)];exact Lx.l2,by rw [ak (A0m ap.n13)];exact Lx.l3,by rw [ak (A0m ap.n14)];exact Lx.l4,by rw [ak (A0m ap.n15)];exact Lx.l5⟩,fun c o hc q=>by rw [ak hc];exact fx c o hc q⟩
 ·rintro σ Hx ⟨⟨u3,rfl⟩,rx,Lx,fx⟩;rw [bV,A1d] at Lx;have hmv:=Gm (p:=p) (show (bH lo 0x31).isSome=true by rw [hlo];rfl) ss
  have x1:=aZ Lx.o Lx.l1 0x1C;have x2:=aZ Lx.o Lx.l2 0x1C;have x3:=aZ Lx.o Lx.l3 0x1C;have x4:=aZ Lx.o Lx.l4 0x1C;have x5:=aZ Lx.o Lx.l5 0x1C;refine ⟨_,rfl,x,C,dx,_,_,rfl,Lx.o,T.cl,T.n1,rfl,_,rfl,a1,_,.inr e,rfl,Lx.l1,rfl,hmv,?_⟩;refine ⟨_,rfl,x,C,dx,_,_,rfl,by rw [ak x1];exact Lx.o,T.cl,T.n2,rfl,_,rfl,a2,_,.inr e,rfl,by rw [ak (A0m ap.n12)];exact Lx.l2,rfl,hh,?_⟩;refine ⟨_,rfl,x,C,dx,_,_,rfl,by rw [ak x2,ak x1];exact Lx.o,T.cl,T.n3,rfl,_,rfl,a3,_,.inr e,rfl,by rw [ak (A0m ap.n23),ak (A0m ap.n13)];exact Lx.l3,rfl,hown,?_⟩;refine ⟨_,rfl,x,C,dx,_,_,rfl,by rw [ak x3,ak x2,ak x1];exact Lx.o,T.cl,T.n4,rfl,_,rfl,a4,_,.inr e,rfl,by rw [ak (A0m ap.n34),ak (A0m ap.n24),ak (A0m ap.n14)];exact Lx.l4,rfl,hse,?_⟩;refine ⟨_,rfl,x,C,dx,_,_,rfl,by rw [ak x4,ak x3,ak x2,ak x1];exact Lx.o,T.cl,T.n5,rfl,_,rfl,a5,_,.inr e,rfl,by rw [ak (A0m ap.n45),ak (A0m ap.n35),ak (A0m ap.n25),ak (A0m ap.n15)];exact Lx.l5,rfl,hbr,?_⟩;refine k ss _ hp hmv ⟨?_,?_,?_,?_,?_,ao⟩ fun c o c1 c2 c3 c4 c5 q=>?_
  ·rw [ak x5,ak x4,ak x3,ak x2,ak x1];exact Lx.o
  ·rw [ak ap.n15,ak ap.n14,ak ap.n13,ak ap.n12,ao]
  ·rw [ak ap.n25,ak ap.n24,ak ap.n23,ao]
  ·rw [ak ap.n35,ak ap.n34,ao]
  ·rw [ak ap.n45,ao]
  ·rw [ak c5,ak c4,ak c3,ak c2,ak c1];exact fx c o c1 (Om c o c3 q)
end
abbrev R0:Stmt:=top 48
abbrev CV:Stmt:=top 49
def vZ (v:Int):Prop:=0<=v/\v<1000003
theorem zm {fs:List Int}{v:Int} (h:∀ x∈fs,vZ x) (hv:vZ v):∀ x∈fs++[v],vZ x:=fun x hx=>by
 rcases A0x.mp hx with z | z
 ·exact h x z
 ·rw [A0c.mp z];exact hv
theorem tH (fs:List Int) (v:Int):fs.map V.int++[V.int v]=(fs++[v]).map V.int:=by simp
inductive Gp (K:W.Frag) (vs:List V) (H:Hp) (Q:VK) (cD:XK):Prop
 | mk (a:Addr) (ns:List Int) (many:Int) (_:vs=[.ref a,.int many]) (_:bO K H a 0x42) (_:ns.length<=63) (_:0<=many) (_:many<=100000) (_:∀ (r:Addr) (H':Hp) (fs:List Int),Same H H'->H r=none->H' r=some (.lst 0x7A)->(fs.length:Int)=many->(∀ v∈fs,vZ v)->Q 0x71 H'):Gp K vs H Q cD
theorem lA:aO ["_law_script", "_law_many", "_law_feed_here", "_law_salt", "_law_cell", "_law_rest", "_law_k"] ["_law_script", "_law_many"] (aH R0):=0x0
theorem Wn (F:fK K "_law_feed" "_law_feed" R0 f fd) (mr:mg "range"=none) (ml:mg "len"=none):aJ P w K mg base bM 1 f fd ["_law_script", "_law_many"] (Gp K):=by
 refine F.ok lA 0x1 0x3;obtain ⟨a,ns,many,rfl,hS,h63,hm0,hm1,k⟩:=h;refine ⟨_,aq (aR (i:=2) lA.nd rfl 0x7 (dN aC))
  (aq (aR (i:=3) lA.nd rfl 0x7 aA)
  (aq (gJ A0U rfl (eY (fj jC 0x32 fY (cF aA))) (bC (i:=4) lA.nd rfl 0x7)
   (aq (aR (i:=3) lA.nd rfl 0x7 (aY bY (aY cZ (aY cZ (aY kY 0x5D aA) (aY bY (pv 4) aA)) aA) aA))
   (aq (aR (i:=5) lA.nd rfl 0x7 (aY yH (pv 4) (aY Zr aA aA)))
   (aq (bN (aQ ux (pv 5) aA 0x61)
     (aG (bL (iz A0z A0Q A0R cQ 0x2B (aj (aY bY (pv 4) aA) aC)))) aU)
   (aG (gJ A0U rfl (lH rfl mr (aj aA aC)) (bC (i:=6) lA.nd rfl 0x7)
    (aG (bN (aQ Ph (pv 5) aA 0x61)
     (aq (bL (iz A0z A0Q A0R cQ 0x2B (aj (aY bY (pv 5) aA) aC)))
     (aG (aR (i:=5) lA.nd rfl 0x7 (aY jB (pv 5) aA)))) aU))))))))
  (aq (gJ A0U rfl (lH rfl mr (aj (aY yH 0xF (bG cT rfl ml A1v 0x33)) aC)) (bC (i:=6) lA.nd rfl 0x7)
   (aq (aR (i:=3) lA.nd rfl 0x7 (aY bY (aY cZ (aY cZ (aY cZ (aY kY (aY kY 0x5D 0x5D) 0x5D) (aY kY aA 0x5D)) (aY kY aA (pv 6))) aA) aA))
   (aG (bL (iz A0z A0Q A0R cQ 0x2B (aj (aY bY (aY jB 0x5D aA) aA) aC))))))
  (aG (aV (fj jC 0x2B fY (cF 0xF))))))),?_⟩
 refine ⟨small 0xA,fun l hl=>?_⟩;have s1:Same H (upd H l 0x75):=aM hl _;refine ⟨_,rfl,_,rfl,a,_,rfl,s1.seq hS,fun p hp=>?_⟩;have npl:p≠l:=fun e=>by rw [e,ao] at hp;cases hp
 have hp0:H p=none:=by rw [ak npl] at hp;exact hp
 refine ⟨p,rfl,⟨_,bO.of ao⟩,gq (K:=K) (a:=p) (xs:=gK 0x42 none (some 63)) (fun i σ H2=>∃ (fs:List Int) (salt:Int) (c r k:Option V),σ=[some 0x3C,some (.int many),some (.ref l),some (.int salt),c,r,k]/\Same H H2 /\
   H2 p=some (.lst (gK 0x42 none (some 63)))/\H2 l=some (.lst 0x7A)/\fs.length<=61 * i/\(∀ v∈fs,vZ v)/\0<=salt/\salt<2147483647)
  ⟨[],29,none,none,none,rfl,bK s1 hp0,ao,by rw [ak (A0m npl),ao];rfl,A0X _,(fun v hv=>nomatch hv),by decide,by decide⟩ (fun i σ H2 _ ⟨_,_,_,_,_,_,_,hq,_⟩=>bO.of hq) ?_ ?_⟩
 ·rintro i y σ H2 hi ⟨fs,salt,c,r,kk,rfl,s2,hq,hL,hlen,hok,z0,z1⟩;have hil:i<(gK 0x42 none (some 63)).length:=(A0l.mp hi).1;have hcl:=kE 0x42 none (some 63);rw [bV] at hcl;obtain ⟨cell,rfl⟩:∃ z,y=V.int z:=by
   have hm:y∈gK 0x42 none (some 63):=vY hi;have hm2:y∈ns.map V.int:=A3r (A2o hm);obtain ⟨z,_,rfl⟩:=A0j.mp hm2;exact ⟨z,rfl⟩
  refine ⟨_,rfl,_,_,rfl,rfl,.inl ⟨by lia,by lia⟩,_,rfl,_,_,rfl,rfl,(by show (0:Int)<2147483629;decide),_,_,rfl,rfl,_,_,rfl,rfl,_,_,rfl,rfl,(by show (0:Int)<2147483647;decide),?_⟩
  refine ⟨_,rfl,_,_,rfl,rfl,⟨by decide,by decide,by decide⟩,_,_,rfl,rfl,?_⟩;have z0':0<=(salt * 69621+cell % 2147483629+11) % 2147483647:=A0V _ 0x5;have z1':(salt * 69621+cell % 2147483629+11) % 2147483647<2147483647:=A0N _ 0x5;refine ⟨_,rfl,_,_,rfl,rfl,_,rfl,?_⟩;refine iU 0x45 0x45
  ·refine ⟨_,rfl,.inl ⟨rfl,_,bO.of hL⟩,_,rfl,_,_,rfl,rfl,(by show (0:Int)<1000003;decide),l,_,_,rfl,rfl,hL,0x62,?_⟩
   have hgs:∃ gs:List Int,(upd H2 l (.lst (fs.map V.int++[V.int (cell % 1000003)]))) l=some (.lst (gs.map V.int))/\gs.length<=61 * i+1/\∀ v∈gs,vZ v :=
    ⟨fs++[cell % 1000003],by rw [ao,tH],by rw [iw,A0r];lia,zm hok ⟨A0V _ 0x5,A0N _ 0x5⟩⟩
   have s3:Same H (upd H2 l (.lst (fs.map V.int++[V.int (cell % 1000003)]))):=bK s2 hl;have hq3:(upd H2 l (.lst (fs.map V.int++[V.int (cell % 1000003)]))) p=some (.lst (gK 0x42 none (some 63))):=by rw [ak npl];exact hq
   generalize upd H2 l (.lst (fs.map V.int++[V.int (cell % 1000003)]))=H3 at hgs s3 hq3;obtain ⟨gs,hL3,hg1,hg2⟩:=hgs;refine ⟨60,rfl,by decide,by decide,lK (lo:=0) (n:=60) (fun j σ H4=>∃ (hs:List Int) (rest nP:Int) (k:Option V),σ=[some 0x3C,some (.int many),some (.ref l),some (.int nP),some (.int cell),some (.int rest),k]/\0<=nP/\nP<2147483647/\Same H H4 /\
    H4 p=some (.lst (gK 0x42 none (some 63)))/\H4 l=some (.lst (hs.map V.int))/\hs.length<=61 * i+1+j/\(∀ v∈hs,vZ v)) ⟨gs,_,_,kk,rfl,z0',z1',s3,hq3,hL3,hg1,hg2⟩ ?_ ?_⟩
   ·rintro j σ H4 hj ⟨hs,rest,nP,k',rfl,x0,x1,s4,Wq,Fb,hh1,MF⟩;refine ⟨_,rfl,_,_,rfl,rfl,_,rfl,?_⟩;refine iU 0x45 0x45
    ·refine ⟨_,rfl,.inl ⟨rfl,_,bO.of Fb⟩,_,rfl,_,_,rfl,rfl,(by show (0:Int)<1009;decide),l,_,_,rfl,rfl,Fb,0x62,?_⟩
     refine ⟨_,rfl,_,_,rfl,rfl,⟨by decide,by decide⟩,?_⟩;exact ⟨hs++[rest % 1009],_,_,_,rfl,x0,x1,bK s4 hl,by rw [ak npl];exact Wq,by rw [ao,tH],by rw [iw,A0r];lia,
      zm MF ⟨A0V _ 0x5,by have:=A0N rest (show (0:Int)<1009 by decide);lia⟩⟩
    ·exact ⟨hs,_,_,_,rfl,x0,x1,s4,Wq,Fb,by lia,MF⟩
   ·rintro σ H4 ⟨hs,rest,nP,k',rfl,x0,x1,s4,Wq,Fb,hh1,MF⟩;exact ⟨hs,_,_,_,_,rfl,s4,Wq,Fb,by lia,MF,x0,x1⟩
  ·obtain ⟨gs,hL3,hg1,hg2⟩:∃ gs:List Int,H2 l=some (.lst (gs.map V.int))/\gs.length<=61 * i+1/\∀ v∈gs,vZ v:=⟨fs,hL,by lia,hok⟩;refine ⟨60,rfl,by decide,by decide,lK (lo:=0) (n:=60) (fun j σ H4=>∃ (hs:List Int) (rest nP:Int) (k:Option V),σ=[some 0x3C,some (.int many),some (.ref l),some (.int nP),some (.int cell),some (.int rest),k]/\0<=nP/\nP<2147483647/\Same H H4 /\
    H4 p=some (.lst (gK 0x42 none (some 63)))/\H4 l=some (.lst (hs.map V.int))/\hs.length<=61 * i+1+j/\(∀ v∈hs,vZ v)) ⟨gs,_,_,kk,rfl,z0',z1',s2,hq,hL3,hg1,hg2⟩ ?_ ?_⟩
   ·rintro j σ H4 hj ⟨hs,rest,nP,k',rfl,x0,x1,s4,Wq,Fb,hh1,MF⟩;refine ⟨_,rfl,_,_,rfl,rfl,_,rfl,?_⟩;refine iU 0x45 0x45
    ·refine ⟨_,rfl,.inl ⟨rfl,_,bO.of Fb⟩,_,rfl,_,_,rfl,rfl,(by show (0:Int)<1009;decide),l,_,_,rfl,rfl,Fb,0x62,?_⟩
     refine ⟨_,rfl,_,_,rfl,rfl,⟨by decide,by decide⟩,?_⟩;exact ⟨hs++[rest % 1009],_,_,_,rfl,x0,x1,bK s4 hl,by rw [ak npl];exact Wq,by rw [ao,tH],by rw [iw,A0r];lia,
      zm MF ⟨A0V _ 0x5,by have:=A0N rest (show (0:Int)<1009 by decide);lia⟩⟩
    ·exact ⟨hs,_,_,_,rfl,x0,x1,s4,Wq,Fb,by lia,MF⟩
   ·rintro σ H4 ⟨hs,rest,nP,k',rfl,x0,x1,s4,Wq,Fb,hh1,MF⟩;exact ⟨hs,_,_,_,_,rfl,s4,Wq,Fb,by lia,MF,x0,x1⟩
 ·rintro σ H2 ⟨fs,salt,c,r,kk,rfl,s2,hq,hL,hlen,hok,z0,z1⟩;have hcl:=kE 0x42 none (some 63);rw [bV] at hcl;refine ⟨_,rfl,_,rfl,l,_,rfl,.inl (bO.of hL),_,_,rfl,rfl,many - (fs.length:Int),(by rw [bV]),by lia,by lia,?_⟩;refine lK (lo:=0) (n:=(many - (fs.length:Int)).toNat) (fun j σ H4=>∃ (hs:List Int) (salt:Int) (k:Option V),σ=[some 0x3C,some (.int many),some (.ref l),some (.int salt),c,r,k]/\Same H H4 /\
    H4 l=some (.lst (hs.map V.int))/\hs.length=fs.length+j/\(∀ v∈hs,vZ v)/\0<=salt/\salt<2147483647) ⟨fs,salt,kk,rfl,s2,hL,rfl,hok,z0,z1⟩ ?_ ?_
  ·rintro j σ H4 hj ⟨hs,salt,k',rfl,s4,Fb,hh1,MF,y0,y1⟩;refine ⟨_,rfl,_,rfl,_,_,rfl,rfl,.inl ⟨by lia,by lia⟩,_,rfl,_,_,rfl,rfl,.inr ⟨by lia,by lia⟩,_,rfl,_,_,rfl,rfl,.inl ⟨by decide,by decide⟩,_,_,rfl,rfl,_,rfl,_,_,rfl,rfl,.inl ⟨by decide,by decide⟩,_,_,rfl,rfl,_,_,rfl,rfl,_,_,rfl,rfl,(by show (0:Int)<2147483629;decide),?_⟩
   refine ⟨_,rfl,.inl ⟨rfl,_,bO.of Fb⟩,_,rfl,_,_,rfl,rfl,⟨by decide,by decide⟩,_,_,rfl,rfl,(by show (0:Int)<1009;decide),l,_,_,rfl,rfl,Fb,0x62,?_⟩
   refine ⟨hs++[_],_,_,rfl,bK s4 hl,by rw [ao,tH],by rw [iw,A0r];lia,zm MF ⟨A0V _ 0x5,?_⟩,A0V _ 0x5,?_⟩
   ·have:=A0N ((salt * salt * salt+48271 * salt+13 * (0+(j:Int))+5) % 2147483629 / 1013) (show (0:Int)<1009 by decide)
    lia
   ·have:=A0N (salt * salt * salt+48271 * salt+13 * (0+(j:Int))+5) (show (0:Int)<2147483629 by decide)
    lia
  ·rintro σ H4 ⟨hs,salt,k',rfl,s4,Fb,hh1,MF,y0,y1⟩;refine ⟨_,rfl,_,rfl,many,rfl,l,_,rfl,bO.of Fb,fun q hq'=>?_⟩;have hcut:gK (hs.map V.int) none (some many)=(hs.take many.toNat).map V.int:=by
    unfold gK;have e1:HT.eN (hs.map V.int).length 0 none=0:=rfl;have e2:HT.eN (hs.map V.int).length (hs.map V.int).length (some many)=min many.toNat (hs.map V.int).length:=by
     have em:many=((many.toNat:Nat):Int):=by lia
     generalize many.toNat=mm at em ⊢;rw [em,HT.jZ]
    rw [e1,e2,A4L,List.map_take,Nat.sub_zero,bV];rw [List.take_eq_take_iff,bV];lia
   refine k q _ (hs.take many.toNat) (bK s4 (s4.free hq')) (s4.free hq') (by rw [ao,hcut]) ?_ fun v hv=>MF v (A2o hv);rw [A0G];lia
def YJ:V->Bool
 | .non | .bl _ | .int _ | .str _=>true
 | _=>false
def R5 (H:Hp):Nat->V->V->Prop
 | 0,_,_=>False
 | n+1,x,y=>(x=y/\YJ x=true)\/(∃ p q xs ys,x=.ref p/\y=.ref q/\H p=some 0x35/\H q=some (.tup ys)/\xs.length=ys.length/\xs.length<=1000/\∀ (i:Nat) (x y:V),xs[i]?=some x->ys[i]?=some y->R5 H n x y) \/
  (∃ p q xs ys,x=.ref p/\y=.ref q/\H p=some 0x67/\H q=some 0x78/\xs.length=ys.length/\xs.length<=1000/\∀ (i:Nat) (x y:V),xs[i]?=some x->ys[i]?=some y->R5 H n x y)
theorem R5.same (s:Same H H'):∀ {n:Nat}{x y:V},R5 H n x y->R5 H' n x y
 | 0,_,_,h=>h
 | n+1,x,y,h=>by
  rcases h with h | ⟨p,q,xs,ys,e1,e2,e3,e4,e5,e6,e7⟩ | ⟨p,q,xs,ys,e1,e2,e3,e4,e5,e6,e7⟩
  ·exact .inl h
  ·exact .inr (.inl ⟨p,q,xs,ys,e1,e2,s _ _ e3,s _ _ e4,e5,e6,fun i x y h1 h2=>(e7 i x y h1 h2).same s⟩)
  ·exact .inr (.inr ⟨p,q,xs,ys,e1,e2,s _ _ e3,s _ _ e4,e5,e6,fun i x y h1 h2=>(e7 i x y h1 h2).same s⟩)
inductive pG (n:Nat) (vs:List V) (H:Hp) (Q:VK) (cD:XK):Prop
 | mk (x y:V) (_:vs=[x,y]) (_:R5 H n x y) (_:∀ H',Same H H'->Q (.bl true) H'):pG n vs H Q cD
structure Ms (K:PySem.W.Frag) (mg:Str->Option Value) (x:Str) (g:Addr) (gd:FuncData) (ps:List Str):Prop where
 b:Binds K gd ps []
 k:PySem.W.keepIn K (.ref g)=true
 m:mg x=some (.ref g)
structure MgS (mg:Str->Option Value):Prop where
 Vq:mg "isinstance"=none
 bool:mg "bool"=none
 int:mg "int"=none
 str:mg "str"=none
 list:mg "list"=none
 tuple:mg "tuple"=none
 len:mg "len"=none
 all:mg "all"=none
 zip:mg "zip"=none
theorem a0l:aO A5L A5L (aH CV):=0x0
def scS1:Scope:={ kind:=.function,names:=[0x79,("_law_one",.local),("_law_other",.local),("_law_same",.globalImplicit)],isGenerator:=false,isCoroutine:=false }
theorem csS1:fu A5L (aH CV) scS1 A5Z [] []:=0xB
theorem Wr:((A5Z:List Str)++([]:List Str)).Nodup:=by decide +kernel
theorem all_true {bs:List Bool} (h:∀ b∈bs,b=true):bs.all id=true:=A1I.mpr fun b hb=>h b hb
theorem Ra (n:Nat):List.replicate n (V.bl true)=(List.replicate n true).map V.bl:=by rw [A4O]
theorem Rb (F:fK K "_law_same" "_law_same" CV f fd) (m:MgS mg) (M:Ms K mg "_law_same" f fd A5L) (G:aJ P w K mg base bM n f fd A5L (pG n)):aJ P w K mg base bM (n+1) f fd A5L (pG (n+1)):=by
 refine F.ok a0l 0x1 0x3;obtain ⟨x,y,rfl,heq,k⟩:=h;refine ⟨_,aq (bN (yF (OD 0xF)) (aG (aV (Fj (OD 0x32)))) aU)
  (aq (bN (dY (bG (cU (K:=K)) rfl m.Vq cI (aj 0xF (aj (jd rfl m.bool yQ rfl (v:=.ty "bool")) aC))))
   (aG (aV (nj (bG (cU (K:=K)) rfl m.Vq cI (aj 0x32 (aj (jd rfl m.bool yQ rfl (v:=.ty "bool")) aC))) (um (je dI 0x32 0xF 0x61))))) aU)
  (aq (bN (dY (bG (cU (K:=K)) rfl m.Vq cI (aj 0xF (aj (jd rfl m.tuple Ck rfl (v:=.ty "tuple")) aC))))
   (aq (bN (PW.pt (ug (gP (dY (bG (cU (K:=K)) rfl m.Vq cI (aj 0x32 (aj (jd rfl m.tuple Ck rfl (v:=.ty "tuple")) aC))))) (oZ (aQ nF (bG (oF (K:=K)) rfl m.len A1v 0x82) (bG (oF (K:=K)) rfl m.len A1v 0x38) 0x61)))) (aG (aV Bt)) aU)
   (aG (aV (bG (lN (K:=K) rfl hr.hd) rfl m.all uI (aj (gO rfl csS1 (Qq rfl m.zip 0x89)
    (fun s H fp C=>⟨q8 (K:=K) (n:=2) rfl (bT (bC (i:=0) Wr rfl 0x7) (bT (bC (i:=1) Wr rfl 0x7) gM)),mj,bF G hr rfl M.m M.k M.b .nil aX 0x89⟩)) aC))))) aU)
  (aq (bN (dY (bG (cU (K:=K)) rfl m.Vq cI (aj 0xF (aj (jd rfl m.list oG rfl (v:=.ty "list")) aC))))
   (aq (bN (PW.pt (ug (gP (dY (bG (cU (K:=K)) rfl m.Vq cI (aj 0x32 (aj (jd rfl m.list oG rfl (v:=.ty "list")) aC))))) (oZ (aQ nF (bG (oF (K:=K)) rfl m.len A1v 0x82) (bG (oF (K:=K)) rfl m.len A1v 0x38) 0x61)))) (aG (aV Bt)) aU)
   (aG (aV (bG (lN (K:=K) rfl hr.hd) rfl m.all uI (aj (gO rfl csS1 (Qs rfl m.zip 0x89)
    (fun s H fp C=>⟨q8 (K:=K) (n:=2) rfl (bT (bC (i:=0) Wr rfl 0x7) (bT (bC (i:=1) Wr rfl 0x7) gM)),mj,bF G hr rfl M.m M.k M.b .nil aX 0x89⟩)) aC))))) aU)
  (aq (bN (dY (bG (cU (K:=K)) rfl m.Vq cI (aj 0xF (aj (jd rfl m.str Qj rfl (v:=.ty "str")) aC))))
   (aG (aV (nj (bG (cU (K:=K)) rfl m.Vq cI (aj 0x32 (aj (jd rfl m.str Qj rfl (v:=.ty "str")) aC))) (um (je dI 0x32 0xF 0x61))))) aU)
  (aG (aV (nj (bG (cU (K:=K)) rfl m.Vq cI (aj 0x32 (aj (jd rfl m.int ZL rfl (v:=.ty "int")) aC)))
   (nj (Zf (bG (cU (K:=K)) rfl m.Vq cI (aj 0x32 (aj (jd rfl m.bool yQ rfl (v:=.ty "bool")) aC)))) (um (je dI 0x32 0xF 0x61)))))))))),?_⟩
 rcases heq with ⟨rfl,hsc⟩ | ⟨p,q,xs,ys,rfl,rfl,hp,hq,hl,hz,hi⟩ | ⟨p,q,xs,ys,rfl,rfl,hp,hq,hl,hz,hi⟩
 ·cases x with
  | non=>exact ⟨_,rfl,_,rfl,dU ⟨_,rfl,k _ 0x5C⟩⟩
  | bl b =>
   refine ⟨_,rfl,_,rfl,cu ?_⟩;refine ⟨_,rfl,_,_,_,true,rfl,.bl b,rfl,_,rfl,dU ?_⟩;refine ⟨_,rfl,_,_,_,true,rfl,.bl b,rfl,_,rfl,dU ?_⟩;refine ⟨_,rfl,_,rfl,rfl,?_⟩
   show Q (.bl (decide (V.bl b=V.bl b))) H
   rw [A0k rfl];exact k _ 0x5C
  | int i =>
   refine ⟨_,rfl,_,rfl,cu ?_⟩;refine ⟨_,rfl,_,_,_,false,rfl,.int i,rfl,_,rfl,cu ?_⟩;refine ⟨_,rfl,_,_,_,false,rfl,.int i,rfl,_,rfl,cu ?_⟩;refine ⟨_,rfl,_,_,_,false,rfl,.int i,rfl,_,rfl,cu ?_⟩;refine ⟨_,rfl,_,_,_,false,rfl,.int i,rfl,_,rfl,cu ?_⟩;refine ⟨_,rfl,_,_,_,true,rfl,.int i,rfl,_,rfl,dU ?_⟩;refine ⟨_,rfl,_,_,_,false,rfl,.int i,rfl,_,rfl,_,rfl,dU ?_⟩;refine ⟨_,rfl,_,rfl,rfl,?_⟩
   show Q (.bl (decide (V.int i=V.int i))) H
   rw [A0k rfl];exact k _ 0x5C
  | str z =>
   refine ⟨_,rfl,_,rfl,cu ?_⟩;refine ⟨_,rfl,_,_,_,false,rfl,.str z,rfl,_,rfl,cu ?_⟩;refine ⟨_,rfl,_,_,_,false,rfl,.str z,rfl,_,rfl,cu ?_⟩;refine ⟨_,rfl,_,_,_,false,rfl,.str z,rfl,_,rfl,cu ?_⟩;refine ⟨_,rfl,_,_,_,true,rfl,.str z,rfl,_,rfl,dU ?_⟩;refine ⟨_,rfl,_,_,_,true,rfl,.str z,rfl,_,rfl,dU ?_⟩;refine ⟨_,rfl,_,rfl,rfl,?_⟩
   show Q (.bl (decide (V.str z=V.str z))) H
   rw [A0k rfl];exact k _ 0x5C
  | J3 _=>cases hsc
  | flt _=>cases hsc
  | ref _=>cases hsc
  | ty _=>cases hsc
 ·refine ⟨_,rfl,_,rfl,cu ?_⟩;refine ⟨_,rfl,_,_,_,false,rfl,.tup hq,rfl,_,rfl,cu ?_⟩;refine ⟨_,rfl,_,_,_,true,rfl,.tup hq,rfl,_,rfl,dU ?_⟩;refine ⟨_,rfl,_,_,_,true,rfl,.tup hp,rfl,_,rfl,cu ?_⟩;refine ⟨_,rfl,p,xs,rfl,.inr (cj.of hp),_,rfl,q,ys,rfl,.inr (cj.of hq),rfl,_,rfl,?_⟩;refine Yv (by rw [hl]) ?_;refine ⟨_,rfl,_,rfl,p,q,rfl,⟨_,cj.of hp⟩,⟨_,cj.of hq⟩,fun D hD=>?_⟩;refine pZ (n:=xs.length) (fx:=fun i=>xs.getD i .non) (fy:=fun i=>ys.getD i .non) (fun i zs H2=>zs=List.replicate i (V.bl true)/\Same H H2/\H2 D=some (.lst zs)) (fun i zs H2 ⟨_,s2,_⟩=>Cr (cj.of (s2 _ _ hp)) (cj.of (s2 _ _ hq)) hl) ⟨rfl,aM hD _,ao⟩ (fun i zs H2 h=>h.2.2) ?_ ?_
  ·rintro i zs H2 r hir ⟨rfl,s2,hD2⟩ hr2;have nrD:D≠r:=au hD2 hr2;have e1:xs[i]?=some (xs.getD i .non):=by rw [qQ,ju hir];rfl
   have e2:ys[i]?=some (ys.getD i .non):=by rw [qQ,ju 0x2];rfl
   have s3:Same H (upd H2 r (.tup [xs.getD i .non,ys.getD i .non])):=bK s2 (s2.free hr2);refine ⟨r,_,rfl,cj.of ao,rfl,_,_,rfl,_,_,rfl,rfl,Kp.set rfl (Kp.set rfl 0x69),?_⟩;refine jN ?_;refine ⟨_,rfl,_,rfl,_,_,rfl,(hi i _ _ e1 e2).same s3,fun H4 s4=>⟨s4 _ _ (by rw [ak nrD];exact hD2),?_,?_,bK (s3.trans s4) hD,ao⟩⟩
   ·rw [A1R];exact bR 0x2
   ·rw [A4j]
  ·rintro zs H2 ⟨rfl,s2,hD2⟩;refine ⟨D,List.replicate xs.length true,rfl,bO.of (by rw [<- Ra];exact hD2),?_⟩;rw [all_true fun b hb=>A2m hb];exact k _ s2
 ·refine ⟨_,rfl,_,rfl,cu ?_⟩;refine ⟨_,rfl,_,_,_,false,rfl,.lst hq,rfl,_,rfl,cu ?_⟩;refine ⟨_,rfl,_,_,_,false,rfl,.lst hq,rfl,_,rfl,cu ?_⟩;refine ⟨_,rfl,_,_,_,true,rfl,.lst hq,rfl,_,rfl,dU ?_⟩;refine ⟨_,rfl,_,_,_,true,rfl,.lst hp,rfl,_,rfl,cu ?_⟩;refine ⟨_,rfl,p,xs,rfl,.inl (bO.of hp),_,rfl,q,ys,rfl,.inl (bO.of hq),rfl,_,rfl,?_⟩;refine Yv (by rw [hl]) ?_;refine ⟨_,rfl,_,rfl,p,q,rfl,⟨_,bO.of hp⟩,⟨_,bO.of hq⟩,fun D hD=>?_⟩;refine pZ (n:=xs.length) (fx:=fun i=>xs.getD i .non) (fy:=fun i=>ys.getD i .non) (fun i zs H2=>zs=List.replicate i (V.bl true)/\Same H H2/\H2 D=some (.lst zs)) (fun i zs H2 ⟨_,s2,_⟩=>Cu (bO.of (s2 _ _ hp)) (bO.of (s2 _ _ hq)) hl) ⟨rfl,aM hD _,ao⟩ (fun i zs H2 h=>h.2.2) ?_ ?_
  ·rintro i zs H2 r hir ⟨rfl,s2,hD2⟩ hr2;have nrD:D≠r:=au hD2 hr2;have e1:xs[i]?=some (xs.getD i .non):=by rw [qQ,ju hir];rfl
   have e2:ys[i]?=some (ys.getD i .non):=by rw [qQ,ju 0x2];rfl
   have s3:Same H (upd H2 r (.tup [xs.getD i .non,ys.getD i .non])):=bK s2 (s2.free hr2);refine ⟨r,_,rfl,cj.of ao,rfl,_,_,rfl,_,_,rfl,rfl,Kp.set rfl (Kp.set rfl 0x69),?_⟩;refine jN ?_;refine ⟨_,rfl,_,rfl,_,_,rfl,(hi i _ _ e1 e2).same s3,fun H4 s4=>⟨s4 _ _ (by rw [ak nrD];exact hD2),?_,?_,bK (s3.trans s4) hD,ao⟩⟩
   ·rw [A1R];exact bR 0x2
   ·rw [A4j]
  ·rintro zs H2 ⟨rfl,s2,hD2⟩;refine ⟨D,List.replicate xs.length true,rfl,bO.of (by rw [<- Ra];exact hD2),?_⟩;rw [all_true fun b hb=>A2m hb];exact k _ s2
theorem zp (F:fK K "_law_same" "_law_same" CV f fd) (m:MgS mg) (M:Ms K mg "_law_same" f fd A5L):∀ n:Nat,aJ P w K mg base bM n f fd A5L (pG n)
 | 0=>⟨fun vs H Q E ⟨x,y,_,h,_⟩=>h.elim,fun A outer s H args us vs Q E _ _ _ _ ⟨x,y,_,h,_⟩=>h.elim⟩
 | n+1=>Rb F m M (zp F m M n)
def jF (H:Hp) (p:Addr) (t b:Int):Prop:=H p=some (.tup [.int t,.int b])
def Bd (e:Nat) (x:Int×Int):Prop:=x.1.natAbs<10 ^ e/\0<x.2/\x.2.natAbs<10 ^ e
theorem Bd.mono {e f:Nat}{x:Int×Int} (h:Bd e x) (he:e<=f):Bd f x:=⟨A0q h.1 (A3s 0x5 he),h.2.1,A0q h.2.2 (A3s 0x5 he)⟩
abbrev JT:Stmt:=top 12
abbrev a0m:Stmt:=top 23
def KTp (K:PySem.W.Frag) (a:Addr) (xs:List V):Prop:=∃ (o:Obj) (its:Array Value) (n:Nat),K.lookup a=some o/\o.cls=.type "tuple"/\o.data=.seq its n/\its.size<=sizeLine/\Vals xs its.toList
theorem KTp.sq (h:KTp K a xs) (H:Hp):cj K H a xs:=.inr h
structure Ws (K:PySem.W.Frag) (P:Params) (mg:Str->Option Value):Prop where
 bounds:∃ a b1 b2 b3 b4 b5 b6 b7,mg "BOUNDS"=some 0x3C/\KD K P a [("day",.ref b1),("acres",.ref b2),("service",.ref b3),("bears",.ref b4),("edge",.ref b5),("number",.ref b6),("entry",.ref b7)]/\KTp K b2 [.int 1,.int 9999]
 crown:∃ t,mg "CROWN"=some (.str "" t)
inductive Gq (vs:List V) (H:Hp) (Q:VK) (cD:XK):Prop
 | mk (n:Int) (_:vs=[.str "acres",.int n]) (_:1<=n) (_:n<=9999) (_:Q (.bl true) H):Gq vs H Q cD
inductive JV (vs:List V) (H:Hp) (Q:VK) (cD:XK):Prop
 | mk (n:Int) (_:vs=[.int n]) (_:1<=n) (_:n<=9999) (_:Q .non H):JV vs H Q cD
abbrev mX (v:V):List 0x2C:=[(.inr "",v)]
inductive zu (C:Addr) (vs:List V) (H:Hp) (Q:VK) (cD:XK):Prop
 | mk (x dx:Addr) (n:Int) (_:vs=[.ref x,.int n]) (_:H x=some (.ins C dx [])) (_:1<=n) (_:n<=9999) (_:∀ a1 a2 a3 a4 a5 t H',(∀ c o,c≠x->H c=some o->H' c=some o)->cg C H' x dx a1 a2 a3 a4 a5 (mX .non) (mX (.str "")) (mX (.int n)) (mX 0x70) (mX (.int n))->QK a1 a2 a3 a4 a5->H a1=none->H a2=none->H a3=none->H a4=none->H a5=none->H t=none->jF H' t 0 1->Q .non H'):zu C vs H Q cD
theorem iH {k v:Expr}{tk:TE} (hk:PE X k tk) (hv:PE X v tv):PE X (.Dict [some k] [v] pos) (oV [(tk,tv)]):=by
 refine JC ?h ?a ?b ?c ?d
 case a=>exact rfl
 case b=>exact rfl
 case c=>exact List.cons_ne_nil _ _
 case d=>exact A1h rfl
 case h=>exact iD hk hv Jz
theorem zx {f:Str}{rest:TS}{D:Ends} (h:tv σ H fun y H1=>ta σ H1 fun x H2=>yI K f { D with nx:=rest D } σ y x H2):OJ (Zu K ta tv f) rest D σ H:=h
theorem a0n {f:Str}{D:Ends} (h:tv σ H fun y H1=>ta σ H1 fun x H2=>yI K f D σ y x H2):Zu K ta tv f D σ H:=h
theorem lU {x:Addr}{o':HO} (h0:H x=some o) (h1:H' x=some o') (f:∀ c o,c≠x->H c=some o->H' c=some o):∀ c,H' c=none->H c=none:=fun c hc=>by
 cases q:H c with
 | none=>rfl
 | some u =>
  by_cases hcx:c=x
  ·rw [hcx,h1] at hc;cases hc
  ·rw [f c u hcx q] at hc;cases hc
theorem qp {k:Str}{Q:VK} (h:∀ p,H p=none->∀ Q':VK,(∀ y H2,H2 p=some (.dK [])->Q 0x48 (upd H2 p (.dK [(.inr k,y)]))->Q' y H2)->tv σ (upd H p (.dK [])) Q'):oV [(tC (.str k),tv)] σ H Q:=by
 intro p hp
 show tv σ _ _
 refine h p hp _ fun y H2 e q=>?_;exact ⟨e,[(.inr k,y)],rfl,A1h rfl,q⟩
theorem rE:aO ["sort", "piece", "least", "greatest"] ["sort", "piece"] (aH JT):=0x0
theorem Wt (F:fK K "fits" "fits" JT f fd) (mo:Ws K w.params mg):aJ P w K mg base bM 1 f fd ["sort", "piece"] Gq:=by
 obtain ⟨aB,b1,b2,b3,b4,b5,b6,b7,mB,kB,t2⟩:=mo.bounds;refine F.ok rE 0x1 0x3;obtain ⟨n,rfl,h1,h2,k⟩:=h;refine ⟨_,aq (bN (aQ JD 0x32 (cR rfl mB rfl (v:=.ref aB)) 0x11)
   (aq (yG (aP JF (cR rfl mB rfl (v:=.ref aB)) 0x32 0x4) (nu rfl (bT (bC (i:=2) rE.nd rfl 0x7) (bT (bC (i:=3) rE.nd rfl 0x7) gM))))
   (aG (aV (BK Bw Bw 0x2B 0xF 0x5D)))) aU) cA,?_⟩
 refine ⟨_,rfl,_,aB,_,rfl,rfl,kB,_,rfl,dU ?_⟩;refine ⟨_,rfl,aB,_,_,_,rfl,rfl,kB,rfl,?_⟩;refine ⟨b2,_,rfl,t2.sq _,rfl,_,_,rfl,_,_,rfl,rfl,?_⟩;refine ⟨_,rfl,_,rfl,_,_,rfl,rfl,_,rfl,?_⟩;rw [A0k h1];refine dU ⟨_,rfl,_,_,rfl,rfl,?_⟩
 show Q (.bl (decide (n<=9999))) H
 rw [A0k h2];exact k
theorem a1Y:aO ["acres"] ["acres"] (aH a0m):=0x0
theorem a0o (F:fK K "check_acres" "check_acres" a0m f fd)  (G1:aJ P w K mg base bM 1 g1 d1 ["sort", "piece"] Gq) (M1:Ms K mg "fits" g1 d1 ["sort", "piece"]):aJ P w K mg base bM 2 f fd ["acres"] JV:=by
 refine F.ok a1Y 0x1 0x3;obtain ⟨n,rfl,h1,h2,k⟩:=h;refine ⟨_,aG (bN (gP (dY (bF G1 hr rfl M1.m M1.k M1.b .nil aX (aj aK 0x82)))) cA aU),?_⟩;exact ⟨_,rfl,n,rfl,h1,h2,_,rfl,cu k⟩
theorem a0p:aO A5V A5V (aH QF):=0x0
theorem Wu (T:dX K C) (F:fK K "__init__" "Land.__init__" QF f fd) (mo:Ws K w.params mg)  (G1:aJ P w K mg base bM 2 g1 d1 ["acres"] JV) (M1:Ms K mg "check_acres" g1 d1 ["acres"]):aJ P w K mg base bM 3 f fd A5V (zu C):=by
 obtain ⟨tc,mC⟩:=mo.crown;refine F.ok a0p 0x1 0x3;obtain ⟨x,dx,n,rfl,hx,h1,h2,k⟩:=h;refine ⟨_,aq (bL (bF G1 hr rfl M1.m M1.k M1.b .nil aX 0x38))
  (aq (dM 0x32 (iH 0x2F lZ) rfl)
  (aq (dM 0x32 (iH 0x2F 0x2F) rfl)
  (aq (dM 0x32 (iH 0x2F 0xF) rfl)
  (aq (dM 0x32 (iH 0x2F (cP (aj aA (aj aA aC)))) rfl)
  (aG (dM 0x32 (iH 0x2F 0xF) rfl)))))),?_⟩
 refine ⟨_,rfl,n,rfl,h1,h2,?_⟩;refine zx (qp (k:="") (tv:=tC .non) fun a1 e1 Q1 k1=>k1 _ _ ao ?_);have n1:x≠a1:=au hx e1;refine ⟨_,rfl,x,C,dx,_,rfl,by rw [ak n1,ak n1];exact hx,T.cl,T.n1,A0w rfl,?_⟩;generalize hH1:upd _ x _=H1;have x1:H1 x=some (.ins C dx [("lord_of",.ref a1)]):=by rw [<- hH1,ao];rfl
 have p1:H1 a1=some (.dK (mX .non)):=by rw [<- hH1,ak (A0m n1),ao]
 have f1:∀ c o,c≠x->H c=some o->H1 c=some o:=fun c o hc ho=>by rw [<- hH1,ak hc,ak (au ho e1),ak (au ho e1)];exact ho
 have z1:∀ c,H1 c=none->H c=none:=lU hx x1 f1;clear hH1;refine zx (qp (k:="") (tv:=tC (.str "")) fun a2 e2 Q2 k2=>k2 _ _ ao ?_);have n2:x≠a2:=au x1 e2;refine ⟨_,rfl,x,C,dx,_,rfl,by rw [ak n2,ak n2];exact x1,T.cl,T.n2,A0w rfl,?_⟩;generalize hH2:upd _ x _=H2;have x2:H2 x=some (.ins C dx [("lord_of",.ref a1),("holder_of",.ref a2)]):=by rw [<- hH2,ao];rfl
 have p2:H2 a2=some (.dK (mX (.str ""))):=by rw [<- hH2,ak (A0m n2),ao]
 have f2:∀ c o,c≠x->H1 c=some o->H2 c=some o:=fun c o hc ho=>by rw [<- hH2,ak hc,ak (au ho e2),ak (au ho e2)];exact ho
 have z2:∀ c,H2 c=none->H1 c=none:=lU x1 x2 f2;clear hH2;refine zx (qp (k:="") (tv:=Bs 1) fun a3 e3 Q3 k3=>⟨_,rfl,k3 _ _ ao ?_⟩);have n3:x≠a3:=au x2 e3;refine ⟨_,rfl,x,C,dx,_,rfl,by rw [ak n3,ak n3];exact x2,T.cl,T.n3,A0w rfl,?_⟩;generalize Oo:upd _ x _=H3;have x3:H3 x=some (.ins C dx [("lord_of",.ref a1),("holder_of",.ref a2),("own_of",.ref a3)]):=by rw [<- Oo,ao];rfl
 have p3:H3 a3=some (.dK (mX (.int n))):=by rw [<- Oo,ak (A0m n3),ao]
 have f3:∀ c o,c≠x->H2 c=some o->H3 c=some o:=fun c o hc ho=>by rw [<- Oo,ak hc,ak (au ho e3),ak (au ho e3)];exact ho
 have z3:∀ c,H3 c=none->H2 c=none:=lU x2 x3 f3;clear Oo;refine zx (qp (k:="") (tv:=VF (rZ (tC (.int 0)) (rZ (tC (.int 1)) nH))) fun a4 e4 Q4 k4=>⟨small 0xA,fun t ht=>k4 _ _ (by rw [ak (fun q=>by rw [<- q,ao] at ht;cases ht)];exact ao) ?_⟩);have n4:x≠a4:=au x3 e4;have t4:t≠a4:=fun q=>by rw [q,ao] at ht;cases ht
 have ht0:H3 t=none:=by rw [ak t4] at ht;exact ht
 have nt:x≠t:=au x3 ht0;refine ⟨_,rfl,x,C,dx,_,rfl,by rw [ak n4,ak nt,ak n4];exact x3,T.cl,T.n4,A0w rfl,?_⟩;generalize xM:upd _ x _=H4;have x4:H4 x=some (.ins C dx [("lord_of",.ref a1),("holder_of",.ref a2),("own_of",.ref a3),("service_of",.ref a4)]):=by rw [<- xM,ao];rfl
 have p4:H4 a4=some (.dK (mX 0x70)):=by rw [<- xM,ak (A0m n4),ao]
 have f4:∀ c o,c≠x->H3 c=some o->H4 c=some o:=fun c o hc ho=>by rw [<- xM,ak hc,ak (au ho e4),ak (au ho ht0),ak (au ho e4)];exact ho
 have pt:H4 t=some (.tup [.int 0,.int 1]):=by rw [<- xM,ak (A0m nt),ak t4,ao]
 have z4:∀ c,H4 c=none->H3 c=none:=lU x3 x4 f4;clear xM;refine a0n (qp (k:="") (tv:=Bs 1) fun a5 e5 Q5 k5=>⟨_,rfl,k5 _ _ ao ?_⟩);have n5:x≠a5:=au x4 e5;refine ⟨_,rfl,x,C,dx,_,rfl,by rw [ak n5,ak n5];exact x4,T.cl,T.n5,A0w rfl,?_⟩;generalize YK:upd _ x _=H5;have x5:H5 x=some (.ins C dx [("lord_of",.ref a1),("holder_of",.ref a2),("own_of",.ref a3),("service_of",.ref a4),("breadth_of",.ref a5)]):=by rw [<- YK,ao];rfl
 have p5:H5 a5=some (.dK (mX (.int n))):=by rw [<- YK,ak (A0m n5),ao]
 have f5:∀ c o,c≠x->H4 c=some o->H5 c=some o:=fun c o hc ho=>by rw [<- YK,ak hc,ak (au ho e5),ak (au ho e5)];exact ho
 have z5:∀ c,H5 c=none->H4 c=none:=lU x4 x5 f5;clear YK;have q15:=f2 _ _ (A0m n1) p1;have q25:=f3 _ _ (A0m n1) q15;have q35:=f4 _ _ (A0m n1) q25;have q45:=f5 _ _ (A0m n1) q35;have r3:=f3 _ _ (A0m n2) p2;have r4:=f4 _ _ (A0m n2) r3;have r5:=f5 _ _ (A0m n2) r4;have s4:=f4 _ _ (A0m n3) p3;have s5:=f5 _ _ (A0m n3) s4;have u5:=f5 _ _ (A0m n4) p4;refine k a1 a2 a3 a4 a5 t _ (fun c o hc ho=>f5 _ _ hc (f4 _ _ hc (f3 _ _ hc (f2 _ _ hc (f1 _ _ hc ho))))) ⟨x5,q45,r5,s5,u5,p5⟩
  ⟨au p1 e2,au q15 e3,au q25 e4,au q35 e5,au p2 e3,au r3 e4,au r4 e5,au p3 e4,au s4 e5,au p4 e5⟩
  e1 (z1 _ e2) (z1 _ (z2 _ e3)) (z1 _ (z2 _ (z3 _ e4))) (z1 _ (z2 _ (z3 _ (z4 _ e5)))) (z1 _ (z2 _ (z3 _ ht0))) (f5 _ _ (A0m nt) pt)
abbrev CW:Stmt:=top 52
theorem MJ:∃ k1 x1 k2 x2 x3 k4 x4 k5 x5 x6 k7 x7 x8 x9 k10 x10 k11 x11 k12 x12 k13 x13 x14 x15 x16 x17 x18 j0 j1 j2 j3 j4 j5 j6 j7 p0 p1 p2 p3 p4 p5 p6 p7 q q',iB CW=[.Return (some (.Dict [some (.Constant (.str "lords") j0 p0),some (.Constant (.str "holders") j1 p1),some (.Constant (.str "own") j2 p2),some (.Constant (.str "due") j3 p3),some (.Constant (.str "known") j4 p4),some (.Constant (.str "heirs") j5 p5),some (.Constant (.str "dead") j6 p6),some (.Constant (.str "lieges") j7 p7)] [.Dict [some (.Constant (.str "") k1 x1)] [.Constant .none k2 x2] x3,.Dict [some (.Constant (.str "") k4 x4)] [.Constant (.str "") k5 x5] x6,.Dict [some (.Constant (.str "") k7 x7)] [.Name "_law_acres" x8] x9,.Dict [some (.Constant (.str "") k10 x10)] [.Tuple [.Constant (.int 0) k11 x11,.Constant (.int 1) k12 x12] k13 x13] x14,.List [] x15,.Dict [] [] x16,.List [] x17,.Dict [] [] x18] q)) q']:=⟨_,_,_,_,_,_,_,_,_,_,_,_,_,_,_,_,_,_,_,_,_,_,_,_,_,_,_,_,_,_,_,_,_,_,_,_,_,_,_,_,_,_,_,_,_,rfl⟩
theorem Rf (hv:∀ p,PE X (.Name "_law_acres" p) (Bs 0)):EY X (iB CW) (Vz (oV [(tC (.str "lords"),oV [(tC (.str ""),tC .non)]),(tC (.str "holders"),oV [(tC (.str ""),tC (.str ""))]),(tC (.str "own"),oV [(tC (.str ""),Bs 0)]),(tC (.str "due"),oV [(tC (.str ""),VF (rZ (tC (.int 0)) (rZ (tC (.int 1)) nH)))]),(tC (.str "known"),Zw nH),(tC (.str "heirs"),FZ),(tC (.str "dead"),Zw nH),(tC (.str "lieges"),FZ)])):=by
 obtain ⟨k1,x1,k2,x2,x3,k4,x4,k5,x5,x6,k7,x7,x8,x9,k10,x10,k11,x11,k12,x12,k13,x13,x14,x15,x16,x17,x18,j0,j1,j2,j3,j4,j5,j6,j7,p0,p1,p2,p3,p4,p5,p6,p7,q,q',h⟩:=MJ;rw [h];refine aG ?_;refine aV ?_;refine JC ?h ?a ?b ?c ?d
 case a=>exact rfl
 case b=>exact rfl
 case c=>exact List.cons_ne_nil _ _
 case d=>exact A1h rfl
 case h =>
  refine iD (X:=X) (aK (X:=X)) ?_ ?_
  ·exact iH (X:=X) (aK (X:=X)) (lZ (X:=X))
  refine iD (X:=X) (aK (X:=X)) ?_ ?_
  ·exact iH (X:=X) (aK (X:=X)) (aK (X:=X))
  refine iD (X:=X) (aK (X:=X)) ?_ ?_
  ·exact iH (X:=X) (aK (X:=X)) (hv _)
  refine iD (X:=X) (aK (X:=X)) ?_ ?_
  ·exact iH (X:=X) (aK (X:=X)) (cP (X:=X) (aj (X:=X) (aA (X:=X)) (aj (X:=X) (aA (X:=X)) (aC (X:=X)))))
  refine iD (X:=X) (aK (X:=X)) ?_ ?_
  ·exact dN (X:=X) (aC (X:=X))
  refine iD (X:=X) (aK (X:=X)) ?_ ?_
  ·exact jk (X:=X)
  refine iD (X:=X) (aK (X:=X)) ?_ ?_
  ·exact dN (X:=X) (aC (X:=X))
  refine iD (X:=X) (aK (X:=X)) ?_ ?_
  ·exact jk (X:=X)
  exact Jz
theorem jm {a:V}{r:List (TE×TE)}{Q:List (V×V)->Hp->Prop} (h:tv σ H fun y H2=>pD r σ H2 fun ps H3=>Q ((a,y)::ps) H3):pD ((tC a,tv)::r) σ H Q:=h
theorem Rg {Q:List (V×V)->Hp->Prop} (h:Q [] H):pD [] σ H Q:=h
theorem tRD {D:Ends} (h:∀ p,H p=none->pD Ol σ (upd H p (.dK [])) fun ps H2=>H2 p=some (.dK [])/\∃ kvs:List 0x2C,ps=kvs.map (fun kv=>(kV kv.1,kv.2))/\kvs.length<=15/\D.rt 0x48 (upd H2 p (.dK (dw [] kvs)))):Vz (oV Ol) D σ H:=h
def eG (p1 p2 p3 p4 p5 ph pd p8:Addr):List 0x2C:=[(.inr "lords",.ref p1),(.inr "holders",.ref p2),(.inr "own",.ref p3),(.inr "due",.ref p4),(.inr "known",.ref p5),(.inr "heirs",.ref ph),(.inr "dead",.ref pd),(.inr "lieges",.ref p8)]
section
variable {p1 p2 p3 p4 p5 ph pd p8:Addr}
theorem Gr:[(V.str "lords",V.ref p1),(V.str "holders",V.ref p2),(V.str "own",V.ref p3),(V.str "due",V.ref p4),(V.str "known",V.ref p5),(V.str "heirs",V.ref ph),(V.str "dead",V.ref pd),(V.str "lieges",V.ref p8)]=(0x28).map fun kv=>(kV kv.1,kv.2):=rfl
theorem Gs:bH (dw [] 0x28) (.inr "lords")=some (.ref p1):=by
 unfold dw eG;simp only [A1o,A2K];rw [bJ,A0e 0x8,bJ,A0e 0x8,bJ,A0e 0x8,bJ,A0e 0x8,bJ,A0e 0x8,bJ,A0e 0x8,bJ,A0e 0x8,bJ,A0i rfl]
theorem zy:bH (dw [] 0x28) (.inr "holders")=some (.ref p2):=by
 unfold dw eG;simp only [A1o,A2K];rw [bJ,A0e 0x8,bJ,A0e 0x8,bJ,A0e 0x8,bJ,A0e 0x8,bJ,A0e 0x8,bJ,A0e 0x8,bJ,A0i rfl]
theorem Rh:bH (dw [] 0x28) (.inr "own")=some (.ref p3):=by
 unfold dw eG;simp only [A1o,A2K];rw [bJ,A0e 0x8,bJ,A0e 0x8,bJ,A0e 0x8,bJ,A0e 0x8,bJ,A0e 0x8,bJ,A0i rfl]
theorem Ri:bH (dw [] 0x28) (.inr "due")=some (.ref p4):=by
 unfold dw eG;simp only [A1o,A2K];rw [bJ,A0e 0x8,bJ,A0e 0x8,bJ,A0e 0x8,bJ,A0e 0x8,bJ,A0i rfl]
theorem Gu:bH (dw [] 0x28) (.inr "known")=some (.ref p5):=by
 unfold dw eG;simp only [A1o,A2K];rw [bJ,A0e 0x8,bJ,A0e 0x8,bJ,A0e 0x8,bJ,A0i rfl]
theorem Gv:bH (dw [] 0x28) (.inr "heirs")=some (.ref ph):=by
 unfold dw eG;simp only [A1o,A2K];rw [bJ,A0e 0x8,bJ,A0e 0x8,bJ,A0i rfl]
theorem MK:bH (dw [] 0x28) (.inr "dead")=some (.ref pd):=by
 unfold dw eG;simp only [A1o,A2K];rw [bJ,A0e 0x8,bJ,A0i rfl]
theorem CZ:bH (dw [] 0x28) (.inr "lieges")=some (.ref p8):=by
 unfold dw eG;simp only [A1o,A2K];rw [bJ,A0i rfl]
theorem Rj:(dw [] 0x28).length<=20:=A0O (lq 0x28 []) (show 0+8<=20 by decide)
end
structure eO (H:Hp) (B l h o d kn dd:Addr) (kvs lo ho ow du:List 0x2C) (ks:List Str):Prop where
 b:H B=some 0x15
 vl:bH kvs (.inr "lords")=some (.ref l)
 vh:bH kvs (.inr "holders")=some (.ref h)
 vo:bH kvs (.inr "own")=some (.ref o)
 vd:bH kvs (.inr "due")=some (.ref d)
 vk:bH kvs (.inr "known")=some (.ref kn)
 vx:bH kvs (.inr "dead")=some (.ref dd)
 l:H l=some (.dK lo)
 h:H h=some (.dK ho)
 o:H o=some (.dK ow)
 d:H d=some (.dK du)
 k:H kn=some (.lst (ks.map V.str))
 len:kvs.length<=20
theorem eO.same {B l h o kn dd:Addr} (k:eO H B l h o d kn dd kvs lo ho ow du ks) (s:Same H H'):eO H' B l h o d kn dd kvs lo ho ow du ks :=
 ⟨s _ _ k.b,k.vl,k.vh,k.vo,k.vd,k.vk,k.vx,s _ _ k.l,s _ _ k.h,s _ _ k.o,s _ _ k.d,s _ _ k.k,k.len⟩
structure BxL (H:Hp) (kvs:List 0x2C) (he dd lg:Addr) (hs lv:List 0x2C) (ds:List Str):Prop where
 vh:bH kvs (.inr "heirs")=some (.ref he)
 vg:bH kvs (.inr "lieges")=some (.ref lg)
 h:H he=some (.dK hs)
 g:H lg=some (.dK lv)
 x:H dd=some (.lst (ds.map V.str))
theorem BxL.same {lv:List 0x2C}{he dd lg:Addr}{ds:List Str} (k:BxL H kvs he dd lg hs lv ds) (s:Same H H'):BxL H' kvs he dd lg hs lv ds:=⟨k.vh,k.vg,s _ _ k.h,s _ _ k.g,s _ _ k.x⟩
inductive zA (vs:List V) (H:Hp) (Q:VK) (cD:XK):Prop
 | mk (n:Int) (_:vs=[.int n]) (_:∀ B l h o d kn dd he lg t kvs H',Same H H'->(∀ a∈[B,l,h,o,d,kn,dd,he,lg,t],H a=none)->[B,l,h,o,d,kn,dd,he,lg].Nodup->eO H' B l h o d kn dd kvs (mX .non) (mX (.str "")) (mX (.int n)) (mX 0x70) []->BxL H' kvs he dd lg [] [] []->jF H' t 0 1->Q (.ref B) H'):zA vs H Q cD
theorem a0q:aO ["_law_acres"] ["_law_acres"] (aH CW):=0x0
theorem Wv (F:fK K "_law_book" "_law_book" CW f fd):aJ P w K mg base bM 1 f fd ["_law_acres"] zA:=by
 refine F.ok a0q 0x1 0x3;obtain ⟨n,rfl,k⟩:=h;refine ⟨Vz (oV _),@Rf _ ?hv,?y⟩
 case hv=>exact fun p=>pv 0
 refine tRD fun B hB=>?_;have sB:Same H (upd H B (.dK [])):=aM hB _;have kB:(upd H B (.dK [])) B=some (.dK []):=ao;generalize upd H B (.dK [])=H0 at sB kB ⊢;refine jm (qp (k:="") (tv:=tC .non) fun p1 e1 Q1 k1=>k1 _ _ ao ?_);generalize hH1:upd _ p1 (.dK [(.inr "",_)])=H1;have s1:Same H0 H1:=fun c u q=>by rw [<- hH1,ak (au q e1),ak (au q e1)];exact q
 have c1:H1 p1=some (.dK (mX .non)):=by rw [<- hH1,ao]
 clear hH1;refine jm (qp (k:="") (tv:=tC (.str "")) fun p2 e2 Q2 k2=>k2 _ _ ao ?_);generalize hH2:upd _ p2 (.dK [(.inr "",_)])=H2;have s2:Same H1 H2:=fun c u q=>by rw [<- hH2,ak (au q e2),ak (au q e2)];exact q
 have c2:H2 p2=some (.dK (mX (.str ""))):=by rw [<- hH2,ao]
 clear hH2;refine jm (qp (k:="") (tv:=Bs 0) fun p3 e3 Q3 k3=>⟨_,rfl,k3 _ _ ao ?_⟩);generalize Oo:upd _ p3 (.dK [(.inr "",_)])=H3;have s3:Same H2 H3:=fun c u q=>by rw [<- Oo,ak (au q e3),ak (au q e3)];exact q
 have c3:H3 p3=some (.dK (mX (.int n))):=by rw [<- Oo,ao]
 clear Oo;refine jm (qp (k:="") (tv:=VF (rZ (tC (.int 0)) (rZ (tC (.int 1)) nH))) fun p4 e4 Q4 k4=>⟨small 0xA,fun t ht=>k4 _ _ (by rw [ak (fun q=>by rw [<- q,ao] at ht;cases ht)];exact ao) ?_⟩);have t4:t≠p4:=fun q=>by rw [q,ao] at ht;cases ht
 have ht0:H3 t=none:=by rw [ak t4] at ht;exact ht
 generalize xM:upd _ p4 (.dK [(.inr "",_)])=H4;have s4:Same H3 H4:=fun c u q=>by rw [<- xM,ak (au q e4),ak (au q ht0),ak (au q e4)];exact q
 have pt:H4 t=some (.tup [.int 0,.int 1]):=by rw [<- xM,ak t4,ao]
 have c4:H4 p4=some (.dK (mX 0x70)):=by rw [<- xM,ao]
 clear xM;refine jm ⟨small 0xA,fun p5 e5=>?_⟩
 apply 0o1 H4 p5 e5 s5 c5 H5
 refine jm fun ph eh=>?_
 apply 0o1 H5 ph eh s6 c6 H6
 refine jm ⟨small 0xA,fun pd ed=>?_⟩
 apply 0o1 H6 pd ed s7 c7 H7
 refine jm fun p8 e8=>Rg ?_
 apply 0o1 H7 p8 e8 s8 c8 H8
 have w01:=sB.trans s1;have w02:=w01.trans s2;have w03:=w02.trans s3;have w04:=w03.trans s4;have w06:=(w04.trans s5).trans s6;have w78:=s7.trans s8;have w58:=(s5.trans s6).trans w78;have w48:=s4.trans w58;have w38:=s3.trans w48;have w28:=s2.trans w38;have w08:=sB.trans (s1.trans w28);have kB1:=s1 _ _ kB;have kB2:=s2 _ _ kB1;have kB3:=s3 _ _ kB2;have kB8:=w48 _ _ kB3;have n1:=au kB e1;have n2:=au kB1 e2;have n3:=au kB2 e3;have n4:=au kB3 e4;have out:∀ c u,c≠B->H8 c=some u->(upd H8 B (.dK (dw [] 0x28))) c=some u:=fun c u hc q=>by rw [ak hc];exact q
 refine ⟨kB8,eG p1 p2 p3 p4 p5 ph pd p8,Gr,A1h rfl,?_⟩;have d5:=((s6.trans w78)) _ _ c5;have d7:=s8 _ _ c7;have d1:=w28 _ _ c1;have d2:=w38 _ _ c2;have d3:=w48 _ _ c3;have d4:=w58 _ _ c4;have dt:=w58 _ _ pt;have d6:=w78 _ _ c6;have f1:=sB.free e1;have f2:=w01.free e2;have f3:=w02.free e3;have f4:=w03.free e4;have f5:=w04.free e5;have f6:=(w04.trans s5).free eh;have f7:=w06.free ed;have f8:=(w06.trans s7).free e8;have f9:=w03.free ht0;have m1:∀ {a:Addr}{u:HO},H3 a=some u->H7 a=some u:=fun h=>(w58.trans 0x5C) _ _ (s4 _ _ h) |> fun h8=>by
  have:=(s4.trans (s5.trans (s6.trans s7))) _ _ h;exact this
 have nB6:=au ((s5 _ _ (s4 _ _ kB3))) eh;have nB8:=au (m1 kB3) e8;refine k B p1 p2 p3 p4 p5 pd ph p8 t _ _ (bK w08 hB) (fun a ha=>?_) ?_
  ⟨ao,Gs,zy,Rh,Ri,Gu,MK,out _ _ (A0m n1) d1,out _ _ (A0m n2) d2,out _ _ (A0m n3) d3,out _ _ (A0m n4) d4,out _ _ (aZ d5 kB8 0x1C) d5,Rj⟩
  ⟨Gv,CZ,out _ _ (A0m nB6) d6,out _ _ (A0m nB8) c8,out _ _ (aZ d7 kB8 0x1C) d7⟩
  (out _ _ (aZ dt kB8 0x1C) dt)
 ·simp only [A0d,A0u,A1m] at ha;rcases ha with h | h | h | h | h | h | h | h | h | h <;> (rw [h];assumption)
 ·have x12:=au c1 e2;have x13:=au (s2 _ _ c1) e3;have x14:=au (s3 _ _ (s2 _ _ c1)) e4;have x23:=au c2 e3;have x24:=au (s3 _ _ c2) e4;have x34:=au c3 e4;have l5:=fun {a:Addr}{u:List (Key×V)} (h:H8 a=some (.dK u))=>aZ h d5 0x1C;have l7:=fun {a:Addr}{u:List (Key×V)} (h:H8 a=some (.dK u))=>aZ h d7 0x1C;have y57:=au (s6 _ _ c5) ed;have z6:=fun {a:Addr}{u:HO} (h:H5 a=some u)=>au h eh;have z8:=fun {a:Addr}{u:HO} (h:H7 a=some u)=>au h e8;have g34:=s4.trans s5;have g1:=z6 (g34 _ _ (s3 _ _ (s2 _ _ c1)));have g2:=z6 (g34 _ _ (s3 _ _ c2));have g3:=z6 (g34 _ _ c3);have g4:=z6 (s5 _ _ c4);have g5:=z6 c5;have r1:=z8 (m1 (s3 _ _ (s2 _ _ c1)));have r2:=z8 (m1 (s3 _ _ c2));have r3:=z8 (m1 c3);have r4:=z8 ((s5.trans (s6.trans s7)) _ _ c4);have r5:=z8 ((s6.trans s7) _ _ c5);have r6:=z8 (s7 _ _ c6);have r7:=z8 c7;have a1:=l5 d1;have a2:=l5 d2;have a3:=l5 d3;have a4:=l5 d4;have a0:=l5 kB8;have b0:=l7 kB8;have b1:=l7 d1;have b2:=l7 d2;have b3:=l7 d3;have b4:=l7 d4;have b6:=l7 d6;simp only [A0M,A0d,A0u,A1m,A5c,A3Y,and_true,A4Y];refine ⟨⟨n1,n2,n3,n4,a0,b0,nB6,nB8⟩,⟨x12,x13,x14,a1,b1,g1,r1⟩,⟨x23,x24,a2,b2,g2,r2⟩,⟨x34,a3,b3,g3,r3⟩,⟨a4,b4,g4,r4⟩,⟨y57,g5,r5⟩,⟨A0m b6,r7⟩,r6⟩
end M
namespace L2
open PySem PySem.W PyProof.Rows
def pat (p:Array Nat) (k:Nat):Nat:=p.getD k 0
structure Ord (n:Nat) (lt:Nat->Nat->Bool):Prop where
 tr:∀ i j k,i<n->j<n->k<n->lt i j=true->lt j k=true->lt i k=true
 tot:∀ i j,i<n->j<n->i≠j->lt i j=false->lt j i=true
def Cmp (n:Nat) (lt:Nat->Nat->Bool) (cmp:Nat->Nat->(Bool->Shared->Prop)->Shared->Prop) (J:Shared->Prop):Prop :=
 ∀ i j C s,i<n->j<n->i≠j->J s->(∀ s',J s'->C (lt i j) s')->cmp i j C s
def Pm (n:Nat) (p:Array Nat):Prop:=p.Perm (List.range n).toArray
theorem Pm.size {p:Array Nat} (h:Pm n p):p.size=n:=by
 have:=h.size_eq
 simpa using this
theorem Pm.lt {p:Array Nat} (h:Pm n p) {k:Nat} (hk:k<n):pat p k<n:=by
 have hs:=h.size;have hk':k<p.size:=by lia
 have hm:p[k]∈p.toList:=by simp
 have:=(A2L.mp h).mem_iff.mp hm;simp at this;unfold pat;rw [Array.getD,A5k hk'];exact this
theorem Pm.ne {p:Array Nat} (h:Pm n p)  (hi:i<n) (hj:j<n) (hij:i≠j):pat p i≠pat p j:=by
 have hs:=h.size;have hi':i<p.size:=by lia
 have hj':j<p.size:=by lia
 have nd:p.toList.Nodup:=(A2L.mp h).nodup_iff.mpr (by simpa using List.nodup_range);unfold pat;rw [Array.getD,A5k hi',Array.getD,A5k hj'];intro e;have pw:=A1i.mp nd;rcases A4P hij with h1 | h1
 ·exact pw i j (by simpa using hi') (by simpa using hj') h1 (by simpa using e)
 ·exact pw j i (by simpa using hj') (by simpa using hi') h1 (by simpa using e.symm)
theorem uU {p q:Array Nat} (h:p[i]?=q[j]?):pat p i=pat q j:=by
 unfold pat;rw [A4x,A4x,h]
def Up (lt:Nat->Nat->Bool) (p:Array Nat) (m:Nat):Prop:=∀ i j,i<j->j<m->lt (pat p i) (pat p j)=true
def Down (lt:Nat->Nat->Bool) (p:Array Nat) (m:Nat):Prop:=∀ i j,i<j->j<m->lt (pat p j) (pat p i)=true
section
variable {lt:Nat->Nat->Bool}{cmp:Nat->Nat->(Bool->Shared->Prop)->Shared->Prop}{J:Shared->Prop}{p:Array Nat}
theorem Up.snoc (O:Ord n lt) (P:Pm n p) {m:Nat} (h1:1<=m) (hm:m<n) (h:Up lt p m) (hl:lt (pat p (m - 1)) (pat p m)=true):Up lt p (m+1):=by
 intro i j hij hj
 by_cases e:j=m
 ·subst e
  by_cases e2:i=j - 1
  ·subst e2;exact hl
  ·exact O.tr _ _ _ (P.lt 0x2) (P.lt 0x2) (P.lt 0x2) (h i (j - 1) 0x2 0x2) hl
 ·exact h i j hij 0x2
theorem Down.snoc (O:Ord n lt) (P:Pm n p) {m:Nat} (h1:1<=m) (hm:m<n) (h:Down lt p m) (hl:lt (pat p m) (pat p (m - 1))=true):Down lt p (m+1):=by
 intro i j hij hj
 by_cases e:j=m
 ·subst e
  by_cases e2:i=j - 1
  ·subst e2;exact hl
  ·exact O.tr _ _ _ (P.lt 0x2) (P.lt 0x2) (P.lt 0x2) hl (h i (j - 1) 0x2 0x2)
 ·exact h i j hij 0x2
theorem Gw (O:Ord n lt) (hc:Cmp n lt cmp J) (P:Pm n p) {G:Nat->Shared->Prop}:∀ (f m:Nat) (s:Shared),1<=m->m+f<=n->Up lt p m->J s ->
  (∀ r s',m<=r->r<=m+f->Up lt p r->(r<m+f->lt (pat p r) (pat p (r - 1))=true)->J s'->G r s')->(kas_asc p f m).kasWp cmp G s
 | 0,m,s,h1,hf,hU,hJ,k=>k m s 0x2D 0x2D hU (fun h=>absurd h (A1r _)) hJ
 | f+1,m,s,h1,hf,hU,hJ,k=>by
  show cmp (p.getD m 0) (p.getD (m - 1) 0) _ s
  refine hc _ _ _ s (P.lt (k:=m) 0x2) (P.lt (k:=m - 1) 0x2) (P.ne 0x2 0x2 0x2) hJ fun s' hJ'=>?_
  show KasT.kasWp cmp (if lt (pat p m) (pat p (m - 1))=true then .ret m else kas_asc p f (m+1)) G s'
  cases e:lt (pat p m) (pat p (m - 1)) with
  | true =>
   rw [A0i rfl];exact k m s' 0x2D 0x2 hU (fun _=>e) hJ'
  | false =>
   rw [A0e A0o];have hl:=O.tot _ _ (P.lt (k:=m) 0x2) (P.lt (k:=m - 1) 0x2) (P.ne 0x2 0x2 0x2) e;exact Gw O hc P f (m+1) s' 0x2 0x2 (hU.snoc O P h1 0x2 hl) hJ' fun r s'' a b c d e'=>k r s'' 0x2 0x2 c (fun h=>d 0x2) e'
theorem JW (O:Ord n lt) (hc:Cmp n lt cmp J) (P:Pm n p) {G:Array Nat×Nat×Nat->Shared->Prop}:∀ (f m:Nat) (s:Shared),1<=m->m+f<=n->Down lt p m->J s ->
  (∀ r s',m<=r->r<=m+f->Down lt p r->J s'->G (p,r,0) s')->(kas_desc f p m 0).kasWp cmp G s
 | 0,m,s,h1,hf,hU,hJ,k=>k m s 0x2D 0x2D hU hJ
 | f+1,m,s,h1,hf,hU,hJ,k=>by
  show cmp (p.getD m 0) (p.getD (m - 1) 0) _ s
  refine hc _ _ _ s (P.lt (k:=m) 0x2) (P.lt (k:=m - 1) 0x2) (P.ne 0x2 0x2 0x2) hJ fun s' hJ'=>?_;cases e:lt (pat p m) (pat p (m - 1)) with
  | true =>
   have e':lt (p.getD m 0) (p.getD (m - 1) 0)=true:=e;rw [e'];dsimp only;rw [A0i rfl,A0e (A1r 0)];exact JW O hc P f (m+1) s' 0x2 0x2 (hU.snoc O P h1 0x2 e) hJ' fun r s'' a b c d=>k r s'' 0x2 0x2 c d
  | false =>
   have e':lt (p.getD m 0) (p.getD (m - 1) 0)=false:=e;rw [e'];dsimp only;rw [A0e A0o];have hl:=O.tot _ _ (P.lt (k:=m) 0x2) (P.lt (k:=m - 1) 0x2) (P.ne 0x2 0x2 0x2) e;refine hc _ _ _ s' (P.lt (k:=m - 1) 0x2) (P.lt (k:=m) 0x2) (P.ne 0x2 0x2 0x2) hJ' fun s'' a0r=>?_;have hl':lt (p.getD (m - 1) 0) (p.getD m 0)=true:=hl;rw [hl'];dsimp only;rw [A0i rfl];exact k m s'' 0x2D 0x2 hU a0r
theorem Rk (P:Pm n p) (i j:Nat):Pm n (kas_rev p i j):=(mirror_perm p i j _).trans P
theorem Rn (P:Pm n p) {r:Nat} (hr:r<=n) (k:Nat):pat (kas_rev p 0 r) k=if k<r then pat p (r - 1 - k) else pat p k:=by
 have h:=getElem?_mirror_all (xs:=p) (i:=0) (j:=r) (by rw [P.size];exact hr) k
 by_cases hk:k<r
 ·rw [A0i hk];rw [A0i ⟨A0X _,hk⟩,Nat.zero_add] at h;exact uU h
 ·rw [A0e hk];rw [A0e (fun z=>hk z.2)] at h;exact uU h
theorem a0s (P:Pm n p) {r:Nat} (hr:r<=n) (h:Down lt p r):Up lt (kas_rev p 0 r) r:=by
 intro i j hij hj;rw [Rn P hr,Rn P hr,A0i 0x2,A0i hj];exact h _ _ 0x2 0x2
def Ww (n:Nat) (lt:Nat->Nat->Bool) (J:Shared->Prop) (G:Nat×Array Nat->Shared->Prop):Prop:=∀ q p' s',Pm n p'->1<=q->q<=n->Up lt p' q->J s'->G (q,p') s'
theorem Rp (O:Ord n lt) (hc:Cmp n lt cmp J) (P:Pm n p) (h2:2<=n) {G:Nat×Array Nat->Shared->Prop} (hJ:J s) (k:Ww n lt J G):(kas_count n p).kasWp cmp G s:=by
 unfold kas_count;rw [KasT.kasWp_bind];refine Gw O hc P (n - 1) 1 s 0x2D 0x2 (fun i j hij hj=>by lia) hJ fun r s' h1 hr hU hstop hJ'=>?_
 by_cases e:r=n
 ·subst e;rw [A0i 0xA];exact k r p s' P h1 0x2D hU hJ'
 ·rw [A0e (by simpa using e)]
  by_cases e1:r > 1
  ·rw [A0i e1];refine hc _ _ _ s' (P.lt (k:=0) 0x2) (P.lt (k:=r - 1) 0x2) (P.ne 0x2 0x2 0x2) hJ' fun s'' a0r=>?_;have hl:lt (p.getD 0 0) (p.getD (r - 1) 0)=true:=hU 0 (r - 1) 0x2 0x2;rw [hl];dsimp only;rw [A0i rfl];exact k r p s'' P h1 0x2 hU a0r
  ·rw [A0e e1];have er:r=1:=by lia
   subst er;have h0:=hstop 0x2;unfold kas_descPart;rw [KasT.kasWp_bind];refine JW O hc P (n - (1+1)) (1+1) s' 0x2 0x2 (fun i j hij hj=>?_) hJ' fun r s'' a b c d=>?_
   ·have ei:i=0:=by lia
    have ej:j=1:=by lia
    subst ei ej;exact h0
   ·rw [A0e (A1r 0)];unfold kas_tail3;rw [KasT.kasWp_bind];refine Gw O hc (Rk P 0 r) (n - r) r s'' 0x2 0x2 (a0s P 0x2 c) d fun q s3 h3 h4 h5 _ h6=>?_;exact k q _ s3 (Rk P 0 r) 0x2 0x2 h5 h6
theorem uV (O:Ord n lt) (hc:Cmp n lt cmp J) (P:Pm n p) {k:Nat} (hk:k<n) (hU:Up lt p k) {G:Nat->Shared->Prop}:∀ (f l r:Nat) (s:Shared),r - l<=f->l<=r->r<=k->(∀ i,i<l->lt (pat p i) (pat p k)=true)->(∀ i,r<=i->i<k->lt (pat p k) (pat p i)=true)->J s ->
  (∀ l' s',l'<=k->(∀ i,i<l'->lt (pat p i) (pat p k)=true)->(∀ i,l'<=i->i<k->lt (pat p k) (pat p i)=true)->J s'->G l' s')->(kas_place p k f l r).kasWp cmp G s
 | 0,l,r,s,h0,h1,h2,hlo,hhi,hJ,w=>w l s 0x2 hlo (fun i hi=>hhi i 0x2) hJ
 | f+1,l,r,s,h0,h1,h2,hlo,hhi,hJ,w=>by
  unfold kas_place
  by_cases e:l>=r
  ·rw [A0i e];exact w l s 0x2 hlo (fun i hi=>hhi i 0x2) hJ
  ·rw [A0e e];have hm1:l<=(l+r) / 2:=by lia
   have hm2:(l+r) / 2<r:=by lia
   generalize hmd:(l+r) / 2=md at hm1 hm2;refine hc _ _ _ s (P.lt (k:=k) hk) (P.lt (k:=md) 0x2) (P.ne hk 0x2 0x2) hJ fun s' hJ'=>?_;cases c:lt (pat p k) (pat p md) with
   | true =>
    have c':lt (p.getD k 0) (p.getD md 0)=true:=c;rw [c'];dsimp only;rw [A0i rfl];refine uV O hc P hk hU f l md s' 0x2 hm1 0x2 hlo (fun i hi hik=>?_) hJ' w
    by_cases ei:i=md
    ·subst ei;exact c
    ·exact O.tr _ _ _ (P.lt hk) (P.lt 0x2) (P.lt 0x2) c (hU md i 0x2 hik)
   | false =>
    have c':lt (p.getD k 0) (p.getD md 0)=false:=c;rw [c'];dsimp only;rw [A0e A0o];have hl:=O.tot _ _ (P.lt hk) (P.lt (k:=md) 0x2) (P.ne hk 0x2 0x2) c;refine uV O hc P hk hU f (md+1) r s' 0x2 0x2 h2 (fun i hi=>?_) hhi hJ' w
    by_cases ei:i=md
    ·subst ei;exact hl
    ·exact O.tr _ _ _ (P.lt 0x2) (P.lt 0x2) (P.lt hk) (hU i md 0x2 0x2) hl
theorem Rq (P:Pm n p) {k l:Nat} (hk:k<n) (hl:l<=k) (i:Nat):pat (bubble p k (k - l)) i=if i=l then pat p k else if l<i/\i<=k then pat p (i - 1) else pat p i:=by
 have h:=getElem?_bubble (xs:=p) (src:=k) (by rw [P.size];exact hk) (k - l) 0x2 i;rw [show k - (k - l)=l by lia] at h
 by_cases e:i=l
 ·rw [A0i e] at h ⊢;exact uU h
 ·rw [A0e e] at h ⊢
  by_cases e2:l<i/\i<=k
  ·rw [A0i e2] at h ⊢;exact uU h
  ·rw [A0e e2] at h ⊢;exact uU h
theorem Rt (O:Ord n lt) (hc:Cmp n lt cmp J) {G:Array Nat->Shared->Prop}:∀ (f k:Nat) (p:Array Nat) (s:Shared),k+f=n->Pm n p->Up lt p k->J s->(∀ p' s',Pm n p'->Up lt p' n->J s'->G p' s')->(kas_bin f p k).kasWp cmp G s
 | 0,k,p,s,hk,P,hU,hJ,w=>by
  have:k=n:=by lia
  subst this;exact w p s P hU hJ
 | f+1,k,p,s,hk,P,hU,hJ,w=>by
  unfold kas_bin;rw [KasT.kasWp_bind];refine uV O hc P 0x2 hU k 0 k s 0x2 (A0X _) 0x2D (fun i hi=>absurd hi (A5l _)) (fun i h1 h2=>by lia) hJ fun l s' hl hlo hhi hJ'=>?_;refine Rt O hc f (k+1) _ s' 0x2 ((bubble_perm p k _).trans P) (fun i j hij hj=>?_) hJ' w;rw [Rq P 0x2 hl,Rq P 0x2 hl]
  by_cases a1:i=l
  ·rw [A0i a1,A0e 0x2,A0i 0x2];exact hhi _ 0x2 0x2
  ·rw [A0e a1]
   by_cases a2:l<i
   ·rw [A0i 0x2,A0e 0x2,A0i 0x2];exact hU _ _ 0x2 0x2
   ·rw [A0e 0x2]
    by_cases a3:j=l
    ·rw [A0i a3];exact hlo i 0x2
    ·rw [A0e a3]
     by_cases a4:l<j
     ·rw [A0i 0x2]
      by_cases a5:i=j - 1
      ·lia
      ·exact hU _ _ 0x2 0x2
     ·rw [A0e 0x2];exact hU _ _ hij 0x2
theorem K4 (O:Ord n lt) (hc:Cmp n lt cmp J) (h2:2<=n) {G:Array Nat->Shared->Prop} (hJ:J s) (w:∀ p' s',Pm n p'->Up lt p' n->J s'->G p' s'):(kas_sort n).kasWp cmp G s:=by
 unfold kas_sort;rw [KasT.kasWp_bind];refine Rp O hc (A5m _) h2 hJ fun q p' s' P h1 hq hU hJ'=>?_
 by_cases e:q<n
 ·rw [A0i e,show max q 1=q by lia]
  exact Rt O hc (n - q) q p' s' 0x2 P hU hJ' w
 ·rw [A0e e];have:q=n:=by lia
  subst this;exact w p' s' P hU hJ'
end
section
variable {lt:Nat->Nat->Bool}{κ:SortKind}
def Keep (a:Addr) (s s':Shared):Prop:=∀ b o,b≠a->s.heap.get? b=some o->s'.heap.get? b=some o
theorem rF (vs:List Value):((List.range vs.length).toArray.toList.map fun i=>vs.getD i Value.none)=vs:=by
 apply A5g
 ·simp
 ·intro i h1 h2;simp only [A3v,A4Q];rw [qQ,ju h2];rfl
theorem Ru {vs:List Value}{n0:Nat}{P:PySem.Fin->Shared->Prop} (ho:s.heap.get? a=some (seqObj "list" vs.toArray n0)) (h64:vs.length<64) (O:Ord vs.length lt)
  (hk:2<=vs.length->∀ (s':Shared) (Q:SortKind->Shared->Prop),Keep a s s'->Q κ s'->wpAny 0xC A (keyKind' vs.toArray) Q 0x63 s')
  (hl:∀ (i j:Nat) (s':Shared) (C:Bool->Shared->Prop),i<vs.length->j<vs.length->i≠j->Keep a s s'->(∀ tk,C (lt i j) { s' with toks:=tk })->wpAny 0xC A (keyLt' κ (vs.getD i Value.none) (vs.getD j Value.none)) C 0x63 s')
  (h:∀ (p:Array Nat) (tk:Nat),Pm vs.length p->Up lt p vs.length->P (.done (.ret .none)) { s with toks:=tk,heap:=sortedHeap s.heap a vs (0x25).toArray }) :
  wpAny 0xC A (Builtin.«list.sort» ⟨[.ref a],[]⟩) P E s:=by
 have ha:a<s.heap.objs.size:=A0t ho;rw [list_sort_plain];refine A0a (listItems_at ho rfl ?_);refine A0a (A3m ho rfl ?_ (by rw [A0s,A1e];lia) (A0X _));obtain ⟨ep,hz⟩:∃ ep,(s.heap.update a (Obj.mapSeq fun _=>#[])).get? a=some (seqObj "list" #[] ep):=⟨_,A4q ho (fun _=>#[])⟩;refine A0a (A4Z hz rfl ?_);refine A0a (A4M ?_ (by show vs.length<=sizeLine;rw [A1e];lia))
 refine A0a (A5d ?_ (A0X _));refine A1T ?_;have hz2:(((s.heap.update a (Obj.mapSeq fun _=>#[])).push 0x59).push (seqObj "list" #[] 0)).get? a=some (seqObj "list" #[] ep):=A0b _ (A0b _ hz);have kp:Keep a s { s with heap:=((s.heap.update a (Obj.mapSeq fun _=>#[])).push 0x59).push (seqObj "list" #[] 0) }:=fun b o hb q =>
  A0b _ (A0b _ ((A1p _ _ _ _ hb).trans q))
 show wpAny 0xC A _ P E { s with heap:=((s.heap.update a (Obj.mapSeq fun _=>#[])).push 0x59).push (seqObj "list" #[] 0) }
 dsimp only;have hsz:vs.toArray.size=vs.length:=by simp
 by_cases h2:vs.toArray.size<2
 ·rw [A0i h2,A0i h2];refine A0a 0x13;rw [StateT.run_pure];refine A0a 0x13;dsimp only;refine A0a (A4Z hz2 rfl ?_);have eo:(arrOf (SortSt.mk' general' (vs.toArray.zip vs.toArray) #[] 7 none)).map (·.2)=vs.toArray:=by
   exact Array.map_snd_zip (as:=vs.toArray) (bs:=vs.toArray) 0x2D
  rw [eo];refine A0a (A3m hz2 rfl ?_ (hsz2:=by rw [A0s,A1e];lia));simp only [A3Z,A1s,A2O];have g:=h (List.range vs.length).toArray s.toks (A5m _) (fun i j hij hj=>by lia);rw [rF] at g;exact wpAny_pure g
 ·rw [A0e h2,A0e h2];have h2':2<=vs.length:=by lia
  refine A0a (A1b (hk h2' _ (fun κ' s'=>κ'=κ/\s'={ s with heap:=((s.heap.update a (Obj.mapSeq fun _=>#[])).push 0x59).push (seqObj "list" #[] 0) }) kp ⟨rfl,rfl⟩) (fun κ' s' hκ=>?_) fun _ _ x=>x.elim);obtain ⟨rfl,rfl⟩:=hκ;refine A0a (A1b (kat_run (κ:=κ') (ks:=vs) (vs:=vs) (Q:=fun st' s'=>∃ (p:Array Nat) (tk:Nat),Pm vs.length p/\Up lt p vs.length/\arrOf st'=p.map (kas_item (vs.toArray.zip vs.toArray))/\failedOf st'=none/\s'={ s with toks:=tk,heap:=((s.heap.update a (Obj.mapSeq fun _=>#[])).push 0x59).push (seqObj "list" #[] 0) })
   (G:=fun p s'=>∃ tk:Nat,Pm vs.length p/\Up lt p vs.length/\s'={ s with toks:=tk,heap:=((s.heap.update a (Obj.mapSeq fun _=>#[])).push 0x59).push (seqObj "list" #[] 0) })
   rfl h2' h64 (fun p st' s' _ a2 a3 ⟨tk,b1,b2,b3⟩=>⟨p,tk,b1,b2,a2,a3,b3⟩)
   (K4 (J:=fun s'=>∃ tk:Nat,s'={ s with toks:=tk,heap:=((s.heap.update a (Obj.mapSeq fun _=>#[])).push 0x59).push (seqObj "list" #[] 0) }) O (fun i j C s' hi hj hij hJ hC=>?_) h2' ⟨s.toks,rfl⟩ fun p' s' hP hU ⟨tk,e⟩=>⟨tk,hP,hU,e⟩)) ?_ fun _ _ e=>e)
  ·obtain ⟨tk,rfl⟩:=hJ;exact hl i j _ C hi hj hij kp fun tk'=>hC _ ⟨tk',rfl⟩
  rintro ⟨⟨⟩,st'⟩ s' ⟨p,tk,hP,hU,har,hf,rfl⟩;dsimp only;refine A0a (A4Z hz2 rfl ?_);rw [kat_snds rfl har];have lp:p.toList.length=vs.length:=by rw [A0L];exact hP.size
  refine A0a (A3m hz2 rfl ?_ (hsz2:=by rw [A0s,bV,lp,A1e];lia));rw [hf];simp only [A3Z,A1s,A2O];exact wpAny_pure (h p tk hP hU)
theorem MP {x:Value}
  (hc:wpAny 0xC A.in1 (collect x) (fun vs s1=>vs.length<64/\∃ (lt:Nat->Nat->Bool) (κ:SortKind),Ord vs.length lt /\
   (2<=vs.length->∀ (s':Shared) (R:SortKind->Shared->Prop),(∀ b o,s1.heap.get? b=some o->s'.heap.get? b=some o)->R κ s'->wpAny 0xC A.in1.in1 (keyKind' vs.toArray) R 0x63 s') /\
   (∀ (i j:Nat) (s':Shared) (C:Bool->Shared->Prop),i<vs.length->j<vs.length->i≠j->(∀ b o,s1.heap.get? b=some o->s'.heap.get? b=some o)->(∀ tk,C (lt i j) { s' with toks:=tk })->wpAny 0xC A.in1.in1 (keyLt' κ (vs.getD i Value.none) (vs.getD j Value.none)) C 0x63 s') /\
   ∀ (p:Array Nat) (tk:Nat) (h':Heap) (e:Nat),Pm vs.length p->Up lt p vs.length->(∀ b o,s1.heap.get? b=some o->h'.get? b=some o)->h'.get? s1.heap.objs.size=some (seqObj "list" (0x25).toArray e)->Q (.ref s1.heap.objs.size) { s1 with toks:=tk,heap:=h' }) 0x63 s) :
  wpAny 0xC A (call (.builtin "sorted") [x]) Q E s:=by
 refine Calls.call_function_entry kind_sorted plain_sorted entry_sorted (args_sorted1 _) ?_;unfold Builtin.«sorted»;refine A0a (m:=checkCount "sorted" 1 1 _) 0x13;refine A0a (A1b hc (fun vs s1 ⟨h64,lt,κ,O,hk,hl,hq⟩=>?_) fun _ _ z=>z.elim);refine A0a (A5d ?_ (by show vs.length<=sizeLine;rw [A1e];lia))
 have hn:(s1.heap.push 0x7C).get? s1.heap.objs.size=some 0x7C:=A0n _ rfl;have old:∀ b o,s1.heap.get? b=some o->b≠s1.heap.objs.size/\(s1.heap.push 0x7C).get? b=some o:=fun b o q=>⟨A0I (A0t q),A0b _ q⟩
 show wpAny _ _ _ _ _ { s1 with heap:=s1.heap.push 0x7C }
 refine A0a (A1T (A0Z slot_list_sort ⟨_,hn,rfl⟩ entry_list_sort ?body (args_list_sort _)))
 case body =>
  refine Ru (s:={ s1 with heap:=s1.heap.push 0x7C }) hn h64 O (fun h2 s' R kp hR=>hk h2 s' R (fun b o q=>kp b o (old b o q).1 (old b o q).2) hR)
   (fun i j s' C hi hj hij kp hC=>hl i j s' C hi hj hij (fun b o q=>kp b o (old b o q).1 (old b o q).2) hC) fun p tk hP hU=>⟨_,rfl,wpAny_pure ⟨_,rfl,?_⟩⟩
  obtain ⟨e,he⟩:=sortedHeap_at (h:=s1.heap.push 0x7C) (a:=s1.heap.objs.size) (vs:=vs) (out:=(0x25).toArray) hn;refine hq p tk _ e hP hU (fun b o q=>?_) he;rw [sortedHeap_old (old b o q).1 (by have:=A0t q;rw [size_push'];exact A2q this)];exact (old b o q).2
end
open PySem.Calls
theorem qu:Slot "set_iterator" "__iter__" "set_iterator.__iter__":=Slot.of (owner:="set_iterator") (n:="__iter__") (by rw [typeLookup_type,builtinLookup_eq_fast];kernel_rfl) 0x8
 (by decide +kernel) 0x8 (by first | exact .inl 0x8 | exact .inr 0x8) (by rw [isSubtype_type];kernel_rfl)
theorem cV:Slot "set_iterator" "__next__" "set_iterator.__next__":=Slot.of (owner:="set_iterator") (n:="__next__") (by rw [typeLookup_type,builtinLookup_eq_fast];kernel_rfl) 0x8
 (by decide +kernel) 0x8 (by first | exact .inl 0x8 | exact .inr 0x8) (by rw [isSubtype_type];kernel_rfl)
theorem wk:entryFor table "set_iterator.__iter__"=some Builtin.«dict_keyiterator.__iter__»:=A4N (id':="dict_keyiterator.__iter__") 0x7E rfl 0x8 0x7E
theorem jg:entryFor table "set_iterator.__next__"=some Builtin.«set_iterator.__next__»:=entryFor_of_tree 0x7E
theorem zB:entryFor table "set.__iter__"=some Builtin.«frozenset.__iter__»:=A4N (id':="frozenset.__iter__") 0x7E rfl 0x8 0x7E
theorem zE (a:Value):argsOk "set_iterator.__iter__" ⟨[a],[]⟩:=by unfold argsOk;kernel_rfl
theorem jG (a:Value):argsOk "set_iterator.__next__" ⟨[a],[]⟩:=by unfold argsOk;kernel_rfl
theorem pH {α:Type}:∀ (xs:List α) (i:Nat) (hi:i<xs.length),(xs[i]::xs.eraseIdx i).Perm xs
 | [],i,h=>by simp at h
 | x::xs,0,_=>A4R _
 | x::xs,i+1,h=>by
  have:=pH xs i (by simpa using h);exact (List.Perm.swap _ _ _).trans ((List.perm_cons x).mpr this)
section
variable {M:Model}
theorem Gx {src:Source}{Q:Nat->Shared->Prop} (hn:n≠0) (h:∀ i d,i<n->Q i { s with drawn:=d }):wpAny M A (choose src n) Q E s:=by
 intro Γ p hΓ;unfold choose;rw [Sem.wp_choose];refine ⟨hn,?_⟩;exact wpAny_pure (h _ _ (Nat.mod_lt _ (Nat.pos_of_ne_zero hn))) Γ p hΓ
theorem Dc {α:Type}:∀ (n:Nat) (xs:List α) (s:Shared) {Q:List α->Shared->Prop},xs.length=n->(∀ ys d,ys.Perm xs->Q ys { s with drawn:=d })->wpAny M A (drawOrder n xs) Q E s
 | 0,[],s,Q,_,h=>by
  unfold drawOrder;exact wpAny_pure (h [] s.drawn (A4R _))
 | 0,_::_,_,_,hl,_=>by simp at hl
 | _+1,[],_,_,hl,_=>by simp at hl
 | n+1,x::xs,s,Q,hl,h=>by
  unfold drawOrder;refine A0a (Gx 0xA fun i d hi=>?_);have e:(x::xs)[i]?=some (x::xs)[i]:=ju hi;rw [e];dsimp only;refine A0a (Dc n ((x::xs).eraseIdx i) { s with drawn:=d } (by rw [A4S hi];simpa using hl) fun ys d' hp=>?_);refine wpAny_pure (h _ d' ?_);exact ((List.perm_cons _).mpr hp).trans (pH _ _ hi)
end
theorem K5 {α:Type} (next:Nat->Nat):∀ (fuel k:Nat) (left:List α) (out:Array α),left.length=fuel->((pickOrder.go next fuel k left out).toList).Perm (out.toList++left)
 | 0,_,[],out,_=>by unfold pickOrder.go;simp
 | 0,_,_::_,_,h=>by simp at h
 | _+1,_,[],_,h=>by simp at h
 | fuel+1,k,x::xs,out,h=>by
  unfold pickOrder.go;have hi:next k % (x::xs).length<(x::xs).length:=Nat.mod_lt _ 0xA;have e:(x::xs)[next k % (x::xs).length]?=some (x::xs)[next k % (x::xs).length]:=ju hi;rw [e];dsimp only;refine (K5 next fuel (k+1) _ _ (by rw [A4S hi];simpa using h)).trans ?_;rw [Array.toList_push,A2P];exact (List.perm_append_left_iff _).mpr (pH _ _ hi)
theorem rG {α:Type} (next:Nat->Nat) (xs:Array α):((pickOrder next xs).toList).Perm xs.toList:=by
 unfold pickOrder;have:=K5 next xs.size 0 xs.toList #[] 0xA
 simpa using this
structure cW (w:World) (h:Heap) (a:Addr) (es:Array (Int×Value)) (ep:Nat) (t:SetTable):Prop where
 o:∃ o,h.get? a=some o/\o.ExactSet/\o.data=.set es ep t
 fits:t.fits es.size=true
 small:es.size<scanBound
 led:w.params.followText "set-order"=false->t.led=true
 plain:1<es.size->t.plain=false
theorem cW.at {t:SetTable} (x:cW w h a es ep t) (k:∀ o,h.get? a=some o->h'.get? a=some o):cW w h' a es ep t :=
 ⟨let ⟨o,ho,r⟩:=x.o;⟨o,k _ ho,r⟩,x.fits,x.small,x.led,x.plain⟩
theorem cW.typeIs {t:SetTable} (x:cW w s.heap a es ep t):s.TypeIs 0x3C "set":=let ⟨o,ho,hx,_⟩:=x.o;⟨o,ho,hx.1⟩
theorem cW.lt {t:SetTable} (x:cW w h a es ep t):a<h.objs.size:=let ⟨_,ho,_⟩:=x.o;A0t ho
def N5 (first:Value) (i:Nat) (a:Addr) (n ep:Nat):Obj:={ cls:=.type "set_iterator",data:=.fields #[first,.int i 0,.ref a,.int n 0,.int ep 0] }
inductive Mode (w:World) (a:Addr) (es:Array (Int×Value)) (ep:Nat) (t:SetTable):List Addr->(Nat->Heap->Value->Prop)->List Value->Prop
 | drawn (tp:Addr) (ps:List Nat):ps.Perm (List.range es.size)->Mode w a es ep t [tp] (fun _ h v=>v=.ref tp/\h.get? tp=some { cls:=.type "tuple",data:=.seq (ps.map fun (i:Nat)=>rawInt i).toArray }) (ps.map fun p=>(es.getD p (0,.none)).2)
 | text:w.params.followText "set-order"=true->Mode w a es ep t [] (fun _ _ v=>v=.int 0 0) ((0x46).toList.map (·.2))
 | one:w.params.followText "set-order"=false->es.size<=1->Mode w a es ep t [] (fun i _ v=>v=.int (if i=0 then 0 else ((t.place.getD 0 0+1:Nat):Int)) 0) (es.toList.map (·.2))
theorem Dd {t:SetTable}{tps:List Addr}{F:Nat->Heap->Value->Prop}{ord:List Value} (md:Mode w a es ep t tps F ord):ord.Perm (es.toList.map (·.2)):=by
 cases md with
 | drawn tp ps hp =>
  have h:=hp.map fun p=>(es.getD p (0,Value.none)).2;have e:(List.range es.size).map (fun p=>(es.getD p (0,Value.none)).2)=es.toList.map (·.2):=by
   apply A5g
   ·simp
   ·intro i h1 h2;simp only [A3v,A4Q];have hi:i<es.size:=by simpa using h2
    rw [Array.getD,A5k hi];simp
  rw [e] at h;exact h
 | text bt=>exact (rG _ es).map _
 | one bt h1=>exact A4R _
theorem Rv {t:SetTable} (hs:cW w s.heap a es ep t)
  (h:∀ (h':Heap) (d:Drawn) (it:Addr) (tps:List Addr) (F:Nat->Heap->Value->Prop) (ord:List Value) (first:Value),(∀ b o,s.heap.get? b=some o->h'.get? b=some o)->(∀ o,s.heap.get? it≠some o)->(∀ b∈tps,b≠it/\∀ o,s.heap.get? b≠some o)->Mode w a es ep t tps F ord->F 0 h' first->h'.get? it=some (N5 first 0 a es.size ep)->Q 0x49 { s with heap:=h',drawn:=d }) :
  wpAny 0xC A (pyIter 0x3C) Q E s:=by
 obtain ⟨o,ho,hx,hd⟩:=hs.o;refine A3X hs.typeIs PySem.F.slot_set_iter (A0Z PySem.F.slot_set_iter hs.typeIs zB ?_ (PySem.F.args_set_iter_1 _));unfold Builtin.«frozenset.__iter__» Builtin.Frozenset.slot0 slotArgs;simp only [List.isEmpty_nil,Bool.not_true,A1s,↓reduceIte,bind_assoc,A4p,A3Z];unfold Builtin.Frozenset.addrOf Builtin.Frozenset.sizeOf;refine A0a 0x13;dsimp only;refine A0a 0x13;refine A0a (A0a (A2Y ho hd hs.fits 0x13));have hset:∀ (Q':Bool->Shared->Prop),Q' (!w.params.followText "set-order"&&(!t.plain&&decide (es.size > 1))) s->wpAny 0xC A.in1 (setDrawn a) Q' E s:=fun Q' hq=>by
  unfold setDrawn;refine A0a (A2Q ho hd hs.fits ?_);dsimp only;unfold setsByText;refine A0a (A0a (A2j 0x13));exact wpAny_pure hq
 refine A0a (hset _ ?_);have Gy:∀ (first:Value) (h1:Heap) (d:Drawn) (tps:List Addr) (F:Nat->Heap->Value->Prop) (ord:List Value),(∀ b u,s.heap.get? b=some u->h1.get? b=some u)->(∀ b∈tps,b<h1.objs.size/\s.heap.objs.size<=b)->Mode w a es ep t tps F ord->(∀ h2,(∀ b u,h1.get? b=some u->h2.get? b=some u)->F 0 h2 first) ->
   wpAny 0xC A.in1 (do
    let e <- setEpoch a
    let r <- newFields "set_iterator" [first,rawInt 0,Value.ref a,rawInt ((es.size:Nat):Int),rawInt ((e:Nat):Int)]
    ret r) (fun fin s'=>∃ v,fin=Fin.done (Flow.ret v)/\∃ T' r,s'.TypeIs v T'/\typeLookup (Value.type T') (Str.ofString "__next__")=pure (some r)/\Q v s') E { s with heap:=h1,drawn:=d }:=fun first h1 d tps F ord k1 ht md hF=>by
  refine A0a (wpAny_setEpoch_of (k1 _ _ ho) hd hs.fits ?_);unfold newFields;refine A0a (A1x ?_ (by size_fits));refine wpAny_pure ⟨_,rfl, "set_iterator",_,⟨_,A0n _ rfl,rfl⟩,cV.lookup,?_⟩;refine h _ d _ tps F ord first (fun b u q=>A0b _ (k1 _ _ q)) (fun u q=>absurd (A0t (k1 _ _ q)) (A1r _)) (fun b hb=>⟨A0I (ht b hb).1,fun u q=>absurd (A0q (A0t q) (ht b hb).2) (A1r _)⟩) md (hF _ fun b u q=>A0b _ q) (A0n _ rfl)
 by_cases c:(!w.params.followText "set-order"&&(!t.plain&&decide (es.size > 1)))=true
 ·rw [A0i c];simp only [A0Y,Bool.not_eq_true',A2a] at c;refine A0a (Dc es.size (List.range es.size) s 0xA fun ps d hp=>?_);refine A0a (A4M ?_ (by rw [bV,hp.length_eq,A3W];exact A2k (A0q hs.small (by rw [A1e];decide))));exact Gy 0x14 _ d _ _ _ (fun b u q=>A0b _ q) (fun b hb=>by rw [A0c.mp hb,size_push'];exact ⟨A3a _,A0f _⟩) (.drawn s.heap.objs.size ps hp) fun h2 k2=>⟨rfl,k2 _ _ (A0n _ rfl)⟩
 ·rw [A0e c];refine A0a 0x13;cases bt:w.params.followText "set-order" with
  | true=>exact Gy (rawInt 0) s.heap s.drawn [] _ _ (fun _ _ q=>q) (fun b hb=>by simp at hb) (.text bt) fun _ _=>rfl
  | false =>
   have hz:es.size<=1:=by
    rcases Nat.lt_or_ge 1 es.size with z | z
    ·exact absurd (by rw [bt,hs.plain z];simpa using z) c
    ·exact z
   exact Gy (rawInt 0) s.heap s.drawn [] _ _ (fun _ _ q=>q) (fun b hb=>by simp at hb) (.one bt hz) fun _ _=>rfl
theorem iI {first:Value} (h:s.heap.get? it=some (N5 first i a n ep)):s.TypeIs 0x49 "set_iterator":=⟨_,h,rfl⟩
theorem Dg {R:PySem.Fin->Shared->Prop}{Q:Option Value->Shared->Prop} (hh:A.handled=none) (hQ:∀ h',(∀ b o,s.heap.get? b=some o->h'.get? b=some o)->Q none { s with heap:=h' }) :
  wpAny 0xC A.in1 (do let e <- newExc (Value.type "StopIteration") [];(raiseNew e:Sem PySem.Fin)) R (fun e s'=>wpAny 0xC A (do
    let b <- isInstance e (Value.type "StopIteration")
    if b=true then pure none else throw e) Q E s') s:=by
 refine A0a ?_;simp only [newExc,newTuple];refine A0a (A1x ?_ (by size_fits));refine A0a (m:=firstArgMember _ _) (wpAny_of_eq (a:=Value.none) (by first | rfl | (simp only [firstArgMember];rfl)) ?_)
 refine A1x ?_ (by size_fits);simp only [raiseNew];refine A0a (wpAny_handled ?_);rw [show A.in1.handled=none from hh]
 refine A0a (wpAny_pure (wpAny_throw ?_));refine A0a (A4c (T:="StopIteration") (b:=true) ⟨_,A0n _ rfl,rfl⟩ isSubtype_stop ?_);exact wpAny_pure (hQ _ fun b u q=>A0b _ (A0b _ q))
theorem zF {first y:Value} (hi:h.get? it=some (N5 first i a n ep)):(h.update it (Obj.mapFields (·.setIfInBounds 0 y))).get? it=some (N5 y i a n ep)/\(h.update it (Obj.mapFields (·.setIfInBounds 1 (rawInt ((i:Int)+1))))).get? it=some (N5 first (i+1) a n ep) :=
 ⟨A2g _ hi rfl,by rw [A2g _ hi rfl];rfl⟩
theorem Dh {t:SetTable}{slot:Int}{nx:Nat}{x:Value}{Q:Option Value->Shared->Prop} (hs:cW w s.heap a es ep t) (hi:s.heap.get? it=some (N5 (.int slot tk) i a es.size ep))
  (hn:∀ (E':Value->Shared->Prop) (Q':Option (Value×Nat)->Shared->Prop),Q' (some (x,nx)) s->wpAny 0xC A.in1 (setNext a slot.toNat i ep) Q' E' s)
  (hQ:∀ h',Heap.SameBut it s.heap h'->h'.get? it=some (N5 (rawInt ((nx:Nat):Int)) (i+1) a es.size ep)->Q (some x) { s with heap:=h' }):wpAny 0xC A (pyNext 0x49) Q E s:=by
 obtain ⟨o,ho,hx,hd⟩:=hs.o;unfold pyNext;refine A0a (A2U (A1c (name:=Str.ofString "__next__") (iI hi) cV (A0Z cV (iI hi) jg ?_ (jG _))));unfold Builtin.«set_iterator.__next__»;refine A0a 0x13;refine A0a (A4T hi rfl ?_);dsimp only;refine A0a (A2Y ho hd hs.fits ?_);rw [A0e 0xA];refine A0a (hn _ _ ?_);dsimp only;have h1:=(zF (y:=rawInt ((nx:Nat):Int)) hi).1;have h2:=(zF (y:=rawInt 0) h1).2;refine A0a (A2H hi rfl 0xA ?_);refine A0a (A2H h1 rfl 0xA ?_);exact wpAny_pure ⟨_,rfl,wpAny_pure (hQ _ ((A2c ..).trans (A2c ..)) h2)⟩
theorem K6 {t:SetTable}{slot:Int}{Q:Option Value->Shared->Prop} (hh:A.handled=none) (hs:cW w s.heap a es ep t) (hi:s.heap.get? it=some (N5 (.int slot tk) i a es.size ep))
  (hn:∀ (E':Value->Shared->Prop) (Q':Option (Value×Nat)->Shared->Prop),Q' none s->wpAny 0xC A.in1 (setNext a slot.toNat i ep) Q' E' s)
  (hQ:∀ h',(∀ b o,b≠it->s.heap.get? b=some o->h'.get? b=some o)->Q none { s with heap:=h' }):wpAny 0xC A (pyNext 0x49) Q E s:=by
 obtain ⟨o,ho,hx,hd⟩:=hs.o;unfold pyNext;refine A0a (A2U (A1c (name:=Str.ofString "__next__") (iI hi) cV (A0Z cV (iI hi) jg ?_ (jG _))));unfold Builtin.«set_iterator.__next__»;refine A0a 0x13;refine A0a (A4T hi rfl ?_);dsimp only;refine A0a (A2Y ho hd hs.fits ?_);rw [A0e 0xA];refine A0a (hn _ _ ?_);dsimp only;refine A0a (A2H hi rfl 0xA ?_);exact Dg hh fun h' k=>hQ h' fun b u hb q=>k b u ((A1p _ _ _ _ hb).trans q)
theorem Rz {tp:Addr}{t:SetTable}{ps:List Nat}{p:Nat}{e:Int×Value}{Q:Option Value->Shared->Prop} (hs:cW w s.heap a es ep t) (hi:s.heap.get? it=some (N5 (.ref tp) i a es.size ep))
  (ht:s.heap.get? tp=some { cls:=.type "tuple",data:=.seq (ps.map fun (i:Nat)=>rawInt i).toArray }) (hp:ps[i]?=some p) (he:es[p]?=some e)
  (hQ:∀ h',Heap.SameBut it s.heap h'->h'.get? it=some (N5 (.ref tp) (i+1) a es.size ep)->Q (some e.2) { s with heap:=h' }):wpAny 0xC A (pyNext 0x49) Q E s:=by
 obtain ⟨o,ho,hx,hd⟩:=hs.o;unfold pyNext;refine A0a (A2U (A1c (name:=Str.ofString "__next__") (iI hi) cV (A0Z cV (iI hi) jg ?_ (jG _))));unfold Builtin.«set_iterator.__next__»;refine A0a 0x13;refine A0a (A4T hi rfl ?_);dsimp only;refine A0a (A2Y ho hd hs.fits ?_);rw [A0e 0xA];refine A0a ?_;unfold seqItems?;refine A0a (A5j ht 0x13);dsimp only;have hpi:(ps.map fun (i:Nat)=>rawInt i).toArray[((i:Nat):Int).toNat]?=some (rawInt p):=by
  rw [A1Z];simp [hp]
 rw [hpi];dsimp only [rawInt];refine A0a ?_;unfold setNextDrawn;refine A0a (A2Q ho hd hs.fits ?_);dsimp only;rw [A0e 0xA];rw [A1Z,he];refine wpAny_pure ?_;have h2:=(zF (y:=rawInt 0) hi).2;refine A0a (A2H hi rfl 0xA ?_);exact wpAny_pure ⟨_,rfl,wpAny_pure (hQ _ (A2c ..) h2)⟩
theorem Wx {tp:Addr}{t:SetTable}{ps:List Nat}{Q:Option Value->Shared->Prop} (hh:A.handled=none) (hs:cW w s.heap a es ep t) (hi:s.heap.get? it=some (N5 (.ref tp) i a es.size ep))
  (ht:s.heap.get? tp=some { cls:=.type "tuple",data:=.seq (ps.map fun (i:Nat)=>rawInt i).toArray }) (hp:ps[i]?=none)
  (hQ:∀ h',(∀ b o,b≠it->s.heap.get? b=some o->h'.get? b=some o)->Q none { s with heap:=h' }):wpAny 0xC A (pyNext 0x49) Q E s:=by
 obtain ⟨o,ho,hx,hd⟩:=hs.o;unfold pyNext;refine A0a (A2U (A1c (name:=Str.ofString "__next__") (iI hi) cV (A0Z cV (iI hi) jg ?_ (jG _))));unfold Builtin.«set_iterator.__next__»;refine A0a 0x13;refine A0a (A4T hi rfl ?_);dsimp only;refine A0a (A2Y ho hd hs.fits ?_);rw [A0e 0xA];refine A0a ?_;unfold seqItems?;refine A0a (A5j ht 0x13);dsimp only;have hpi:(ps.map fun (i:Nat)=>rawInt i).toArray[((i:Nat):Int).toNat]?=none:=by
  rw [A1Z];simp
  simpa using hp
 rw [hpi];dsimp only;have h1:=(zF (y:=rawInt 0) hi).1;refine A0a (A2H hi rfl 0xA ?_);refine A0a (A2H h1 rfl 0xA ?_);exact Dg hh fun h' k=>hQ h' fun b u hb q=>k b u ((A1p _ _ _ _ hb).trans ((A1p _ _ _ _ hb).trans q))
theorem Di {slot:Nat}{t:SetTable} (hs:cW w s.heap a es ep t) (bt:w.params.followText "set-order"=true) (E':Value->Shared->Prop) (Q':Option (Value×Nat)->Shared->Prop)
  (h:Q' ((0x46[i]?).map fun e=>(e.2,slot)) s):wpAny 0xC A (setNext a slot i ep) Q' E' s:=by
 obtain ⟨o,ho,hx,hd⟩:=hs.o;unfold setNext;refine A0a (A2Q ho hd hs.fits ?_);dsimp only;unfold setsByText;refine A0a (A0a (A2j 0x13));dsimp only;rw [show (0xC).w.params.followText "set-order"=true from bt,A0i rfl,A0e 0xA]
 refine A0a ?_;unfold setWalk;refine A0a (A2Q ho hd hs.fits ?_);dsimp only;unfold setsByText;refine A0a (A0a (A2j 0x13));dsimp only;rw [show (0xC).w.params.followText "set-order"=true from bt,A0i rfl]
 refine A0a (A2j 0x13);exact wpAny_pure h
theorem K7 {slot:Nat}{t:SetTable} (hs:cW w s.heap a es ep t) (bt:w.params.followText "set-order"=false) (h1:es.size<=1) (E':Value->Shared->Prop) (Q':Option (Value×Nat)->Shared->Prop)
  (h:Q' (match es[SetTable.below t.place slot]?,t.place[SetTable.below t.place slot]? with | some (_,x),some j=>some (x,j+1) | _,_=>none) s):wpAny 0xC A (setNext a slot i ep) Q' E' s:=by
 obtain ⟨o,ho,hx,hd⟩:=hs.o;unfold setNext;refine A0a (A2Q ho hd hs.fits ?_);dsimp only;unfold setsByText;refine A0a (A0a (A2j 0x13));dsimp only;rw [show (0xC).w.params.followText "set-order"=false from bt,A0e A0o]
 show wpAny _ _ (if (!t.plain&&decide (es.size > 1))=true then _ else _) _ _ _
 rw [A0e (by rw [A0p 0x2,Bool.and_false];exact A0o)];refine A0a ?_
 show wpAny _ _ (if (!t.led&&!es.isEmpty)=true then _ else _) _ _ _
 rw [A0e (by rw [hs.led bt];exact A0o)];refine wpAny_pure ?_;exact wpAny_pure h
theorem xO:SetTable.below #[j] 0=0/\SetTable.below #[j] (j+1)=1:=by
 constructor
 ·simp [SetTable.below,SetTable.below.go]
 ·simp [SetTable.below,SetTable.below.go]
theorem xP {t:SetTable} (h:t.fits 1=true):∃ j,t.place=#[j]:=by
 simp only [SetTable.fits,A0Y,A3N] at h;exact Array.size_eq_one_iff.mp h.1
theorem RJ {t:SetTable}{tps:List Addr}{F:Nat->Heap->Value->Prop}{ord:List Value} (hh:A.handled=none) (hne:a≠it) (htp:∀ b∈tps,b≠it) (md:Mode w a es ep t tps F ord) :
  Walks prog w A it (it::a::tps) [it] es.size (fun i v=>ord[i]?=some v) (fun i h=>cW w h a es ep t/\∃ first,F i h first/\h.get? it=some (N5 first i a es.size ep)) where
 sub:=fun b hb=>by rw [A0c.mp hb];exact A0g
 frame:=fun i h h' ⟨hs,first,hF,hi⟩ hk=>by
  refine ⟨hs.at fun o e=>hk a 0xA o e,first,?_,hk it 0xA _ hi⟩
  cases md with
  | drawn tp ps hp=>exact ⟨hF.1,hk tp 0xA _ hF.2⟩
  | text bt=>exact hF
  | one bt h1=>exact hF
 item:=fun i s Q E hi ⟨hs,first,hF,hit⟩ hQ=>by
  cases md with
  | drawn tp ps hp =>
   obtain ⟨rfl,ht⟩:=hF;have hl:ps.length=es.size:=by rw [hp.length_eq,A3W]
   have hil:i<ps.length:=by lia
   have hpm:ps[i]<es.size:=A4H.mp (hp.mem_iff.mp (A0P hil));refine Rz hs hit ht (ju hil) (A2f hpm) fun h' sb hi'=>?_;have ht':=sb.extBut _ _ (htp tp 0xA) ht;refine hQ _ h' s.toks ?_ ⟨hs.at fun o e=>sb.extBut _ _ hne e,_,⟨rfl,ht'⟩,hi'⟩ fun b u hb e=>sb.extBut _ _ (fun z=>hb (by simp [z])) e;rw [jW,ju hil]
   show some (es.getD ps[i] (0,Value.none)).2=some es[ps[i]].2
   rw [Array.getD,A5k hpm];rfl
  | text bt =>
   subst hF;have hl:(0x46).size=es.size:=by have:=(rG (w.params.setOrder a ep) es).length_eq;simpa using this
   have hil:i<(0x46).size:=by lia
   refine Dh (x:=0x46[i].2) (nx:=0) hs hit (fun E' Q' q=>Di hs bt E' Q' (by rw [A2f hil];exact q)) fun h' sb hi'=>?_;refine hQ _ h' s.toks ?_ ⟨hs.at fun o e=>sb.extBut _ _ hne e,_,rfl,hi'⟩ fun b u hb e=>sb.extBut _ _ (fun z=>hb (by simp [z])) e;rw [jW,A3n,A2f hil];rfl
  | one bt h1 =>
   obtain rfl:i=0:=by lia
   have hz:es.size=1:=by lia
   subst hF;obtain ⟨j,hj⟩:=xP (by rw [<- hz];exact hs.fits);refine Dh (x:=es[0].2) (nx:=j+1) hs hit (fun E' Q' q=>K7 hs bt h1 E' Q' ?_) fun h' sb hi'=>?_
   ·show Q' (match es[SetTable.below t.place 0]?,t.place[SetTable.below t.place 0]? with | some (_,x),some j=>some (x,j+1) | _,_=>none) s
    rw [hj,xO.1,A2f hi];exact q
   ·refine hQ _ h' s.toks ?_ ⟨hs.at fun o e=>sb.extBut _ _ hne e,_,?_,hi'⟩ fun b u hb e=>sb.extBut _ _ (fun z=>hb (by simp [z])) e
    ·rw [jW,A3n,A2f hi];rfl
    ·show rawInt ((j+1:Nat):Int)=Value.int (if 0+1=0 then 0 else ((t.place.getD 0 0+1:Nat):Int)) 0
     rw [hj,A0e 0x2];rfl
 done:=fun s Q E ⟨hs,first,hF,hit⟩ hQ=>by
  have fin:∀ h',(∀ b o,b≠it->s.heap.get? b=some o->h'.get? b=some o)->Q none { s with heap:=h' }:=fun h' k=>hQ h' s.toks fun b o hb e=>k b o (fun z=>hb (by simp [z])) e;cases md with
  | drawn tp ps hp =>
   obtain ⟨rfl,ht⟩:=hF;have hl:ps.length=es.size:=by rw [hp.length_eq,A3W]
   exact Wx hh hs hit ht (A2i 0x2) fin
  | text bt =>
   subst hF;have hl:(0x46).size=es.size:=by have:=(rG (w.params.setOrder a ep) es).length_eq;simpa using this
   exact K6 hh hs hit (fun E' Q' q=>Di hs bt E' Q' (by rw [A4a 0x2];exact q)) fin
  | one bt h1 =>
   subst hF;refine K6 hh hs hit (fun E' Q' q=>K7 hs bt h1 E' Q' ?_) fin
   by_cases hz:es.size=0
   ·rw [A4a 0x2];exact q
   ·have hz1:es.size=1:=by lia
    obtain ⟨j,hj⟩:=xP (by rw [<- hz1];exact hs.fits);rw [A0e hz,hj,A1Z]
    show Q' (match es[SetTable.below #[j] (j+1)]?,(#[j]:Array Nat)[SetTable.below #[j] (j+1)]? with | some (_,x),some j=>some (x,j+1) | _,_=>none) s
    rw [xO.2,A4a 0x2];exact q
 self:=fun i s Q E ⟨_,first,_,hit⟩ hQ=>by
  refine A3X (iI hit) qu (A0Z qu (iI hit) wk ?_ (zE _))
  show wpAny _ _ (ret 0x49) _ _ s
  exact wpAny_pure ⟨_,rfl, "set_iterator",_,iI hit,cV.lookup,hQ⟩
theorem Wy {Q:Bool->Shared->Prop} (ht:s.TypeIs 0x3C "set") (q:Q false s):wpAny 0xC A (Builtin.List.listLengthHint 0x3C) Q E s:=by
 unfold Builtin.List.listLengthHint;refine A0a (wpAny_specialOf ht PySem.F.slot_set_len.lookup ?_);generalize en:("set.__len__" : String)=a1Z
 wp_delta
 rw [show splitId a1Z=some ("set", "__len__") from by subst en;decide +kernel]
 subst en;refine A0a (A4c (T:="set") (b:=true) ht (by rw [isSubtype_type];kernel_rfl) ?_);refine A5n (fun z=>absurd z 0x5) 0x86;refine A5n 0x86 (fun z=>absurd 0x8 z);exact A0a (A4v ht (wpAny_pure q))
theorem N6 {ord:List Value}{acc:Array Value} (h:ItemsOf (fun i v=>ord[i]?=some v) acc n) (hl:ord.length=n):acc.toList=ord:=by
 apply List.ext_getElem?
 intro i
 by_cases hi:i<acc.toList.length
 ·rw [ju hi];have:=h.2 i acc.toList[i] (by rw [<- A3n];exact ju hi);exact this.symm
 ·have hz:acc.toList.length=n:=by rw [A0L];exact h.1
  rw [A2i 0x2,A2i 0x2]
theorem Dj {t:SetTable}{R:List Value->Shared->Prop} (hh:A.handled=none) (hs:cW w s.heap a es ep t)
  (h:∀ (h':Heap) (tk:Nat) (d:Drawn) (vs:List Value),(∀ b o,s.heap.get? b=some o->h'.get? b=some o)->vs.Perm (es.toList.map (·.2))->R vs { s with heap:=h',toks:=tk,drawn:=d }):wpAny 0xC A (collect 0x3C) R E s:=by
 have hlt:=hs.lt;have zs:es.size<=sizeLine:=A2k (A0q hs.small (by rw [A1e];decide));unfold collect;refine A0a (wpAny_runValue (A3l entry_proto_collect' ?_));rw [A2R PySem.F.plain_proto_collect _]
 show wpAny _ A.in1 (newList [] >>= fun l=>again (.builtin "list.__iadd__" ⟨[l,.ref a],[]⟩)) _ _ s
 refine A0a (A1x ?_);refine wpAny_pure ⟨A4g PySem.F.plain_list_iadd _,A3l entry_list_iadd' ?_⟩;rw [A2R PySem.F.plain_list_iadd _];have l0:(s.heap.push { cls:=.type "list",data:=.seq ([]:List Value).toArray }).get? s.heap.objs.size=some { cls:=.type "list",data:=.seq #[] 0 }:=A0n _ rfl;have hs0:cW w (s.heap.push { cls:=.type "list",data:=.seq ([]:List Value).toArray }) a es ep t:=hs.at fun o e=>A0b _ e
 show wpAny _ A.in1 (Builtin.List.listExtendWith 0x14 0x3C 0x14) _ _ _
 unfold Builtin.List.listExtendWith;refine A0a (A4v (T:="set") hs0.typeIs ?_);have a2a:Builtin.List.listSameRef 0x14 0x3C=false:=by simp [Builtin.List.listSameRef,A3e hlt]
 simp only [a2a,show (Value.type "set"==Value.type "list")=false by decide,show (Value.type "set"==Value.type "tuple")=false by decide,Bool.or_false,A1s,A2O]
 refine A0a (Rv (s:={ s with heap:=s.heap.push { cls:=.type "list",data:=.seq ([]:List Value).toArray } }) hs0 fun h1 d it tps F ord first k1 nit ntp md hF hit=>?_)
 have nS:s.heap.objs.size≠it:=fun z=>nit _ (by rw [<- z];exact l0);have l1:=k1 _ _ l0;have hs1:cW w h1 a es ep t:=hs0.at fun o e=>k1 _ _ e;have na:a≠it:=fun z=>by obtain ⟨o,ho,_⟩:=hs0.o;exact nit o (by rw [<- z];exact ho)
 have W:=RJ (prog:=prog) (A:=A.in1) (it:=it) hh na (fun b hb=>(ntp b hb).1) md;have ol:ord.length=es.size:=by have:=(Dd md).length_eq;simpa using this
 have key:∀ (Rr:Result->Shared->Prop),(∀ (h':Heap) (tk':Nat) (acc:Array Value) (c':Nat),(∀ b o,s.heap.get? b=some o->h'.get? b=some o)->h'.get? s.heap.objs.size=some { cls:=.type "list",dict:=none,data:=.seq acc c',slots:=#[] }->acc.toList.Perm (es.toList.map (·.2))->Rr (.ok (.ret 0x14)) { s with heap:=h',toks:=tk',drawn:=d }) ->
   ∀ (h2:Heap) (c tk:Nat),(∀ b o,b≠s.heap.objs.size->h1.get? b=some o->h2.get? b=some o)->h2.get? s.heap.objs.size=some { cls:=.type "list",data:=.seq #[] c } ->
   codeAny 0xC A (.builtin "list.extend.loop" ⟨[.ref s.heap.objs.size,.ref it,.ref s.heap.objs.size],[]⟩) Rr { s with heap:=h2,toks:=tk,drawn:=d }:=fun Rr hR h2 c tk k2 l2=>by
  have old:∀ b o,s.heap.get? b=some o->h2.get? b=some o/\b≠s.heap.objs.size:=fun b o q=>by
   have hb:b≠s.heap.objs.size:=A0I (A0t q);exact ⟨k2 b o hb (k1 _ _ (A0b _ q)),hb⟩
  have ntps:∀ b∈tps,b≠s.heap.objs.size:=fun b hb z=>(ntp b hb).2 { cls:=.type "list",data:=.seq #[] 0 } (z ▸ l0);have st:cW w h2 a es ep t/\∃ first,F 0 h2 first/\h2.get? it=some (N5 first 0 a es.size ep):=by
   refine W.frame 0 h1 h2 ⟨hs1,first,hF,hit⟩ fun b hb o q=>k2 b o ?_ q
   rcases A0d.mp hb with rfl | hb
   ·exact A0m nS
   rcases A0d.mp hb with rfl | hb
   ·exact A0I hlt
   ·exact ntps b hb
  have nf:s.heap.objs.size∉it::a::tps:=fun hm=>by
   rcases A0d.mp hm with z | hm
   ·exact nS z
   rcases A0d.mp hm with z | hm
   ·exact A3e hlt z
   ·exact ntps _ hm rfl
  refine codeAny_extend_loopS W.toS zs s.heap.objs.size nf _ es.size 0 _ #[] c rfl (A0X _) st l2 (ItemsOf.nil _) fun s' acc c' hm hS hacc=>?_;rw [Moved.eq_with hm];refine hR s'.heap s'.toks acc c' (fun b o q=>hm.heap b o (fun hmem=>?_) (old b o q).1) hS (by rw [N6 hacc ol];exact Dd md);rcases A0d.mp hmem with z | hmem
  ·exact (old b o q).2 z
  ·exact nit o (by rw [<- A0c.mp hmem];exact A0b _ q)
 refine A0a (A1T (Wy hs1.typeIs ?_));refine A5n (fun _=>?b1) (fun _=>wpAny_pure ⟨A4g PySem.F.plain_extend_loop _,key _ (fun h' tk' acc c' kp hS hp=>?b2) h1 0 _ (fun b o _ q=>q) l1⟩)
 case b2 =>
  show wpAny _ A (load s.heap.objs.size >>= _) _ _ _
  exact A0a (A5j hS (wpAny_pure (h h' tk' d _ kp hp)))
 refine A0a (A3q ?_);refine A0a ?_
 show wpAny _ _ (updateSeq s.heap.objs.size (·.push .none) >>= fun _=>updateSeq s.heap.objs.size (·.pop)) _ _ _
 refine A0a (wpAny_updateSeq l1 rfl ?_);have l2:=A2g (Obj.mapSeq (·.push Value.none)) l1 rfl;refine wpAny_updateSeq (hz:=by seq_fits) l2 rfl ?_;have l3:=A2g (Obj.mapSeq (·.pop)) l2 rfl;refine wpAny_pure ⟨A4g PySem.F.plain_extend_loop _,key _ (fun h' tk' acc c' kp hS hp=>?b3) _ _ _ (fun b o hb q=>?b4) l3⟩
 case b3 =>
  show wpAny _ A (load s.heap.objs.size >>= _) _ _ _
  exact A0a (A5j hS (wpAny_pure (h h' tk' d _ kp hp)))
 case b4=>exact (A3U _ _ (A0m hb)).trans ((A3U _ _ (A0m hb)).trans q)
theorem RK (t:SetTable) (n:Nat):(t.orStandIn n).led=t.led:=by
 unfold SetTable.orStandIn
 split <;> rfl
theorem N7 (t:SetTable) (es:Array (Int×Value)) (hv:Int) (x:Value):(layNew t es hv x).2.1.led=t.led:=by
 unfold layNew
 split
 ·rename_i slot wd _
  exact RK _ _
 ·rfl
theorem Dk (t:SetTable) (es:Array (Int×Value)) (n:Nat):(relayAll t es n).2.1.led=t.led/\(t.plain=false->(relayAll t es n).2.1.plain=false):=by
 unfold relayAll
 split
 ·rename_i t' order heq
  dsimp only
  split
  ·unfold SetTable.relaid SetTable.laid at heq;simp only [Option.bind_eq_bind,Option.bind_eq_some_iff] at heq;obtain ⟨ow,_,e⟩:=heq;have e':=A0T e;rw [<- (Prod.mk.inj e').1];exact ⟨rfl,fun h=>h⟩
  ·exact ⟨rfl,fun _=>rfl⟩
 ·exact ⟨rfl,fun _=>rfl⟩
theorem xQ {es':Array (Int×Value)}{t t':SetTable} (hs:cW w h a es ep t) (hf:t'.fits es'.size=true) (hb:es'.size<scanBound) (hl:t'.led=t.led) (hp:t'.plain=false):cW w (h.update a (Obj.putSet es' t')) a es' (ep+1) t':=by
 obtain ⟨o,ho,hx,hd⟩:=hs.o;have g:=A2g (Obj.putSet es' t') ho (by rw [putSet_of es' t' hd];rfl);rw [putSet_of es' t' hd] at g;exact ⟨⟨_,g,hx,rfl⟩,hf,hb,fun b=>by rw [hl];exact hs.led b,fun _=>hp⟩
theorem Wz {t:SetTable}{Q:Bool->Shared->Prop} (hs:cW w s.heap a es ep t) (hel:ElemsOf 0x20 es.toList) (room:es.size+1<scanBound)
  (h:∀ (h':Heap) (es':Array (Int×Value)) (ep':Nat) (t':SetTable) (b:Bool),Heap.SameBut a s.heap h'->cW w h' a es' ep' t'->ElemsOf 0x20 es'.toList ->
   ((∃ e∈es.toList,(0x20).is z e.2=true)/\es'=es\/(∀ e∈es.toList,(0x20).is z e.2=false)/\es'.toList.Perm (es.toList++[((0x20).hash z,.str z tk)]))->Q b { s with heap:=h' }) :
  wpAny 0xC A (setAddHashed a (.str z tk) ((0x20).hash z)) Q E s:=by
 obtain ⟨o,ho,hx,hd⟩:=hs.o;have hkey:(0x20).is z (.str z tk)=true:=A2V prog w z tk;have hsc:(Value.str z tk).scannable=true:=rfl;unfold setAddHashed setAddHashedIn;refine A1T (A0a (A2Q ho hd hs.fits ?_));dsimp only;rw [byScan_of hsc hs.small hel,A0i rfl];unfold setAddByScan;refine A0a (A0a (A3q (A0a (wpAny_setScan_of hkey ho hd hs.fits hel ?_))));cases hr:List.findIdx? (fun e=>(strKind prog w).is z e.2) es.toList with
 | some j =>
  dsimp only;obtain ⟨hj,hpj,_⟩:=List.findIdx?_eq_some_iff_getElem.mp hr;refine wpAny_pure 0x13;exact h s.heap es ep t _ (Heap.SameBut.refl a s.heap) hs hel (.inl ⟨⟨_,A0P hj,hpj⟩,rfl⟩)
 | none =>
  dsimp only;have none_:∀ e∈es.toList,(0x20).is z e.2=false:=fun e he=>by simpa using List.findIdx?_eq_none_iff.mp hr e he
  have pm:=layNew_perm t es ((0x20).hash z) (.str z tk);have ft:=layNew_fits t es ((0x20).hash z) (.str z tk);have ld:=N7 t es ((0x20).hash z) (.str z tk);generalize layNew t es ((0x20).hash z) (.str z tk)=L at pm ft ld ⊢;obtain ⟨es1,t1,dummy,gave⟩:=L;dsimp only at pm ft ld ⊢;rw [Array.toList_push] at pm;have el1:ElemsOf 0x20 es1.toList:=(hel.push hkey hsc).perm pm;have sz1:es1.size=es.size+1:=by rw [<- A0L,pm.length_eq,iw,A0L];rfl
  have way:∀ (b:Bool) {s₁:Shared}{Q':Unit->Shared->Prop}{E':Value->Shared->Prop},Q' () s₁->wpAny 0xC A (match b with | true=>rule "set.scan.the-table-gave-way" | false=>pure ()) Q' E' s₁:=fun b s₁ Q' E' q=>by
   cases b
   ·exact wpAny_pure q
   ·exact A3q q
  refine A0a (way _ ?_);have tail:∀ t2:SetTable,t2.fits es1.size=true->t2.led=t.led->t2.plain=false->wpAny 0xC A (do
    storeSet a es1 t2
    if (!dummy&&t2.tooFull)=true then do
      (match (relayAll t2 es1 0x50).2.2 with | true=>rule "set.scan.the-table-gave-way" | false=>pure ())
      storeSet a (relayAll t2 es1 0x50).1 (relayAll t2 es1 0x50).2.1
      pure (some true)
     else pure (some true)) (fun r s'=>wpAny 0xC A (match r with | some added=>pure added | none=>setAddHashedIn a (.str z tk) ((0x20).hash z) 99999) Q E s') E s:=fun t2 f2 l2 p2=>by
   have r2:=xQ (es':=es1) (t':=t2) hs f2 0x2 l2 p2;refine A0a (wpAny_storeSet_of ho hd ?_ (fits_of_scanBound 0x2));have b2:=A2c s.heap a (Obj.putSet es1 t2)
   split
   ·have pr:=relayAll_perm t2 es1 0x50;have fr:=relayAll_fits t2 es1 0x50;have kr:=Dk t2 es1 0x50;generalize relayAll t2 es1 0x50=L at pr fr kr ⊢;obtain ⟨es3,t3,gave3⟩:=L;dsimp only at pr fr kr ⊢;have sz3:es3.size=es1.size:=by rw [<- A0L,pr.length_eq,A0L]
    obtain ⟨o2,ho2,_,hd2⟩:=r2.o;refine A0a (way _ (A0a (wpAny_storeSet_of ho2 hd2 ?_ (fits_of_scanBound 0x2))));refine wpAny_pure (wpAny_pure (h _ es3 _ t3 _ (b2.trans (A2c _ a _)) (xQ r2 fr 0x2 kr.1 (kr.2 p2)) (el1.perm pr) (.inr ⟨none_,pr.trans pm⟩)))
   ·exact wpAny_pure (wpAny_pure (h _ es1 _ t2 _ b2 r2 el1 (.inr ⟨none_,pm⟩)))
  cases hpl:t1.plain with
  | true =>
   rw [A0i rfl];refine A0a ?_;rw [hashByValue_scannable 8 hsc];refine wpAny_pure ?_;exact tail { t1 with plain:=false } (SetTable.fits_plain_off ft) ld rfl
  | false =>
   rw [A0e A0o];refine A0a 0x13;exact tail t1 ft ld hpl
open PySem.Spec
theorem cJ.obj (x:cJ P w H h a o):∃ ob,h.get? a=some ob:=by
 cases o with
 | lst xs=>obtain ⟨_,_,_,_,e⟩:=x;exact ⟨_,e⟩
 | tup xs=>obtain ⟨_,_,_,ob,e,_⟩:=x;exact ⟨ob,e⟩
 | dK kvs=>obtain ⟨_,_,_,_,ob,_,_,e,_⟩:=x;exact ⟨ob,e⟩
 | dT kvs=>obtain ⟨_,_,_,_,ob,_,_,e,_⟩:=x;exact ⟨ob,e⟩
 | set S n=>obtain ⟨ob,_,_,_,e,_⟩:=x;exact ⟨ob,e⟩
 | ins C dx fs=>obtain ⟨_,_,_,e,_⟩:=x;exact ⟨_,e⟩
 | own y=>exact x
 | xd fs=>obtain ⟨_,⟨ob,_,_,e,_⟩,_⟩:=x;exact ⟨ob,e⟩
 | rng lo hi=>obtain ⟨_,_,_,e⟩:=x;exact ⟨_,e⟩
 | gH ob u=>obtain ⟨e,_⟩:=x;exact ⟨ob,e⟩
 | Yi ps=>exact ⟨_,x⟩
 | met f y=>exact ⟨_,x⟩
 | ext φ=>obtain ⟨_,e,_⟩:=x;exact e
theorem Inv.a2b (H':Hp) (I:Inv X pins σ H s) (k:∀ b u,s.heap.get? b=some u->h'.get? b=some u) (hs:∀ b u,H b=some u->H' b=some u) (hn:∀ b u,H' b=some u->H b=none->(∀ o,s.heap.get? b≠some o)/\cJ X.prog X.w H' h' b u) :
  Inv X pins σ H' { s with heap:=h',toks:=t' }:=by
 have hf:∀ b o,s.heap.get? b=some o->H b=none->H' b=none:=fun b o q n=>by
  cases e:H' b with
  | none=>rfl
  | some u=>exact absurd q ((hn b u e n).1 o)
 refine I.un ⟨fun b u q _ _ _=>k b u q,fun b u q _ _ _=>⟨u.slots,k b u q⟩,fun b u q n _=>hf b u q n,fun b u q _=>⟨u,k b u q⟩,fun b xs q=>hs b _ q,fun b o u q=>hs b _ q,fun b ps q=>⟨#[],by rw [hs b _ q];simp⟩⟩ fun b u e=>?_;cases q:H b with
 | none=>exact (hn b u e q).2
 | some v =>
  have e2:=hs b v q;rw [e] at e2;cases e2;exact (I.hok b _ q).stay (fun c z _ r=>k c z r) (fun c r=>hs c _ r) fun c xs r=>hs c _ r
def tK (p d:Addr):HO:=.ext fun h=>h.IsValuesView p d
theorem Gz (hv:h.IsValuesView p d):cJ P w H h p (tK p d) :=
 ⟨hv,(let ⟨o,ho,_⟩:=hv;⟨o,ho⟩),fun h1 h2 ⟨o,ho,r⟩ k=>⟨o,k _ ho,r⟩⟩
theorem RN (I:Inv X pins σ H s) (e:H a=some 0x15):kvs.length<=sizeLine/\0x74=false/\∃ vs ep,KV kvs vs/\s.heap.DictAt 0x36 a vs ep:=by
 obtain ⟨z,hs,vs,rel,o,es,ep,r⟩:=oU I.hok e;exact ⟨z,hs,vs,ep,rel,o,es,r⟩
inductive xR (Q:VK) (x:V) (H1:Hp):Prop
 | mk (a:Addr) (kvs:List 0x18) (_:x=.ref a) (_:H1 a=some 0x15) (_:∀ p,H1 p=none->Q 0x48 (upd H1 p (tK p a))):xR Q x H1
def WD (td:TE):TE:=fun σ H Q=>td σ H fun x H1=>xR Q x H1
theorem N8 {l:Expr} (hl:PE X l tl) (hbase:attributeBase l "values" X.env (eval l X.env)=eval l X.env:=by rfl) (hline:0x64=true:=by rfl) :
  PE X (.Call (.Attribute l "values" apos) [] [] cpos) (WD tl):=by
 intro pins s σ H Q I h;refine A3b hbase hline (cH (hl pins s σ H _ I h) fun v s1 zq=>?_);obtain ⟨x,H1,I1,r1,a,kvs,ex,ea,q⟩:=zq;subst ex;cases r1;obtain ⟨z,hs,vs,ep,rel,dat⟩:=RN I1 ea;have hT:s1.TypeIs 0x3C "dict":=dat.dictOf.typeIs;obtain ⟨o,es,ho,hx,r⟩:=id dat;refine ⟨"dict", "dict.values",A1L,A2W,PySem.F.type_dict_values,hT,(fun b e=>by injection e with e;subst e;exact ⟨o,ho,hx.2.1⟩),?_⟩;refine A1k rfl (A3x ?_);refine A2w A2W hT PySem.F.entry_dict_values (A4U _) (meets_dict_values 0x36 a hs) ⟨⟨vs,dat.dictOf⟩,?_⟩;exact ⟨.ref s1.heap.objs.size,_,I1.laid (o:=tK s1.heap.objs.size a) (t':=s1.toks) (fun b o q=>A0b _ q) 0x2D (Gz ⟨_,A0n _ rfl,rfl,rfl⟩),rfl,q _ (I1.hok.fresh 0x2D)⟩
theorem K8:∀ {κ:Type}{kvs:List (κ×V)}{vs:List (κ×Value)},KV kvs vs->Vals (kvs.map (·.2)) (vs.map (·.2))
 | _,[],[],_=>.nil
 | _,_::_,_::_,.cons h t=>.cons h.2 (K8 t)
inductive RP (xs:List V) (H:Hp) (Q:VK):Prop
 | mk (v a:Addr) (kvs:List 0x18) (_:xs=[.ref v]) (_:H v=some (tK v a)) (_:H a=some 0x15) (_:∀ p,H p=none->Q 0x48 (upd H p (.lst (kvs.map (·.2))))):RP xs H Q
theorem GC (hin:X.A.handled=none):iy X (.type "list") RP:=by
 intro pins s σ H xs us Q I r h;obtain ⟨v,a,kvs,rfl,hv,ha,q⟩:=h;obtain ⟨u,rfl,ru⟩:=vals1 r;cases ru;obtain ⟨z,hs,vs,ep,rel,dat⟩:=RN I ha;have vw:s.heap.IsValuesView v a:=(I.hok _ _ hv).1;have hlen:vs.length=kvs.length:=rel.length.symm;refine kdl_call (kdl_values (knd:=bQ X.prog X.w) (kvs:=vs) (ep:=ep)) hin ⟨vw,dat⟩ 0x2 fun h' tk acc c hk hS hI=>?_;have ev:acc.toList=vs.map (·.2):=kdl_vals_eq acc.toList (by rw [A0L,hI.1]) fun j w hj=>hI.2 j w (by simpa using hj);have hl:(kvs.map (·.2)).length<=sizeLine:=by rw [bV];exact z
 have hv2:=K8 rel;rw [<- ev] at hv2;exact ⟨.ref s.heap.objs.size,_,I.laid (o:=.lst (kvs.map (·.2))) (t':=tk) hk 0x2D ⟨hl,acc.toList,c,hv2,hS⟩,rfl,q _ 0x3D⟩
inductive RQ (xs:List V) (H:Hp) (Q:VK):Prop
 | mk (a:Addr) (kvs:List 0x18) (_:xs=[.ref a]) (_:H a=some 0x15) (_:∀ p,H p=none->Q 0x48 (upd H p 0x15)):RQ xs H Q
theorem jO:iy X (.type "dict") RQ:=by
 intro pins s σ H xs us Q I r h;obtain ⟨a,kvs,rfl,ha,q⟩:=h;obtain ⟨u,rfl,ru⟩:=vals1 r;cases ru;obtain ⟨z,hs,vs,rel,dd⟩:=oU I.hok ha;have hlen:vs.length=kvs.length:=rel.length.symm;have low:(s.heap.objs.size==sysModules)=false:=by
  obtain ⟨m,F⟩:=I.fr;have h1:sysModules<X.base.objs.size:=modules_low I.mod.nolimit;have h2:X.base.objs.size<=X.env.locals:=F.above;have h3:X.env.locals<s.heap.objs.size:=F.ns.lt;exact A1J.mpr (A3e (Nat.lt_trans (A0q h1 h2) h3))
 refine kt_call_dict (knd:=bQ X.prog X.w) hs dd 0x2 fun h' hd hb=>?_;exact ⟨.ref s.heap.objs.size,_,I.laid (o:=.dK kvs) (t':=s.toks) (fun b o e=>hb.extBut _ _ (A0I (A0t e)) (A0b _ e)) 0x2D ⟨z,low,vs,rel,hd⟩,rfl,q _ 0x3D⟩
def txt:Value->Str
 | .str z _=>z
 | _=>Str.empty
def jo (P:Program) (w:World) (a:Addr) (zs:List Str):HO:=.ext fun h=>∃ es ep t,cW w h a es ep t/\ElemsOf (strKind P w) es.toList/\(es.toList.map fun e=>txt e.2).Perm zs/\zs.Nodup
theorem K9 {t:SetTable} (r:cW w h a es ep t) (el:ElemsOf (strKind P w) es.toList) (pm:(es.toList.map fun e=>txt e.2).Perm zs) (nd:zs.Nodup):cJ P w H h a (jo P w a zs):=by
 refine ⟨⟨es,ep,t,r,el,pm,nd⟩,?_,fun h1 h2 p k=>?_⟩
 ·obtain ⟨o,ho,_⟩:=r.o;exact ⟨o,ho⟩
 ·obtain ⟨es,ep,t,r,x⟩:=p;exact ⟨es,ep,t,r.at fun o e=>k _ e,x⟩
theorem Inv.drew (I:Inv X pins σ H s) (d:Drawn):Inv X pins σ H { s with drawn:=d } :=
 I.step (h':=s.heap) (H':=H) (g':=s.gens) (t':=s.toks) (d':=d) (ch:=[]) (fun b hb=>by simp at hb) (fun b o _ _ _ e _=>e) (fun b o _ _ _ e _=>⟨o.slots,e⟩) (fun b o _ e n=>n) (fun b o _ e=>⟨o,e⟩) (fun b xs e=>e) (fun b u xs e=>e) (fun b ps e=>⟨#[],by rw [e];simp⟩) (fun m hm=>hm) I.hok I.bare
theorem WK {l:List (Int×Value)} (h:ElemsOf (strKind P w) l):∀ v∈l.map (·.2),∃ t,v=.str (txt v) t:=fun v hv=>by
 obtain ⟨e,he,rfl⟩:=A0j.mp hv;obtain ⟨⟨k,hk,_⟩,_⟩:=h e he;obtain ⟨t,ht⟩:=A2X hk;exact ⟨t,by rw [ht];rfl⟩
inductive Dl (P:Program) (w:World) (xs:List V) (H:Hp) (Q:VK):Prop
 | mk (a:Addr) (zs:List Str) (_:xs=[.ref a]) (_:H a=some (jo P w a zs)) (_:zs.length<64) (_:∀ (l:Addr) (ys:List Str),H l=none->ys.Perm zs->ys.Pairwise (fun x y=>x.cps.toList<y.cps.toList)->Q (.ref l) (upd H l (.lst (ys.map V.str)))):Dl P w xs H Q
theorem Dm (h:(es.toList.map fun e=>txt e.2).Perm zs):es.size=zs.length:=by have:=h.length_eq;simpa using this
theorem qw (hin:X.A.handled=none):iy X (.builtin "sorted") (Dl X.prog X.w):=by
 intro pins s σ H xs us Q I r h;obtain ⟨a,zs,rfl,ha,h64,q⟩:=h;obtain ⟨u,rfl,ru⟩:=vals1 r;cases ru;obtain ⟨⟨es,ep,t,raw,el,pm,nd⟩,_⟩:=I.hok _ _ ha;have hz:=Dm pm;refine MP (Dj (E:=fun _ _=>False) hin raw fun h1 tk d vs k1 pv=>?_);have lv:vs.length=zs.length:=by rw [pv.length_eq,bV,A0L,hz]
 have str:∀ v∈vs,∃ t,v=.str (txt v) t:=fun v hv=>WK el v (pv.mem_iff.mp hv);have pz:(vs.map txt).Perm zs:=by
  refine (pv.map txt).trans ?_;rw [A0S];exact pm
 have ndv:(vs.map txt).Nodup:=pz.nodup_iff.mpr nd;have at_:∀ i (hi:i<vs.length),∃ t,vs.getD i Value.none=.str (txt vs[i]) t:=fun i hi=>by
  obtain ⟨t,ht⟩:=str vs[i] (A0P hi);refine ⟨t,?_⟩;rw [qQ,ju hi];exact ht
 have gT:∀ i (hi:i<vs.length),txt (vs.getD i Value.none)=txt vs[i]:=fun i hi=>by rw [qQ,ju hi];rfl
 refine ⟨by lia,fun i j=>decide ((txt (vs.getD i Value.none)).cps.toList<(txt (vs.getD j Value.none)).cps.toList),oneType',⟨fun i j k _ _ _ x y=>?_,fun i j hi hj hij c=>?_⟩,fun h2 s' R _ hR=>?_,fun i j s' C hi hj hij _ hC=>?_,fun p tk2 h2 e hP hU k2 hS=>?_⟩
 ·exact A0k (List.lt_trans (rT x) (rT y))
 ·have c':=A3i c;rw [gT i hi,gT j hj] at c' ⊢;have ne:txt vs[i]≠txt vs[j]:=by
   have pw:=A1i.mp ndv;have li:i<(vs.map txt).length:=by rw [bV];exact hi
   have lj:j<(vs.map txt).length:=by rw [bV];exact hj
   rcases A4P hij with g | g
   ·have:=pw i j li lj g;simpa using this
   ·have:=pw j i lj li g;intro z;exact this (by simpa using z.symm)
  refine A0k ?_;rcases List.le_iff_lt_or_eq.mp (List.not_lt.mp c') with z | z
  ·exact z
  ·exact absurd (pY z.symm) ne
 ·refine kas_kind (T:=Value.type "str") h2 (fun v hv=>?_) 0x5 (by rfl) hR;obtain ⟨t,ht⟩:=str v hv;rw [ht];exact fun A Q E s _ q=>wpAny_pure q
 ·obtain ⟨t1,e1⟩:=at_ i hi;obtain ⟨t2,e2⟩:=at_ j hj;have g:=hC s'.toks;dsimp only at g;rw [e1,e2] at g ⊢;exact kas_lt_str g
 ·have lp:p.toList.length=vs.length:=by rw [A0L];exact hP.size
  have pmv:(0x25).Perm vs:=by
   have q1:p.toList.Perm (List.range vs.length):=by have:=A2L.mp hP;simpa using this
   have q2:=q1.map fun i=>vs.getD i Value.none;have ro:=rF vs;have e0:((List.range vs.length).toArray.toList.map fun i=>vs.getD i Value.none)=(List.range vs.length).map fun i=>vs.getD i Value.none:=by simp
   rw [e0] at ro;rw [ro] at q2;exact q2
  have hv:Vals (((0x25).map txt).map V.str) 0x25:=by
   generalize hw:0x25=ws at pmv;have sw:∀ v∈ws,∃ t,v=.str (txt v) t:=fun v hv=>str v (pmv.mem_iff.mp hv);clear hw pmv hS
   induction ws with
   | nil=>exact .nil
   | cons x ws ih =>
    obtain ⟨t,ht⟩:=sw x A0g;exact .cons ⟨t,ht⟩ (ih fun v hv=>sw v (iT _ hv))
  have gl:∀ o,s.heap.get? h1.objs.size≠some o:=fun o g=>absurd (A0t (k1 _ _ g)) (A1r _);have hn:H h1.objs.size=none:=by
   cases g:H h1.objs.size with
   | none=>rfl
   | some u =>
    obtain ⟨ob,g2⟩:=(I.hok _ _ g).obj;exact absurd g2 (gl ob)
  refine ⟨.ref h1.objs.size,upd H h1.objs.size (.lst (((0x25).map txt).map V.str)),(I.drew d).a2b (t':=tk2) _ (fun b u g=>k2 b u (k1 b u g)) (fun b u g=>by rw [ak (au g hn)];exact g) (fun b u g n=>?_),rfl,q _ _ hn ?_ ?_⟩
  ·by_cases hb:b=h1.objs.size
   ·subst hb;rw [ao] at g;cases g;exact ⟨gl,by rw [bV,bV,bV,lp,A1e];lia,_,e,hv,hS⟩
   ·rw [ak hb,n] at g;cases g
  ·exact (pmv.map txt).trans pz
  ·rw [A1i];intro i j hi hj hij;rw [bV,bV] at hi hj;simp only [A3v];have m1:p.toList[i]=pat p i:=by
    have hs:i<p.size:=by rw [<- A0L];exact hi
    unfold pat;rw [Array.getD,A5k hs];simp
   have m2:p.toList[j]=pat p j:=by
    have hs:j<p.size:=by rw [<- A0L];exact hj
    unfold pat;rw [Array.getD,A5k hs];simp
   rw [m1,m2];exact rT (hU i j hij 0x2)
def mq (zs:List Str) (z:Str):List Str:=if z∈zs then zs else zs++[z]
theorem GD (h:zs.Nodup):(mq zs z).Nodup:=by
 unfold mq
 split
 ·exact h
 ·rename_i q
  rw [A2b];refine ⟨h,by simp,fun a ha b hb=>?_⟩;rw [A0c.mp hb];exact fun e=>q (by rw [<- e];exact ha)
theorem RT:(mq zs z).length<=zs.length+1:=by
 unfold mq
 split
 ·lia
 ·simp
def lB (l:List Str):List Str:=l.foldl mq []
theorem xT (l:List Str) (z:Str):lB (l++[z])=mq (lB l) z:=by unfold lB;rw [List.foldl_append];rfl
theorem qx (l:List Str):(lB l).length<=l.length:=by
 have g:∀ (l:List Str) (a:List Str),(l.foldl mq a).length<=a.length+l.length:=by
  intro l
  induction l with
  | nil=>intro a;exact A0f _
  | cons x r ih =>
   intro a;rw [A1o,oX];have h1:=ih (mq a x);have h2:=RT (zs:=a) (z:=x);lia
 have:=g l [];unfold lB
 simpa using this
def lC (P:Program) (w:World) (h:Heap) (a:Addr) (zs:List Str):Prop:=∃ es ep t,cW w h a es ep t/\ElemsOf (strKind P w) es.toList/\(es.toList.map fun e=>txt e.2).Perm zs/\zs.Nodup
theorem lC.at (x:lC P w h a zs) (k:∀ o,h.get? a=some o->h'.get? a=some o):lC P w h' a zs:=by
 obtain ⟨es,ep,t,r,q⟩:=x;exact ⟨es,ep,t,r.at k,q⟩
theorem lC.typeIs (x:lC P w s.heap a zs):s.TypeIs 0x3C "set":=let ⟨_,_,_,r,_⟩:=x;r.typeIs
section
theorem RV {l:List (Int×Value)} (h:ElemsOf 0x20 l) {e:Int×Value} (he:e∈l):(0x20).is z e.2=true↔txt e.2=z:=by
 obtain ⟨⟨k,hk,_⟩,_⟩:=h e he;obtain ⟨t,ht⟩:=A2X hk;rw [ht]
 constructor
 ·intro q;have q':Value.isStrOf z (Value.str k t)=true:=q;obtain ⟨t',ht'⟩:=A2X q';injection ht' with h1 h2
 ·intro q;have e:k=z:=q;subst e;exact A2V prog w k t
theorem a2c {Q:Bool->Shared->Prop} (hs:lC prog w s.heap a zs) (room:zs.length+1<scanBound)
  (h:∀ h' b,Heap.SameBut a s.heap h'->lC prog w h' a (mq zs z)->Q b { s with heap:=h' }):wpAny 0xC A (setAddHashed a (.str z tk) ((0x20).hash z)) Q E s:=by
 obtain ⟨es,ep,t,r,el,pm,nd⟩:=hs;have hz:=Dm pm;refine Wz r el 0x2 fun h' es' ep' t' b sb r' el' q=>h h' b sb ⟨es',ep',t',r',el',?_,GD nd⟩;rcases q with ⟨⟨e,he,q⟩,rfl⟩ | ⟨no,pm'⟩
 ·have hm:z∈zs:=pm.mem_iff.mp (A0j.mpr ⟨e,he,(RV el he).mp q⟩);unfold mq;rw [A0i hm];exact pm
 ·have hm:z∉zs:=fun c=>by
   obtain ⟨e,he,q⟩:=A0j.mp (pm.mem_iff.mpr c);have:=(RV el he).mpr q;rw [no e he] at this;cases this
  unfold mq;rw [A0e hm];refine (pm'.map fun e=>txt e.2).trans ?_;rw [jw];exact pm.append_right _
theorem RZ {Q:Bool->Shared->Prop} (hs:lC prog w s.heap a zs) (room:zs.length+1<scanBound)
  (h:∀ h' b,Heap.SameBut a s.heap h'->lC prog w h' a (mq zs z)->Q b { s with heap:=h',toks:=s.toks+1 }):wpAny 0xC A (setAdd a (.str z tk)) Q E s:=by
 unfold setAdd;refine A1T (A0a ((0x20).pyHash (k:=z) (A2V prog w z tk) ?_));exact a2c (s:={ s with toks:=s.toks+1 }) hs room h
theorem Nb (hs:lC prog w s.heap a zs) (room:zs.length+1<scanBound)
  (h:∀ h',Heap.SameBut a s.heap h'->lC prog w h' a (mq zs z)->Q .none { s with heap:=h',toks:=s.toks+1 }):wpAny 0xC A (call (.builtin "set.add") [.ref a,.str z tk]) Q E s:=by
 refine A0Z PySem.F.slot_set_add hs.typeIs PySem.F.entry_set_add ?_ (PySem.F.args_set_add_2 _ _);unfold Builtin.«set.add» Builtin.Frozenset.oneOther;simp only [List.isEmpty_nil,bind_assoc];unfold Builtin.Frozenset.addrOf;refine A0a 0x13
 try dsimp only
 refine A0a 0x13
 try dsimp only
 refine A0a (RZ hs room fun h' b sb hT=>?_);exact wpAny_pure ⟨_,rfl,h h' sb hT⟩
def dZ (w:World):Obj:={ cls:=.type "set",dict:=none,data:=.set #[] 0 (.fresh 0 0 (!w.params.followText "set-order")) }
theorem Ka (e:h.get? a=some (dZ w)):lC prog w h a []:=by
 refine ⟨#[],0,_,⟨⟨_,e,⟨rfl,rfl,rfl⟩,rfl⟩,by rfl,by decide,fun b=>?_,fun z=>absurd z 0xA⟩,fun e he=>by simp at he,A4R _,A3Y⟩
 show (!w.params.followText "set-order")=true
 rw [b];rfl
theorem S5 (h:Q 0x14 { s with heap:=s.heap.push (dZ w) }):wpAny 0xC A (newSet (.type "set")) Q E s:=by
 unfold newSet setsByText;refine A0a (A0a (A2j 0x13));dsimp only [newObj];exact A0a (wpAny_alloc (wpAny_pure h))
theorem GJ (zs:List Str) (i:Nat):(lB (zs.take i)).length<=zs.length:=A0O (qx _) (by rw [A0G];lia)
variable {R:Result->Shared->Prop}{I:Addr}{wr:List Addr}{G:Array GenState->Array GenState->Prop}{P:Nat->Value->Prop}{St:Nat->Shared->Prop}
theorem GK (W:WalksS prog w A.in1 I fp wr G n P St) (S:Addr) (hSf:S∉fp) (zs:List Str) (hn:zs.length=n) (hval:∀ i v,P i v->∃ z t,zs[i]?=some z/\v=.str z t) (hb:n+1<scanBound) :
  ∀ (k i:Nat) (s:Shared),n - i=k->i<=n->St i s->lC prog w s.heap S (lB (zs.take i))->(∀ s',Moved (S::wr) G s s'->lC prog w s'.heap S (lB zs)->R (.ok (.ret .none)) s') ->
   codeAny 0xC A (.builtin "set.update.loop" ⟨[.ref S,.ref I],[]⟩) R s:=by
 have hSw:S∉wr:=fun h=>hSf (W.sub _ h);have sub:∀ b∈wr,b∈S::wr:=fun b hb=>iT _ hb;intro k
 induction k with
 | zero =>
  intro i s hk hi st hS hR;have hin:i=n:=by lia
  subst hin;refine A3l A3z ?_;rw [A2R A2u _]
  show wpAny _ A.in1 (pyNext (.ref I) >>= _) _ _ s
  refine A0a (W.done s _ _ st fun s' hm=>?_);rw [<- hn,A1d] at hS;exact wpAny_pure (hR s' (hm.mono sub) (hS.at fun o e=>hm.heap S _ hSw e))
 | succ k ih =>
  intro i s hk hi st hS hR;have hlt:i<n:=by lia
  refine A3l A3z ?_;rw [A2R A2u _]
  show wpAny _ A.in1 (pyNext (.ref I) >>= _) _ _ s
  refine A0a (W.item i s _ _ hlt st fun v s' hP st' hm=>?_);obtain ⟨z,t,hz,rfl⟩:=hval i v hP;have hS':=hS.at fun o e=>hm.heap S _ hSw e
  show wpAny _ A.in1 (holding [Value.str z t] (setAdd S (.str z t)) >>= _) _ _ s'
  have tb:=GJ zs i;refine A0a (A1T (RZ hS' 0x2 fun h' b sb hT=>?_));rw [<- xT] at hT;have e1:zs.take i++[z]=zs.take (i+1):=by rw [A1f,hz];rfl
  rw [e1] at hT;refine wpAny_pure ⟨A4g A2u _,ih (i+1) _ 0x2 hlt (W.frame _ s' _ _ st' (A2d _) fun b hb o e=>?_) hT fun s2 hm2 hS2=>?_⟩
  ·rw [sb.2 b (fun h:b=S=>hSf (by rw [<- h];exact hb))];exact e
  ·refine hR s2 (Moved.trans W.gtrans ((hm.mono sub).then_heap (A2d _) fun b o hb e=>?_) hm2) hS2;rw [sb.2 b (fun h:b=S=>hb (by rw [h];exact A0g))];exact e
theorem WL (a:Value) {Q₁:Value->Shared->Prop} (h:Q₁ 0x14 { s with heap:=s.heap.push (dZ w) }) :
  codeAny 0xC A (.call (.builtin "set.__new__") ⟨[.type "set",a],[]⟩) (wants Q₁ E) s:=by
 refine A5o ?_
 show wpAny _ A.in1 (do checkBuiltinCall "set.__new__" ⟨[.type "set",a],[]⟩;again (.builtin "set.__new__" ⟨[.type "set",a],[]⟩)) _ _ s
 refine A0a (wpAny_of_eq (PySem.F.newCall_set_1 a) (wpAny_pure ⟨A4g PySem.F.plain_set_new _,A3l PySem.F.entry_set_new ?_⟩));rw [A2R PySem.F.plain_set_new _];unfold Builtin.«set.__new__» Builtin.Frozenset.newClass;have hsub:=sub_set_self;obtain ⟨hp,g,d,tk,os⟩:=s;dsimp only
 wp_walk
 refine A2j 0x13;dsimp only;simp only [newObj];exact A0a (wpAny_alloc (wpAny_pure (wpAny_pure h)))
set_option maxRecDepth 100000 in
theorem Nf {l:Addr} (hh:A.handled=none) (hl:s.heap.IsList l its.toArray) (hi:StrsAre its zs) (hb:zs.length+1<scanBound)
  (h:∀ (h':Heap) (tk:Nat),lC prog w h' s.heap.objs.size (lB zs)->(∀ b o,s.heap.get? b=some o->h'.get? b=some o)->Q 0x14 { s with heap:=h',toks:=tk }) :
  wpAny 0xC A (call (.type "set") [.ref l]) Q E s:=by
 obtain ⟨c,tl,hmro⟩:=A1W.mro;have m1:=A1W.made;have m2:=A1W.sub;refine wpAny_call (A5o ?_)
 show wpAny 0xC _ (callAny (.type "set") ⟨[.ref l],[]⟩) _ _ _
 refine wpAny_pure ⟨Code.quiet_builtin _ 0x8,A3l PySem.F.entry_type_call ?_⟩;rw [Around.under_plain (weight_type_call_type "set" [.ref l] []) rfl];have m3:=A1W.notType;have m4:=A1W.canCreate;have m5:=PySem.F.typeCall_set_1 (.ref l)
 repeat (any_goals (first | assumption | wp_step))
 refine A3t (WL (.ref l) (E:=E) (Q₁:=fun obj s₁=>obj=.ref s.heap.objs.size/\s₁={ s with heap:=s.heap.push (dZ w) }) ⟨rfl,rfl⟩) fun r s₁ hr=>?_;rcases r with e | fl
 ·exact hr
 rcases fl with _ | _ | _ | obj
 rotate_right
 ·obtain ⟨rfl,rfl⟩:=hr;have hS:(s.heap.push (dZ w)).get? s.heap.objs.size=some (dZ w):=A0n _ rfl;have hT:Shared.TypeIs { s with heap:=s.heap.push (dZ w) } 0x14 "set":=⟨_,hS,rfl⟩;have i1:=A1W.init.lookup;have i2:=A1W.init.bind 0x14
  repeat (any_goals (first | assumption | wp_step))
  refine A3t (codeAny_call_builtin (R:=wants (fun r s₂=>r=.none/\∃ h' tk,s₂={ s with heap:=h',toks:=tk }/\lC prog w h' s.heap.objs.size (lB zs)/\(∀ b o,s.heap.get? b=some o->h'.get? b=some o)) E) A1W.init.plain PySem.F.entry_set_init (check_set_init_1 hT ?_)) fun r₂ s₂ hr₂=>?_
  ·obtain ⟨ol,hol,hcl,nl,hdl⟩:=hl;obtain ⟨ocls,odict,odata,oslots⟩:=ol;simp only at hcl hdl;subst hcl;subst hdl;have hol':(s.heap.push (dZ w)).get? l=some { cls:=.type "list",dict:=odict,data:=.seq its.toArray nl,slots:=oslots }:=A0b _ hol;have u1:=PySem.F.sub_list_set;have u2:=PySem.F.sub_list_frozenset;have u3:(Value.type "list"==Value.type "dict")=false:=by decide
   have hl1:(s.heap.push (dZ w)).IsList l its.toArray:=⟨_,hol',rfl,nl,rfl⟩;unfold Builtin.«set.__init__» noKeywords Builtin.Frozenset.updateFrom;generalize hPI:pyIter=PI
   wp_walk
   subst hPI;refine A3o hl1 ?_;refine A0a (wpAny_runValue ?_);have lS:l<s.heap.objs.size:=A0t hol;have h3:A.in1.in1.in1.handled=none:=by simp [hh]
   have ne_:l≠(s.heap.push (dZ w)).objs.size:=by
    rw [A1S];exact A0I (A2q lS)
   have nS:s.heap.objs.size∉[(s.heap.push (dZ w)).objs.size,l]:=by
    rw [A1S];simp only [A0d,A0c,A0u,A1m,A5c];exact ⟨A0I (A3a _),A3e lS⟩
   have hz:its.length=zs.length:=hi.length;have hval:∀ (i:Nat) (v:Value),its.toArray[i]?=some v->∃ z t,zs[i]?=some z/\v=.str z t:=fun i v hv=>by
    have hv':its[i]?=some v:=by simpa using hv
    clear hv hol hol' hl1 hz hb h
    induction hi generalizing i with
    | nil=>simp at hv'
    | cons y t r ih =>
     cases i with
     | zero=>simp only [List.getElem?_cons_zero,Option.some.injEq] at hv';exact ⟨y,t,rfl,hv'.symm⟩
     | succ j=>exact ih j (by simpa using hv')
   refine GK ((Walks.list h3 _ l ne_ its.toArray).toS) s.heap.objs.size nS zs (by simp [hz]) hval (by simpa [hz] using hb) _ 0 _ rfl (A0X _) ⟨⟨_,A0n _ rfl,rfl,rfl⟩,(hl1.push _)⟩ ?hS0 ?hR
   case hS0=>exact Ka (A0b _ hS)
   case hR =>
    intro s' hm hS';obtain ⟨h',g',d',tk',os'⟩:=s';have eg:g'=s.gens:=hm.gens;have ed:d'=s.drawn:=hm.drawn;have eo:os'=s.os:=hm.os;subst eg;subst ed;subst eo;refine wpAny_pure ?_
    show wpAny _ _ (ret Value.none) _ _ _
    refine wpAny_pure ⟨rfl,h',tk',rfl,hS',fun b o e=>?_⟩;have hlt:=A0t e;have b1:b≠s.heap.objs.size:=A0I hlt;have b2:b≠(s.heap.push (dZ w)).objs.size:=by
     rw [A1S];exact A0I (A2q hlt)
    exact hm.heap b o (by simp only [A0d,A0c,A0u,A1m,A5c];exact ⟨b1,b2⟩) (A0b _ (A0b _ e))
  ·rcases r₂ with e | fl₂
   ·exact hr₂
   rcases fl₂ with _ | _ | _ | r
   rotate_right
   ·obtain ⟨rfl,h',tk,rfl,hS',hk'⟩:=hr₂
    repeat (any_goals (first | assumption | wp_step))
    exact h _ _ hS' hk'
   all_goals exact hr₂.elim
 all_goals exact hr.elim
inductive S6 (X:Cx) (xs:List V) (H:Hp) (Q:VK):Prop
 | mk (p:Addr) (ss:List Str) (_:xs=[.ref p]) (_:bO X.K H p (ss.map V.str)) (_:ss.length<1000) (_:∀ l,H l=none->Q (.ref l) (upd H l (jo X.prog X.w l (lB ss)))):S6 X xs H Q
theorem GP (hin:X.A.handled=none):iy X (.type "set") (S6 X):=by
 intro pins s σ H xs us Q I r h;obtain ⟨p,ss,rfl,hq,hl,q⟩:=h;obtain ⟨u,rfl,ru⟩:=vals1 r;cases ru;obtain ⟨its,rv,pl,hz⟩:=I.list hq;refine Nf hin pl.isList (yV rv) (by unfold scanBound;lia) fun h' tk hT hk=>?_;obtain ⟨es,ep,t,r0,el,pm,nd⟩:=hT;exact ⟨.ref s.heap.objs.size,_,I.laid (o:=jo X.prog X.w s.heap.objs.size (lB ss)) (t':=tk) hk 0x2D (K9 r0 el pm nd),rfl,q _ 0x3D⟩
end
end L2
namespace PySem
theorem lD:entryFor table "dict_valueiterator.__iter__"=some Builtin.«dict_keyiterator.__iter__» :=
 A4N (id':="dict_keyiterator.__iter__") 0x7E rfl 0x8 0x7E
end PySem
namespace L2
open PySem PySem.Spec PyProof.Rows PySem.W
def Itv (a:Addr) (o:Obj) (kvs:List 0x2C):It:=⟨fun i H=>H a=some 0x40/\i<kvs.length,fun i H v H'=>H'=H/\∃ kv,kvs[i]?=some kv/\v=kv.2,fun i H=>H a=some 0x40/\kvs.length<=i⟩
section
variable {o:Obj}
theorem Dn (it:Addr) {es:Array DictEntry} (hd:o.data=.dict es ep) :
  Turn P w K tg (Itv a o kvs) [it] it (fun i h=>h.IsValIter it a i kvs.length ep) where
 mem:=by simp
 obj:=fun i h st b hb=>by
  have e:b=it:=by simpa using hb
  subst e;obtain ⟨ob,e,c,d⟩:=st;exact ⟨ob,e,fun v z=>by rw [d] at z;cases z⟩
 keep:=fun i h h' st k=>by
  obtain ⟨ob,e,r⟩:=st;exact ⟨ob,k it 0xA ob e,r⟩
 item:=by
  intro X hP hw hK hc i pins s σ H E I hf st hg;subst hP hw hK;obtain ⟨f0,f1,f2,f3,f4,f5⟩:=hf it 0xA;obtain ⟨hg1,hg2⟩:=hg;obtain ⟨hs,vs,rel,dat⟩:=qZ I hg1 hd;have hl:kvs.length=vs.length:=rel.length;obtain ⟨u,hu,ru⟩:=rel.at (ju hg2);rw [hl] at st;refine wpAny_pyNext_values_item st dat hu fun h' hit' hsb=>?_;have I1:Inv X pins σ H { s with heap:=h' }:=I.turned (t':=s.toks) (fun b ob hb e=>hsb.extBut b ob hb e) f0 f1 f3 f4 f5;obtain ⟨ob,e,cc,d⟩:=id hit';refine ⟨_,rfl,J8 (s:={ s with heap:=h' }) e cc d 0x5 ⟨(kvs[i]).2,H,I1,ru,⟨rfl,_,ju hg2,rfl⟩,?_,fun b hb=>(hf b hb).1⟩⟩;rw [hl];exact hit'
 done:=by
  intro X hP hw hK hc i pins s σ H E I hf st hg;subst hP hw hK;obtain ⟨f0,f1,f2,f3,f4,f5⟩:=hf it 0xA;obtain ⟨hg1,hg2⟩:=hg;obtain ⟨hs,vs,rel,dat⟩:=qZ I hg1 hd;have hl:kvs.length=vs.length:=rel.length;rw [hl] at st hg2;exact wpAny_pyNext_values_end (I.ok.hd hc) st dat (A2i hg2) fun h' eb=>⟨rfl,I.turned (t':=s.toks) (fun b ob hb e=>eb b ob hb e) f0 f1 f3 f4 f5⟩
 self:=fun A i s Q E st h=>by
  have hT:s.TypeIs 0x49 "dict_valueiterator":=st.typeIs;refine A3X hT A3G (A0Z A3G hT PySem.lD ?_ (PySem.F.args_dict_valueiterator_iter_1 _))
  show wpAny _ _ (ret 0x49) _ _ s
  exact wpAny_pure ⟨_,rfl, "dict_valueiterator",_,hT,PySem.F.slot_dict_valueiterator_next.lookup,h⟩
inductive Kc (R:It->Hp->Prop) (x:V) (H1:Hp):Prop
 | mk (a:Addr) (o:Obj) (kvs:List 0x18) (_:x=.ref a) (_:H1 a=some 0x40) (_:R (Itv a o kvs) H1):Kc R x H1
def a2d (tl:TE):TI:=fun σ H R=>tl σ H fun x H1=>Kc R x H1
theorem WM {l:Expr} (hl:PE X l tl) (hbase:attributeBase l "values" X.env (eval l X.env)=eval l X.env:=by rfl) (hline:0x64=true:=by rfl) :
  PI X tg (.Call (.Attribute l "values" apos) [] [] cpos) (a2d tl):=by
 intro pins s σ H R I h;refine A3b hbase hline (cH (hl pins s σ H _ I h) fun v s1 zq=>?_);obtain ⟨x,H1,I1,r1,a,o,kvs,ex,ea,q⟩:=zq;subst ex;cases r1;obtain ⟨ho,z,hs,vs,rel,o',es,ep,ho',hx,hdd,r⟩:=id (I1.hok _ _ ea);rw [ho] at ho';cases ho';have dat:s1.heap.DictAt 0x36 a vs ep:=⟨o,es,ho,hx,hdd,r⟩;have hT:s1.TypeIs 0x3C "dict":=dat.dictOf.typeIs;refine ⟨"dict", "dict.values",A1L,A2W,PySem.F.type_dict_values,hT,(fun b e=>by injection e with e;subst e;exact ⟨o,ho,hx.2.1⟩),?_⟩;refine A1k rfl (A3x ?_);refine A2w A2W hT PySem.F.entry_dict_values (A4U _) (meets_dict_values 0x36 a hs) ⟨⟨vs,dat.dictOf⟩,?_⟩;have hlen:kvs.length=vs.length:=rel.length;have I2:Inv X pins σ H1 { s1 with heap:=s1.heap.push { cls:=.type "dict_values",data:=.fields #[.ref a] } }:=I1.kept (t':=s1.toks) fun b o e=>A0b _ e;have a0e:(s1.heap.push { cls:=.type "dict_values",data:=.fields #[.ref a] }).DictAt 0x36 a vs ep:=dat.at' fun o e=>A0b _ e
 show wpAny _ _ (pyIter (.ref s1.heap.objs.size)) _ _ _
 refine wpAny_pyIter_values (s:={ s1 with heap:=s1.heap.push { cls:=.type "dict_values",data:=.fields #[.ref a] } }) ⟨_,A0n _ rfl,rfl,rfl⟩ a0e ?_;refine ⟨_,[_],_,_,H1,rfl,I2.kept (t':=s1.toks) fun b o e=>A0b _ e,Dn _ hdd,⟨_,A0n _ rfl,rfl,by rw [hlen];rfl⟩,fun b hb=>?_,q⟩;have e:=A0c.mp hb;subst e;exact I2.ur 0x2D (I2.hok.fresh 0x2D)
end
theorem zG (elt target iter:Expr) (ifs:List Expr) (scope:Scope) (pos:Pos) (it acc:Value) (env:Env) :
  compTurn (.SetComp elt [⟨target,iter,ifs,0⟩] scope pos) 0 it acc env=(do
   standAt iter.pos
   match <- pyNext it with
   | none=>pure (.done .next)
   | some v =>
    letOwnedTupleGo target it v
    assign target env v
    let mut fine:=true
    for d in ifs do
     if fine then fine <- isTrue d env (eval d env)
    if fine then
     (do let u <- eval elt env;standAt elt.pos;let _ <- call (.builtin "set.add") [acc,u])
    again (.compLoop (.SetComp elt [⟨target,iter,ifs,0⟩] scope pos) 0 it acc env)):=by rfl
theorem wz {R:Result->Shared->Prop}{elt target iter ifs rest scope pos it acc env}
  (h0:codeAny 0xC A (.compLoop 0x4A 0 it acc env) R s)
  (h:wpAny 0xC A (pyIter it) (fun it' s'=>codeAny 0xC A (.compLoop 0x4A 0 it' acc env) R s') (notedBy 0xC A env fun x s'=>R (.error x) s') s) :
  codeAny 0xC A (.compStart 0x4A 0 it acc env) R s:=by
 refine A5o ?_
 show wpAny _ _ ((compStart 0x4A 0 it acc env).onRaise (fun x=>do noteFrame x env;standAt theWindowsPlace)) _ _ s
 refine wpAny_notedAt ?_;unfold compStart
 show wpAny _ _ (ask >>= _) _ _ s
 refine A0a (A2j (wpAny_ite ?_))
 split
 ·first
   | exact A0a (wpAny_pure (wpAny_pure (And.intro rfl h0)))
   | exact wpAny_pure (And.intro rfl h0)
 ·have go:∀ {Q:Fin->Shared->Prop}{E:Value->Shared->Prop},(∀ it' s',codeAny 0xC A (.compLoop 0x4A 0 it' acc env) R s'->Q (.again (.compLoop 0x4A 0 it' acc env)) s')->True:=fun _=>trivial;refine A0a (A3q ?_)
  show wpAny _ _ (standAt iter.pos >>= _) _ _ s
  exact A0a (A2l (A0a (A1b h (fun it' s' h'=>wpAny_pure (And.intro rfl h')) fun _ _ x=>x)))
inductive zH (P:Program) (w:World) (J:It) (D:Addr) (σ:St) (k:Nat) (ix:List Nat) (g:TG) (tt:TT) (te:TE) (Q:VK) (H1:Hp):Prop
 | mk (W:Nat->Nat->List Str->Hp->Prop) (_:(∃ m,W 0 m [] (upd H1 D (jo P w D [])))) (_:∀ i m zs H2,W i m zs H2->H2 D=some (jo P w D zs)/\((J.stop i H2/\Q 0x60 H2)\/(J.go i H2/\∃ N:List Str->Hp->Prop,(∀ zs H',N zs H'->∃ m',m'<m/\W (i+1) m' zs H')/\∀ x H3,J.J7 i H2 x H3->g x 0x84 H3 fun σ2 H4=>Kp 0x84 σ2/\tt σ2 H4 fun b H5=>if b=true then te σ2 H5 fun y H6=>∃ z,y=.str z/\H6 D=some (jo P w D zs)/\zs.length<1000/\N (mq zs z) (upd H6 D (jo P w D (mq zs z))) else N zs H5))):zH P w J D σ k ix g tt te Q H1
def a0t (P:Program) (w:World) (k:Nat) (ix:List Nat) (wi:TI) (g:TG) (tt:TT) (te:TE):TE:=fun σ H Q=>wi σ H fun J H1=>∀ D,H1 D=none->zH P w J D σ k ix g tt te Q H1
section
variable {elt:Expr}{ifs:List Expr}{ts fr:List Str}
theorem Ng {ob:HO}{tk:Nat} (S:fu X.N X.env.scope scope ts fr ix) (I:Inv X pins σ H s) (hf:∀ b∈fp,j8 X pins H b) (hfp:∀ b∈fp,b<s.heap.objs.size)
  (hD:s.heap.objs.size<=D) (hC:s.heap.objs.size<=C) (hDC:D≠C) (hk:∀ b o,s.heap.get? b=some o->h1.get? b=some o) (hob:cJ X.prog X.w (upd H D ob) h1 D ob) {m0:Str->Option Value} (hn:h1.Ns C m0) :
  Inv 0x1E [] 0x6D (upd H D ob) { s with heap:=h1,toks:=tk }:=by
 have hcl:∀ x∈scope.names,x.2=.free->(X.env.cells.lookup x.1).isSome=true:=fun x hx hfx=>by
  obtain ⟨c,hc⟩:=I.ok.has x.1 (S.frs x hx hfx);rw [hc];rfl
 have Qf:∀ b,s.heap.objs.size<=b->∀ x c,X.env.cells.lookup x=some c->c≠b:=fun b hb x c e z=>by
  obtain ⟨v,q⟩:=I.cell x c e;exact absurd (A0q q.lt (by rw [z];exact hb)) (A1r _)
 have Qg:∀ x,scope.names.lookup x=some .free->∃ c,(0x6A).lookup x=some c/\X.env.cells.lookup x=some c:=fun x hx=>by
  obtain ⟨c,hc⟩:=qY (env:=X.env) scope.names [] (A1j hx);obtain ⟨c',hc'⟩:=kZ hc;exact ⟨c',hc',bZ hcl hc'⟩
 have ZJ:∀ b∈fp,b∉frs X.stack:=fun b hb z=>by
  obtain ⟨_,f1,f2,_⟩:=hf b hb;rcases A0d.mp (I.yD b z) with e | e
  ·exact f1 e
  ·exact f2 e
 have hCn:H C=none:=I.hok.fresh hC;have hDn:H D=none:=I.hok.fresh hD;refine ⟨⟨I.ok.mod,?_,I.ok.glob,I.ok.blt,hC,fun x y c h1 h2=>?_,fun x hx=>?_,fun x c hfx=>?_,I.ok.hd,I.ok.frames,.inl rfl,fun b hb=>⟨?_,fun x c e=>?_⟩,I.bs,A0O I.ok.Ow I.sz,fun b o e hb=>?_,ZJ,I.stack,I.yE⟩,
  rfl,I.bare,Un.laid hk hD hDn,⟨m0,hn,fun i x v e1 e2 e3=>?_⟩,fun x c e=>?_,?_,fun x c e=>?_,fun p hp=>?_,I.hok.laid hk hD hob,?_⟩
 ·show (0x8E).kind=_
  exact S.kind
 ·exact I.ok.inj x y c (bZ hcl h1) (bZ hcl h2)
 ·have hx':(0x8E).names.lookup x=some .cell\/(0x8E).names.lookup x=some .free:=hx;have hfree:scope.names.lookup x=some .free:=by
   rcases hx' with q | q
   ·obtain ⟨k,e,z⟩:=iC q;rcases z with z | ⟨z,_⟩
    ·subst z;exact absurd rfl (S.yO _ (A1j e))
    ·rw [e,z]
   ·obtain ⟨k,e,z⟩:=iC q;rcases z with z | ⟨_,z⟩
    ·rw [e,<- z]
    ·cases z
  obtain ⟨c,hc,_⟩:=Qg x hfree;exact ⟨c,hc⟩
 ·exact absurd (show false=true from hfx) 0x5
 ·exact A0I (A0q (hfp b hb) hC)
 ·exact (hf b hb).2.2.2.2.1 x c (bZ hcl e)
 ·have f:=hf b hb;rcases f.2.2.2.1 with z | z
  ·exact I.ok.Fi b o e z
  ·exact absurd (A0q (A0t (I.ok.bs b o e).1) z) (A1r _)
 ·obtain ⟨a,i',hj,hi,hσ⟩:=Ce e2;subst hj;have e1':(ts++fr)[ts.length+a]?=some x:=e1;rw [A0W 0x2,Nat.add_sub_cancel_left] at e1';have hN:X.N[i']?=some x:=by
   have q:=A1G (fun l=>l[a]?) S.cap;simp only [jW,e1',hi] at q;exact (A0T q).symm
  have hfree:=S.capf x (vY e1');have hk':=S.frs (x,.free) (A1j hfree) rfl;obtain ⟨m,hnm,hl⟩:=I.loc;obtain ⟨u,r,lk⟩:=hl i' x v hN hσ (.inr hk');refine ⟨u,r,?_⟩;obtain ⟨c,hc,hc'⟩:=Qg x hfree;rcases lk with ⟨z,_⟩ | ⟨_,c2,e4,z⟩
  ·have z':X.env.scope.names.lookup x=some .local:=z;rcases hk' with y | y
   ·have y':X.env.scope.names.lookup x=some .cell:=y;rw [z'] at y';cases y'
   ·have y':X.env.scope.names.lookup x=some .free:=y;rw [z'] at y';cases y'
  ·have hcc:c2=c:=A0T (e4.symm.trans hc');rw [hcc] at z;obtain ⟨o,ho2,hd2⟩:=z;exact .inr ⟨pX hfree,c,hc,o,hk _ _ ho2,hd2⟩
 ·obtain ⟨v,o,ho2,hd2⟩:=I.cell x c (bZ hcl e);exact ⟨v,o,hk _ _ ho2,hd2⟩
 ·show upd H D ob C=none
  rw [ak (A0m hDC)];exact hCn
 ·show upd H D ob c=none
  rw [ak (Qf D hD x c (bZ hcl e))];exact I.jX x c (bZ hcl e)
 ·exact absurd (show p∈([]:List 0x16) from hp) 0xA
 ·have e:=A1G List.length S.cap;simp only [bV] at e;rw [sE]
  show _=(ts++fr).length
  rw [iw,e]
theorem WQ (x:cJ P w H h a (jo P w a zs)):lC P w h a zs:=x.1
theorem Dp (x:lC P w h a zs):cJ P w H h a (jo P w a zs):=by
 obtain ⟨es,ep,t,r,el,pm,nd⟩:=x;exact K9 r el pm nd
theorem lC.obj (x:lC P w h a zs):∃ o,h.get? a=some o:=by
 obtain ⟨es,ep,t,r,_⟩:=x;obtain ⟨o,ho,_⟩:=r.o;exact ⟨o,ho⟩
theorem S7 (hc:X.calm=true) (S:fu X.N X.env.scope scope ts fr ix) (hi:PI X tg iter wi)
  (hb:∀ s H fp C,PG 0x1E tg g/\PTs 0x1E ifs tt/\PE 0x1E elt te)
  (hs:∀ x,foldedSetIterable iter X.env x=pure x:=by intro _;rfl):PE X (.SetComp elt [⟨tg,iter,ifs,0⟩] scope pos) (a0t X.prog X.w ts.length ix wi g tt te):=by
 intro pins s σ H Q I h;have hcl:∀ x∈scope.names,x.2=.free->(X.env.cells.lookup x.1).isSome=true:=fun x hx hfx=>by
  obtain ⟨c,hc⟩:=I.ok.has x.1 (S.frs x hx hfx);rw [hc];rfl
 show wpAny 0x9 X.A (comprehension (.SetComp elt [⟨tg,iter,ifs,0⟩] scope pos) scope X.env (firstIterPos [⟨tg,iter,ifs,0⟩] pos) (newSet (.type "set")) false (eval iter X.env)) _ X.xe s
 refine wpAny_comprehension_free (use:=none) rfl hs (mU hcl) S.kind S.nms (cH (hi pins s σ H _ I h) fun v s1 h1=>cH h1 fun itv s2 h2=>?_);obtain ⟨it,fp,tn,J,H2,rfl,I2,T,st2,f2,hW⟩:=h2;refine S5 (wpAny_newFunctionEnv S.yO (by intro y hy;simp at hy) (fun h₁ hns₁ hsb₁=>?_) S.kind);dsimp only at hns₁ hsb₁ ⊢;generalize hH2:s2.heap.push (dZ X.w)=G2 at hns₁ hsb₁ ⊢;have ZK:G2.objs.size=s2.heap.objs.size+1:=by rw [<- hH2,A1S]
 have hDC:s2.heap.objs.size≠G2.objs.size:=by rw [ZK];exact A0I (A3a _)
 have hCle:s2.heap.objs.size<=G2.objs.size:=by rw [ZK];exact A2d _
 have old:∀ b o,s2.heap.get? b=some o->h₁.get? b=some o:=fun b o e=>hsb₁.extBut b o (by rw [ZK];exact A0I (A2q (A0t e))) (A0b _ (hH2 ▸ A0b _ e));have hacc:h₁.get? s2.heap.objs.size=some (dZ X.w):=hsb₁.extBut _ _ hDC (A0b _ (hH2 ▸ A0n _ rfl));have hfp:∀ b∈fp,b<s2.heap.objs.size:=fun b hb'=>by
  obtain ⟨o,e,_⟩:=T.obj _ _ st2 b hb';exact A0t e
 have IC:Inv (Bl X (ts++fr) scope s2 H2 fp G2.objs.size) [] 0x6D (upd H2 s2.heap.objs.size (jo X.prog X.w s2.heap.objs.size [])) { s2 with heap:=h₁,toks:=s2.toks+([]:List 0x73).length } :=
  Ng S I2 f2 hfp 0x2D hCle hDC old (Dp (Ka hacc)) hns₁
 have st1:tn 0 h₁:=T.keep _ _ _ st2 fun b hb' o e=>old b o e;obtain ⟨W,⟨m0,w0⟩,turn⟩:=hW s2.heap.objs.size I2.fresh;obtain ⟨bg,bt,be⟩:=hb s2 H2 fp G2.objs.size;generalize hX:Bl X (ts++fr) scope s2 H2 fp G2.objs.size=Y at IC bg bt be;have eP:Y.prog=X.prog:=by rw [<- hX];rfl
 have eW:Y.w=X.w:=by rw [<- hX];rfl
 have eK:Y.K=X.K:=by rw [<- hX];rfl
 have eC:Y.calm=true:=by rw [<- hX];exact hc
 have eA:Y.A=X.A:=by rw [<- hX];rfl
 have eE:Y.env=compEnvC scope 0x6A G2.objs.size X.env:=by rw [<- hX];rfl
 have eX:Y.xe=fun _ _=>False:=by rw [<- hX];rfl
 have stat:∀ {H':Hp},0x7F->∀ b∈fp,j8 Y [] H' b:=fun hn b hb'=>by
  rw [<- hX];have z:=IC.ok;rw [<- hX] at z;refine ⟨hn b hb',(z.exf b hb').1,z.Ls b hb',.inl hb',(z.exf b hb').2,fun p hp=>absurd (show p∈([]:List 0x16) from hp) 0xA⟩
 have fr0:∀ b∈fp,upd H2 s2.heap.objs.size (jo X.prog X.w s2.heap.objs.size []) b=none:=fun b hb'=>by rw [ak (A0I (hfp b hb'))];exact (f2 b hb').1
 have bot:∀ {α:Type}{t:Sem α}{R:α->Shared->Prop}{E:Value->Shared->Prop}{z:Shared},wpAny (model Y.prog Y.w) Y.A t R Y.xe z->wpAny 0x9 X.A t R E z:=fun {α t R E z} q=>by
  rw [eP,eW,eA,eX] at q;exact A1b q (fun _ _ y=>y) fun _ _ y=>y.elim
 have fin:∀ (H':Hp) (s':Shared),Inv X pins σ H' s'->j8 X pins H' G2.objs.size->(∃ m,s'.heap.Ns G2.objs.size m)->Q 0x39 H'->compPost 0x9 X.A X.xe none 0x37 0x39 G2.objs.size (.ok .next) s':=fun H' s' I' f' ⟨m,hm⟩ q'=>by
  refine ⟨m,hm,fun h' sb=>⟨.ref s2.heap.objs.size,H',?_,rfl,q'⟩⟩;exact I'.turned (t':=s'.toks) (fun b o hb' e=>(sb.2 b hb').trans e) f'.1 f'.2.1 f'.2.2.2.1 f'.2.2.2.2.1 f'.2.2.2.2.2
 have loop:codeAny 0x9 X.A (.compLoop (.SetComp elt [⟨tg,iter,ifs,0⟩] scope pos) 0 0x49 0x39 (compEnvC scope 0x6A G2.objs.size X.env))
   (compPost 0x9 X.A X.xe none 0x37 0x39 G2.objs.size) { s2 with heap:=h₁,toks:=s2.toks+([]:List 0x73).length }:=by
  rw [<- eE];refine codeAny_loop rfl (fun n s'=>∃ i ys H',Inv Y [] 0x6D H' s'/\tn i s'.heap/\0x7F/\W i n ys H') (fun n s3 hI=>?_) m0 ⟨0,[],_,IC,st1,fr0,w0⟩;obtain ⟨i,ys,H3,I3,st3,Yl,w3⟩:=hI
  show wpAny _ _ ((compTurn (.SetComp elt [⟨tg,iter,ifs,0⟩] scope pos) 0 0x49 0x39 Y.env).onRaise (fun x=>do noteFrame x Y.env;theTreesLotGoes x)) _ _ s3
  refine wpAny_noted ?_;rw [zG];obtain ⟨hD3,hcase⟩:=turn i n ys H3 w3;rcases hcase with ⟨stop,qn⟩ | ⟨go,N,hN,step⟩
  ·have q:=T.done Y eP eW eK eC i [] s3 _ H3 0x63 I3 (stat Yl) st3 stop;rw [eA] at q;refine A0a (A2l (A0a (A1b q (fun r s4 ⟨hr,I4⟩=>?_) fun _ _ y=>y.elim)));subst hr;refine wpAny_pure ?_;have b4:Un (frs X.stack) fp H2 H3 s2.heap s4.heap:=by have z:=I4.base;rw [<- hX] at z;exact z
   have ok4:oE X.prog X.w H3 s4.heap:=by have z:=I4.hok;rw [eP,eW] at z;exact z
   have os4:s4.os=s2.os:=by have z:=I4.os;rw [<- hX] at z;exact z
   have I5:Inv X pins σ H3 s4:=I2.call' os4 b4 ok4 I4.bare fun b hb'=>⟨(f2 b hb').2.2.2.1,(f2 b hb').2.1,(f2 b hb').2.2.2.2.1,(f2 b hb').2.2.2.2.2⟩;have fC:H3 G2.objs.size=none:=by have z:=I4.free;rw [eE] at z;exact z
   have nC:∃ m,s4.heap.Ns G2.objs.size m:=by obtain ⟨m,z,_⟩:=I4.loc;rw [eE] at z;exact ⟨m,z⟩
   exact fin H3 s4 I5 (I2.ur hCle fC) nC qn
  ·have q:=T.item Y eP eW eK eC i [] s3 _ H3 0x63 I3 (stat Yl) st3 go;rw [eA] at q;refine A0a (A2l (A0a (A1b q (fun r s4 ⟨u,hr,h4⟩=>?_) fun _ _ y=>y.elim)));subst hr;refine A0a (A1b h4 (fun _ s5 ⟨x,H5,I5,r5,y5,Pa,fr5⟩=>?_) fun _ _ y=>y.elim);have I5':=I5.pinned (stat fr5) (T.obj _ _ Pa);refine A0a (bot (cH (bg _ s5 _ H5 x u _ I5' r5 (step x H5 y5)) fun _ s6 zq=>?_));obtain ⟨σ6,H6,I6,kp6,q6⟩:=zq;refine A0a (bot (cH (bt _ s6 σ6 H6 _ I6 q6) fun ok s7 zq=>?_));obtain ⟨H7,I7,q7⟩:=zq;have again:∀ {H8:Hp}{s8:Shared}{zs:List Str}{m':Nat},Inv Y ([]++qW fp s5.heap) σ6 H8 s8->m'<n->W (i+1) m' zs H8->∃ m,m<n/\∃ i ys H',Inv Y [] 0x6D H' s8/\tn i s8.heap/\0x7F/\W i m ys H':=fun {H8 s8 zs m'} I8 hm w8=>by
    refine ⟨m',hm,i+1,zs,H8,(I8.lJ).weak ?_ kp6,T.keep _ _ _ Pa fun b hb' o e=>(I8.pin (b,o) (A0y _ (A0y _ (gj hb' e)))).1,fun b hb'=>?_,w8⟩
    ·rw [I8.len,I3.len]
    ·obtain ⟨o,e,d⟩:=T.obj _ _ Pa b hb';exact (I8.pin (b,o) (A0y _ (A0y _ (gj hb' e)))).2.1
   cases ok with
   | false =>
    rw [A0e 0x5] at q7;obtain ⟨m',hm,w8⟩:=hN _ _ q7;exact wpAny_pure ⟨rfl,again I7 hm w8⟩
   | true =>
    rw [A0i rfl] at q7;refine A0a (A0a (bot (cH (be _ s7 σ6 H7 _ I7 q7) fun u8 s8 zq=>?_)));obtain ⟨y8,H8,I8,r8,z8,ey,hD8,hz,n8⟩:=zq;subst ey;obtain ⟨tk8,rfl⟩:=r8;obtain ⟨m',hm,w8⟩:=hN _ _ n8;refine A0a (A2l (A0a ?_));have hS8:lC X.prog X.w s8.heap s2.heap.objs.size ys:=by have z:=I8.hok _ _ hD8;rw [eP,eW] at z;exact WQ z
    refine Nb hS8 (by unfold scanBound;lia) fun h' sb hT=>?_;have new:cJ Y.prog Y.w (upd H8 s2.heap.objs.size (jo X.prog X.w s2.heap.objs.size (mq ys z8))) h' s2.heap.objs.size (jo X.prog X.w s2.heap.objs.size (mq ys z8)):=by rw [eP,eW];exact Dp hT
    have I9:=jf (t':=s8.toks+1) I8 (by rw [hD8];exact True.intro) sb hT.obj new;exact wpAny_pure (wpAny_pure ⟨rfl,again I9 hm w8⟩)
 exact wz loop (T.self _ 0 _ _ _ st1 loop)
theorem GQ {o:Obj}{k:Nat}{Q:VK} (Pv:Nat->List Str->Hp->Prop) (hl:∀ i zs H,Pv i zs H->H a=some 0x40) (h0:Pv 0 [] (upd H1 D (jo P w D []))) (hD:∀ i zs H,Pv i zs H->H D=some (jo P w D zs))
  (hs:∀ i zs H kv,kvs[i]?=some kv->Pv i zs H->g kv.2 0x84 H fun σ2 H4=>Kp 0x84 σ2/\tt σ2 H4 fun b H5=>if b=true then te σ2 H5 fun y H6=>∃ z,y=.str z/\H6 D=some (jo P w D zs)/\zs.length<1000/\Pv (i+1) (mq zs z) (upd H6 D (jo P w D (mq zs z))) else Pv (i+1) zs H5)
  (hd:∀ zs H,Pv kvs.length zs H->Q 0x60 H):zH P w (Itv a o kvs) D σ k ix g tt te Q H1:=by
 refine ⟨fun i m ys H=>m=kvs.length - i/\i<=kvs.length/\Pv i ys H,⟨kvs.length,by simp,A0X _,h0⟩,?_⟩;rintro i m ys H ⟨rfl,hi,p⟩;refine ⟨hD i ys H p,?_⟩
 by_cases hlt:i<kvs.length
 ·refine .inr ⟨⟨hl _ _ _ p,hlt⟩,Pv (i+1),fun zs H' p'=>⟨kvs.length - (i+1),by lia,rfl,hlt,p'⟩,fun x H' y=>?_⟩;obtain ⟨rfl,kv,hkv,rfl⟩:=y;exact hs i ys _ kv hkv p
 ·have e:i=kvs.length:=by lia
  subst e;exact .inl ⟨⟨hl _ _ _ p,A0f _⟩,hd ys H p⟩
end
end L2
namespace M
open PySem L2
structure aN where
 n:Str
 lord:Option Str
 man:Str
 own:Int
 br:Int
 due:Int×Int
 ta:Addr
 tb:Addr
def iY:Option Str->V
 | none=>.non
 | some p=>.str p
theorem xU {o:Option Str}{p:Str}:iY o=.str p↔o=some p:=by
 cases o with
 | none=>exact ⟨fun h=>(by cases h),fun h=>(by cases h)⟩
 | some q=>exact ⟨fun h=>(by injection h with e;rw [e]),fun h=>(by injection h with e;rw [e];rfl)⟩
abbrev kv (f:aN->V) (es:List aN):List 0x2C:=es.map fun e=>(Sum.inr e.n,f e)
abbrev nms (es:List aN):List Str:=es.map (·.n)
abbrev jr (es:List aN):=kv (fun e=>iY e.lord) es
abbrev hoL (es:List aN):=kv (fun e=>V.str e.man) es
abbrev lY (es:List aN):=kv (fun e=>V.int e.own) es
abbrev Dr (es:List aN):=kv (fun e=>V.int e.br) es
abbrev Oq (es:List aN):=kv (fun e=>V.ref e.ta) es
abbrev xV (es:List aN):=kv (fun e=>V.ref e.tb) es
theorem key_eq {a b:Str}:(Sum.inr a:Key)=.inr b↔a=b:=⟨fun h=>by injection h,fun h=>by rw [h]⟩
theorem qy {f:aN->V}{n:Str}:∀ {es:List aN},n∉nms es->bH 0x52 0x29=none
 | [],_=>rfl
 | x::r,h=>by
  have h1:x.n≠n:=fun q=>h (by rw [<- q];exact A0g)
  show bH ((Sum.inr x.n,f x)::kv f r) _=none
  rw [dO (fun q=>h1 (key_eq.mp q))];exact qy fun q=>h (iT _ q)
theorem cX {f:aN->V}{e:aN}:∀ {es:List aN},(0x55).Nodup->e∈es->bH 0x52 (.inr e.n)=some (f e)
 | [],_,h=>by cases h
 | x::r,nd,h=>by
  show bH ((Sum.inr x.n,f x)::kv f r) _=_
  have nd':=A0M.mp nd;rcases A0d.mp h with q | q
  ·subst q;exact fB rfl
  ·have ne:x.n≠e.n:=fun z=>nd'.1 (by show x.n∈nms r;rw [z];exact A0j.mpr ⟨e,q,rfl⟩)
   rw [dO (fun z=>ne (key_eq.mp z))];exact cX nd'.2 q
theorem eZ {es:List aN}{n:Str} (h:n∈nms es):∃ e∈es,e.n=n:=by
 obtain ⟨e,he,q⟩:=A0j.mp h;exact ⟨e,he,q⟩
theorem nQ {f:aN->V}{es:List aN} (n:Str):(bH 0x52 0x29).isSome=decide (n∈nms es):=by
 by_cases h:n∈nms es
 ·rw [A0k h]
  induction es with
  | nil=>cases h
  | cons x r ih =>
   show (bH ((Sum.inr x.n,f x)::kv f r) _).isSome=true
   by_cases q:x.n=n
   ·rw [fB (key_eq.mpr q)];rfl
   ·rw [dO (fun z=>q (key_eq.mp z))];refine ih ?_;rcases A0d.mp h with z | z
    ·exact absurd z.symm q
    ·exact z
 ·rw [A0p h,qy h];rfl
theorem gw {f g:aN->V}{es:List aN} (h:∀ e∈es,f e=g e):kv f es=kv g es:=A1K fun e he=>by rw [h e he]
theorem S8 {f:aN->V}{n:Str} (es:List aN):((0x52).any fun x=>decide (x.1=Sum.inr n))=decide (n∈nms es):=by rw [lO,nQ]
theorem uW {f:aN->V}{es:List aN}{n:Str} (h:n∈nms es):putK 0x52 0x29 v=kv (fun e=>if e.n=n then v else f e) es:=by
 unfold putK;rw [S8,A0k h,A0i rfl]
 show (es.map _).map _=_
 rw [A0S];refine A1K fun e _=>?_
 show (if (Sum.inr e.n:Key)=.inr n then (Sum.inr e.n,v) else (Sum.inr e.n,f e))=(Sum.inr e.n,if e.n=n then v else f e)
 by_cases q:e.n=n
 ·rw [A0i (key_eq.mpr q),A0i q]
 ·rw [A0e (fun z=>q (key_eq.mp z)),A0e q]
theorem zJ {f:aN->V}{es:List aN}{n:Str} (h:n∉nms es):putK 0x52 0x29 v=kv f es++[(.inr n,v)]:=Qu v (qy h)
theorem mG {f:aN->V}{es:List aN}{n:Str}:jj 0x52 0x29=kv f (es.filter fun e=>decide (e.n≠n)):=by
 unfold jj;rw [A3L]
 congr 1
 refine A2r fun e _=>?_
 show decide ((Sum.inr e.n:Key)≠.inr n)=decide (e.n≠n)
 exact A4d.mpr ⟨fun h q=>h (key_eq.mpr q),fun h q=>h (key_eq.mp q)⟩
theorem jy {f:aN->V}{g:aN->aN}{es:List aN} (hg:∀ e,(g e).n=e.n):kv f (es.map g)=kv (fun e=>f (g e)) es:=by
 show (es.map g).map _=_
 rw [A0S];refine A1K fun e _=>?_
 show (Sum.inr (g e).n,f (g e))=_
 rw [hg]
theorem a0u {f:aN->V}{es:List aN}{x:aN}:kv f (es++[x])=kv f es++[(.inr x.n,f x)]:=jw
theorem iJ {f:aN->V}{es:List aN}:(0x52).length=es.length:=bV _
theorem Ds {f:aN->V}{es:List aN}{p:Str}:∀ (ss:List Str) ,(∀ s∈ss,s∈nms es)->moved 0x52 ss p=kv (fun e=>if e.n∈ss then V.str p else f e) es:=by
 intro ss;unfold moved
 induction ss generalizing f with
 | nil=>intro _;exact gw fun e _=>by rw [A0e 0xA]
 | cons s r ih =>
  intro h;rw [A1o,uW (h s A0g),ih fun x hx=>h x (iT _ hx)];refine gw fun e _=>?_
  by_cases q:e.n∈r
  ·rw [A0i q,A0i (iT _ q)]
  ·rw [A0e q]
   by_cases z:e.n=s
   ·rw [A0i z,A0i (by rw [z];exact A0g)]
   ·rw [A0e z,A0e];intro c;rcases A0d.mp c with y | y
    ·exact z y
    ·exact q y
theorem tL {f:aN->V} (p:Key×V->Bool) (es:List aN):((0x52).filter p).map jx=(es.filter fun e=>p (.inr e.n,f e)).map (·.n):=by
 rw [A3L,A0S];rfl
theorem Dt {f:aN->V}{es:List aN}:TK 0x52:=fun x hx=>by
 obtain ⟨e,he,rfl⟩:=A0j.mp hx;rfl
theorem YL {es:List aN}:TV (jr es):=fun x hx=>by
 obtain ⟨e,he,rfl⟩:=A0j.mp hx
 show iY e.lord=.non\/∃ s,iY e.lord=.str s
 cases e.lord with
 | none=>exact .inl rfl
 | some p=>exact .inr ⟨p,rfl⟩
theorem YM {es:List aN}:TV (hoL es):=fun x hx=>by
 obtain ⟨e,he,rfl⟩:=A0j.mp hx;exact .inr ⟨_,rfl⟩
def Ord:List Str->List aN->Prop
 | _,[]=>True
 | seen,e::r=>(∃ p,e.lord=some p/\p∈seen)/\Ord (e.n::seen) r
theorem Ord.snoc:∀ {r:List aN}{s:List Str}{x:aN}{p:Str},Ord s r->x.lord=some p->(p∈s\/p∈nms r)->Ord s (r++[x])
 | [],s,x,p,_,hx,h=>⟨⟨p,hx,h.elim id fun q=>by cases q⟩,True.intro⟩
 | e::r,s,x,p,⟨h1,h2⟩,hx,h=>⟨h1,Ord.snoc (r:=r) h2 hx (by
   rcases h with q | q
   ·exact .inl (iT _ q)
   ·rcases A0d.mp q with z | z
    ·exact .inl (by rw [z];exact A0g)
    ·exact .inr z)⟩
theorem Ord.map {g:aN->aN} (h1:∀ e,(g e).n=e.n) (h2:∀ e,(g e).lord=e.lord):∀ {r:List aN}{s:List Str},Ord s r->Ord s (r.map g)
 | [],_,_=>True.intro
 | e::r,s,⟨⟨p,hp,hs⟩,ho⟩=>⟨⟨p,by rw [h2,hp],hs⟩,by rw [h1];exact Ord.map h1 h2 ho⟩
theorem Ord.lord:∀ {r:List aN}{s:List Str},Ord s r->∀ e∈r,∃ p,e.lord=some p/\(p∈s\/p∈nms r)
 | e::r,s,⟨⟨p,hp,hs⟩,ho⟩,x,hx=>by
  rcases A0d.mp hx with q | q
  ·subst q;exact ⟨p,hp,.inl hs⟩
  ·obtain ⟨p',h1,h2⟩:=Ord.lord ho x q;refine ⟨p',h1,?_⟩;rcases h2 with z | z
   ·rcases A0d.mp z with y | y
    ·exact .inr (by rw [y];exact A0g)
    ·exact .inl y
   ·exact .inr (iT _ z)
def Du (e p:Str) (a:Int) (y:aN):aN:={ y with lord:=if y.lord=some e then some p else y.lord,own:=if y.n=p then y.own+a else y.own }
theorem Ord.fall {e p:Str}{a:Int}:∀ {r:List aN}{s t:List Str},Ord s r->(∀ x∈r,x.n=e->x.lord=some p)->(∀ x∈s,x≠e->x∈t)->(e∈s->p∈t)->p≠e->Ord t ((r.filter fun y=>decide (y.n≠e)).map (Du e p a))
 | [],_,_,_,_,_,_,_=>True.intro
 | y::r,s,t,⟨⟨q,hq,hs⟩,ho⟩,hl,h1,h2,hp=>by
  have tl:∀ x∈r,x.n=e->x.lord=some p:=fun x hx=>hl x (iT _ hx)
  by_cases c:y.n=e
  ·rw [A1w 0x3F];have hy:=hl y A0g c;refine Ord.fall (s:=y.n::s) (t:=t) ho tl (fun x hx hne=>?_) 0x86 hp
   ·rcases A0d.mp hx with z | z
    ·exact absurd (z.trans c) hne
    ·exact h1 x z hne
   ·rw [hq] at hy;injection hy with hy;exact h1 p (hy ▸ hs) hp
  ·rw [A1g 0x3F,A0h];refine ⟨?_,Ord.fall (s:=y.n::s) (t:=y.n::t) ho tl (fun x hx hne=>?_) (fun hx=>?_) hp⟩
   ·show ∃ p',(if y.lord=some e then some p else y.lord)=some p'/\p'∈t
    by_cases z:y.lord=some e
    ·rw [hq] at z;injection z with z;exact ⟨p,by rw [A0i (by rw [hq,z])],h2 (z ▸ hs)⟩
    ·have:q≠e:=fun w=>z (by rw [hq,w]);exact ⟨q,by rw [A0e z,hq],h1 q hs this⟩
   ·rcases A0d.mp hx with z | z
    ·rw [z];exact A0g
    ·exact iT _ (h1 x z hne)
   ·rcases A0d.mp hx with z | z
    ·exact absurd z.symm c
    ·exact iT _ (h2 z)
theorem nR {F G:aN->Int}{es:List aN} (h:∀ y∈es,G y=F y):(es.map G).sum=(es.map F).sum:=by rw [A1K h]
theorem tM {F G:aN->Int}{e0:aN}:∀ {es:List aN},(0x55).Nodup->e0∈es->(∀ y∈es,y.n≠e0.n->G y=F y)->(es.map G).sum=(es.map F).sum - F e0+G e0
 | [],_,h,_=>by cases h
 | x::r,nd,h,hg=>by
  have nd':=A0M.mp nd;simp only [A0h,A0H];rcases A0d.mp h with q | q
  ·subst q;rw [nR (F:=F) (G:=G) (es:=r) fun y hy=>hg y (iT _ hy) fun z=>nd'.1 (show e0.n∈nms r by rw [<- z];exact A0j.mpr ⟨y,hy,rfl⟩)]
   lia
  ·have ne:x.n≠e0.n:=fun z=>nd'.1 (show x.n∈nms r by rw [z];exact A0j.mpr ⟨e0,q,rfl⟩)
   rw [hg x A0g ne,tM nd'.2 q fun y hy=>hg y (iT _ hy)];lia
theorem uX {F:aN->Int}{e0:aN}:∀ {es:List aN},(0x55).Nodup->e0∈es->((0xE).map F).sum=(es.map F).sum - F e0
 | [],_,h=>by cases h
 | x::r,nd,h=>by
  have nd':=A0M.mp nd;rcases A0d.mp h with q | q
  ·subst q;have:(r.filter fun y=>decide (y.n≠e0.n))=r:=List.filter_eq_self.mpr fun y hy=>by
    refine A0k fun z=>nd'.1 (show e0.n∈nms r by rw [<- z];exact A0j.mpr ⟨y,hy,rfl⟩)
   rw [A1w 0xA,this,A0h,A0H];lia
  ·have ne:x.n≠e0.n:=fun z=>nd'.1 (show x.n∈nms r by rw [z];exact A0j.mpr ⟨e0,q,rfl⟩)
   rw [A1g (by simpa using ne),A0h,A0h,A0H,A0H,uX nd'.2 q];lia
theorem sum_add {F G:aN->Int}:∀ (es:List aN),(es.map fun y=>F y+G y).sum=(es.map F).sum+(es.map G).sum
 | []=>rfl
 | x::r=>by simp only [A0h,A0H,sum_add r];lia
theorem uY {F:aN->Int}:∀ {es:List aN},(∀ y∈es,F y=0)->(es.map F).sum=0
 | [],_=>rfl
 | x::r,h=>by rw [A0h,A0H,h x A0g,uY fun y hy=>h y (iT _ hy)];rfl
theorem S9 {F:aN->Int}:∀ {es:List aN},(∀ y∈es,0<=F y)->0<=(es.map F).sum
 | [],_=>Int.le_refl _
 | x::r,h=>by
  rw [A0h,A0H];have h1:=h x A0g;have h2:=S9 (F:=F) (es:=r) fun y hy=>h y (iT _ hy);lia
def Sb (es:List aN) (q:Str):Int:=(es.map fun y=>if y.lord=some q then y.br else 0).sum
structure WF (es:List aN):Prop where
 nd:(0x55).Nodup
 hd:∃ c r,es=c::r/\c.n=""/\c.lord=none/\Ord [""] r
 bnd:∀ e∈es,0<=e.own/\0<=e.br/\e.br<=9999
 br:∀ e∈es,e.br=e.own+Sb es e.n
 ok:∀ e∈es,PyData.strOk e.n=true
theorem WF.lord {es:List aN} (W:WF es):∀ e∈es,e.n≠""->∃ p,e.lord=some p/\p∈nms es/\p≠e.n:=by
 obtain ⟨c,r,rfl,hc,hl,ho⟩:=W.hd;intro e he hne;rcases A0d.mp he with q | q
 ·rw [q] at hne;exact absurd hc hne
 ·obtain ⟨p,hp,hm⟩:=ho.lord e q;refine ⟨p,hp,?_,?_⟩
  ·rcases hm with z | z
   ·rw [A0c.mp z,<- hc];exact A0g
   ·exact iT _ z
  ·-- not its own lord
   have key:∀ {r:List aN}{s:List Str},Ord s r->(nms r).Nodup->(∀ x∈s,x∉nms r)->∀ e∈r,e.lord≠some e.n:=by
    intro r
    induction r with
    | nil=>intro s _ _ _ e he;cases he
    | cons y r ih =>
     rintro s ⟨⟨p,hp,hs⟩,ho⟩ nd hx e he;have nd':=A0M.mp nd;rcases A0d.mp he with q | q
     ·rw [q,hp];intro z;injection z with z;exact hx p hs (by rw [z];exact A0g)
     ·refine ih ho nd'.2 (fun x hxs=>?_) e q;rcases A0d.mp hxs with z | z
      ·rw [z];exact nd'.1
      ·exact fun w=>hx x z (iT _ w)
   have nd':=A0M.mp W.nd;have:=key ho nd'.2 (fun x hx=>by rw [A0c.mp hx,<- hc];exact nd'.1) e q;intro z;exact this (by rw [hp,z])
theorem WF.crown {es:List aN} (W:WF es):∀ e∈es,e.n=""->e.lord=none:=by
 obtain ⟨c,r,rfl,hc,hl,ho⟩:=W.hd;intro e he h;have nd':=A0M.mp W.nd;rcases A0d.mp he with q | q
 ·rw [q];exact hl
 ·exact absurd (show c.n∈nms r by rw [hc,<- h];exact A0j.mpr ⟨e,q,rfl⟩) nd'.1
theorem WF.mem0 {es:List aN} (W:WF es):("" : Str)∈nms es:=by
 obtain ⟨c,r,rfl,hc,_⟩:=W.hd;rw [<- hc];exact A0g
theorem WF.a0v {es:List aN} (W:WF es) {n:Str} (h:n∉nms es):∀ y∈es,y.lord≠some n:=fun y hy q=>by
 by_cases c:y.n=""
 ·rw [W.crown y hy c] at q;cases q
 ·obtain ⟨p,hp,hm,_⟩:=W.lord y hy c;rw [hp] at q;injection q with q;exact h (q ▸ hm)
theorem WF.sb0 {es:List aN} (W:WF es) {n:Str} (h:n∉nms es):Sb es n=0:=uY fun y hy=>A0e (W.a0v h y hy)
theorem WF.sbn {es:List aN} (W:WF es) (q:Str):0<=Sb es q:=S9 fun y hy=>by
 split
 ·exact (W.bnd y hy).2.1
 ·exact Int.le_refl _
theorem WF.Sd {es:List aN} (W:WF es):∀ e∈es,e.own<=e.br:=fun e he=>by
 have h1:=W.br e he;have h2:=W.sbn e.n;lia
def mod (n:Str) (g:aN->aN) (es:List aN):List aN:=es.map fun y=>if y.n=n then g y else y
theorem qz {n:Str}{g:aN->aN} (hg:∀ e,(g e).n=e.n) (es:List aN):nms (mod n g es)=nms es:=by
 unfold mod
 show (es.map _).map _=_
 rw [A0S];refine A1K fun e _=>?_
 show (if e.n=n then g e else e).n=e.n
 split
 ·exact hg e
 ·rfl
theorem dB {n:Str}{g:aN->aN}{es:List aN}{y:aN} (h:y∈mod n g es):∃ y0∈es,y=if y0.n=n then g y0 else y0:=by
 obtain ⟨y0,h0,q⟩:=A0j.mp h;exact ⟨y0,h0,q.symm⟩
theorem Sg {f:aN->V}{n:Str}{g:aN->aN} (hg:∀ e,(g e).n=e.n) (es:List aN):kv f (mod n g es)=kv (fun e=>if e.n=n then f (g e) else f e) es:=by
 unfold mod;rw [jy (g:=fun y=>if y.n=n then g y else y) (fun e=>by split;exact hg e;rfl)]
 exact gw fun e _=>by split <;> rfl
theorem fZ {f:aN->V}{n:Str}{g:aN->aN} (hg:∀ e,(g e).n=e.n) (hf:∀ e,f (g e)=f e) (es:List aN):kv f (mod n g es)=kv f es:=by
 rw [Sg hg];exact gw fun e _=>by split;exact hf e;rfl
theorem Sh {n:Str}{g:aN->aN} (hg:∀ e,(g e).n=e.n) (hl:∀ e,(g e).lord=e.lord) {es:List aN} (h:∃ c r,es=c::r/\c.n=""/\c.lord=none/\Ord [""] r):∃ c r,mod n g es=c::r/\c.n=""/\c.lord=none/\Ord [""] r:=by
 obtain ⟨c,r,rfl,hc,hcl,ho⟩:=h;refine ⟨_,_,rfl,?_,?_,Ord.map (fun e=>?_) (fun e=>?_) ho⟩
 ·show (if c.n=n then g c else c).n=""
  split
  ·rw [hg,hc]
  ·exact hc
 ·show (if c.n=n then g c else c).lord=none
  split
  ·rw [hl,hcl]
  ·exact hcl
 ·show (if e.n=n then g e else e).n=e.n
  split
  ·exact hg e
  ·rfl
 ·show (if e.n=n then g e else e).lord=e.lord
  split
  ·exact hl e
  ·rfl
theorem a0w {n:Str}{g:aN->aN} (hl:∀ e,(g e).lord=e.lord) {es:List aN}{e0:aN} (nd:(0x55).Nodup) (h0:e0∈es) (hn:e0.n=n) (q:Str):Sb (mod n g es) q=Sb es q+(if e0.lord=some q then (g e0).br - e0.br else 0):=by
 unfold Sb mod;rw [A0S];rw [tM (F:=fun y=>if y.lord=some q then y.br else 0) (e0:=e0) nd h0 (fun y hy ne=>?_)]
 ·show _ - (if e0.lord=some q then e0.br else 0)+(if (if e0.n=n then g e0 else e0).lord=some q then (if e0.n=n then g e0 else e0).br else 0)=_
  rw [A0i hn,hl]
  by_cases c:e0.lord=some q
  ·rw [A0i c,A0i c,A0i c];lia
  ·rw [A0e c,A0e c,A0e c];lia
 ·show (if (if y.n=n then g y else y).lord=some q then (if y.n=n then g y else y).br else 0)=_
  have c:¬ y.n=n:=by rw [<- hn];exact ne
  rw [A0e c]
theorem a0x (es:List aN) (x:aN) (q:Str):Sb (es++[x]) q=Sb es q+(if x.lord=some q then x.br else 0):=by
 unfold Sb;rw [jw,A3M];simp
theorem jh {es:List aN} (nd:(0x55).Nodup) {a b:aN} (ha:a∈es) (hb:b∈es) (h:a.n=b.n):a=b:=by
 induction es with
 | nil=>cases ha
 | cons x r ih =>
  have nd':=A0M.mp nd;rcases A0d.mp ha with p | p <;> rcases A0d.mp hb with q | q
  ·rw [p,q]
  ·exact absurd (show x.n∈nms r by rw [<- p,h];exact A0j.mpr ⟨b,q,rfl⟩) nd'.1
  ·exact absurd (show x.n∈nms r by rw [<- q,<- h];exact A0j.mpr ⟨a,p,rfl⟩) nd'.1
  ·exact ih nd'.2 p q
theorem WF.new {es:List aN} (W:WF es) {e0 x:aN}{g:aN->aN}{a:Int} (h0:e0∈es) (hg:∀ e,(g e).n=e.n) (hl:∀ e,(g e).lord=e.lord) (ho:(g e0).own=e0.own - a) (ha:0<=a) (hb:a<=e0.own) (hx:x.n∉nms es) (hok:PyData.strOk x.n=true) (ho2:x.own=a) (hb2:x.br=a)
  (way:(x.lord=some e0.n/\(g e0).br=e0.br)\/(x.lord=e0.lord/\e0.n≠""/\(g e0).br=e0.br - a)):WF (mod e0.n g es++[x]):=by
 have onm:nms (mod e0.n g es++[x])=nms es++[x.n]:=by
  show (mod e0.n g es++[x]).map _=_
  rw [jw];have:=qz (n:=e0.n) hg es
  show nms (mod e0.n g es)++_=_
  rw [this];rfl
 have b0:=W.bnd e0 h0;have ow:=W.Sd e0 h0;have sbs:∀ q,Sb (mod e0.n g es++[x]) q=Sb es q+(if q=e0.n then e0.own - (g e0).own+((g e0).br - e0.br) else 0):=by
  intro q;rw [a0x,a0w hl W.nd h0 rfl];rcases way with ⟨w1,w2⟩ | ⟨w1,w0,w2⟩
  ·have z0:(if e0.lord=some q then (g e0).br - e0.br else 0)=(0:Int):=by rw [w2];split <;> lia
   rw [z0,w1,w2,hb2,ho]
   by_cases c:q=e0.n
   ·subst c;rw [A0i rfl,A0i rfl];lia
   ·rw [A0e c,A0e (fun z=>c (by injection z with z;exact z.symm))];lia
  ·rw [w1,w2,hb2,ho]
   split
   ·split <;> lia
   ·split <;> lia
 refine ⟨?_,?_,?_,?_,fun e he=>?_⟩
 rotate_right
 ·rcases A0x.mp he with q | q
  ·obtain ⟨y,hy,rfl⟩:=dB q
   split
   ·rw [hg];exact W.ok y hy
   ·exact W.ok y hy
  ·rw [A0c.mp q];exact hok
 ·rw [onm,A2b];refine ⟨W.nd,by simp,fun u hu v hv=>?_⟩;rw [A0c.mp hv];exact fun z=>hx (z ▸ hu)
 ·obtain ⟨c,r,e1,e2,e3,e4⟩:=Sh (n:=e0.n) hg hl W.hd;rw [e1];have hp:∃ p,x.lord=some p/\p∈nms es:=by
   rcases way with ⟨w1,_⟩ | ⟨w1,w0,_⟩
   ·exact ⟨_,w1,A0j.mpr ⟨e0,h0,rfl⟩⟩
   ·obtain ⟨p,hp,hm,_⟩:=W.lord e0 h0 w0;exact ⟨p,w1.trans hp,hm⟩
  obtain ⟨p,hp,hm⟩:=hp;refine ⟨c,r++[x],rfl,e2,e3,Ord.snoc e4 hp ?_⟩;have hm':p∈nms (mod e0.n g es):=by rw [qz hg];exact hm
  rw [e1] at hm';rcases A0d.mp hm' with z | z
  ·exact .inl (by rw [z];show c.n∈([""]:List Str);rw [e2];exact A0c.mpr rfl)
  ·exact .inr z
 ·intro e he;rcases A0x.mp he with q | q
  ·obtain ⟨y,hy,rfl⟩:=dB q;have by_:=W.bnd y hy
   split
   ·rename_i c
    obtain rfl:=jh W.nd hy h0 c;rw [ho];rcases way with ⟨_,w2⟩ | ⟨_,_,w2⟩ <;> rw [w2] <;> lia
   ·exact by_
  ·rw [A0c.mp q,ho2,hb2];lia
 ·intro e he;rcases A0x.mp he with q | q
  ·obtain ⟨y,hy,rfl⟩:=dB q;have hbr:=W.br y hy
   split
   ·rename_i c
    obtain rfl:=jh W.nd hy h0 c;rw [hg,sbs,A0i rfl];lia
   ·rename_i c
    rw [sbs,A0e c];lia
  ·rw [A0c.mp q,ho2,hb2,sbs,W.sb0 hx,A0e (fun z=>hx (by rw [z];exact A0j.mpr ⟨e0,h0,rfl⟩))];lia
theorem WF.mod {es:List aN} (W:WF es) {n:Str}{g:aN->aN} (hg:∀ e,(g e).n=e.n) (hl:∀ e,(g e).lord=e.lord) (ho:∀ e,(g e).own=e.own) (hb:∀ e,(g e).br=e.br):WF (mod n g es):=by
 have sbs:∀ q,Sb (M.mod n g es) q=Sb es q:=by
  intro q;unfold Sb M.mod;rw [A0S];refine nR fun y _=>?_
  show (if (if y.n=n then g y else y).lord=some q then (if y.n=n then g y else y).br else 0)=_
  by_cases c:y.n=n
  ·rw [A0i c,hl,hb]
  ·rw [A0e c]
 refine ⟨by rw [qz hg];exact W.nd,Sh hg hl W.hd,fun e he=>?_,fun e he=>?_,fun e he=>?_⟩
 rotate_right
 ·obtain ⟨y,hy,rfl⟩:=dB he
  split
  ·rw [hg];exact W.ok y hy
  ·exact W.ok y hy
 ·obtain ⟨y,hy,rfl⟩:=dB he
  split
  ·rw [ho,hb];exact W.bnd y hy
  ·exact W.bnd y hy
 ·obtain ⟨y,hy,rfl⟩:=dB he;rw [sbs]
  split
  ·rw [hg,ho,hb];exact W.br y hy
  ·exact W.br y hy
def cG (e p:Str) (a:Int) (es:List aN):List aN:=(es.filter fun y=>decide (y.n≠e)).map (Du e p a)
theorem WF.fall {es:List aN} (W:WF es) {e0:aN}{p:Str} (h0:e0∈es) (hne:e0.n≠"") (hp:e0.lord=some p):WF 0x1F:=by
 obtain ⟨p',hp',hpm,hpn⟩:=W.lord e0 h0 hne;obtain rfl:p=p':=by rw [hp] at hp';injection hp'
 have mem:∀ y,y∈cG e0.n p e0.own es->∃ y0∈es,y0.n≠e0.n/\y=Du e0.n p e0.own y0:=fun y hy=>by
  obtain ⟨y0,h1,h2⟩:=A0j.mp hy;obtain ⟨h3,h4⟩:=A0J.mp h1;exact ⟨y0,h3,rT h4,h2.symm⟩
 have eo:=W.br e0 h0;have sbs:∀ q,q≠e0.n->Sb 0x1F q=Sb es q - (if q=p then e0.own else 0):=by
  intro q hq;unfold Sb cG;rw [A0S];rw [uX (F:=(fun y=>if y.lord=some q then y.br else 0)∘Du e0.n p e0.own) W.nd h0]
  have val:∀ y,((fun y=>if y.lord=some q then y.br else 0)∘Du e0.n p e0.own) y=(if y.lord=some q then y.br else 0)+(if q=p then (if y.lord=some e0.n then y.br else 0) else 0):=by
   intro y
   show (if (if y.lord=some e0.n then some p else y.lord)=some q then y.br else 0)=_
   by_cases c:y.lord=some e0.n
   ·rw [A0i c,c,A0e (fun z:some e0.n=some q=>hq (by injection z with z;exact z.symm)),A0i rfl]
    by_cases d:q=p
    ·rw [A0i d,d,A0i rfl];lia
    ·rw [A0e d,A0e (fun z=>d (by injection z with z;exact z.symm))];rfl
   ·rw [A0e c,A0e c]
    split <;> split <;> lia
  rw [nR (fun y _=>val y),sum_add,val e0,hp,A0e (fun z:some p=some e0.n=>hpn (by injection z))]
  by_cases d:q=p
  ·subst d;rw [A0i rfl,A0i rfl,A0i rfl];have e1:(es.map fun y=>if q=q then (if y.lord=some e0.n then y.br else 0) else 0).sum=Sb es e0.n:=by
    unfold Sb;exact nR fun y _=>A0i rfl
   rw [e1];lia
  ·rw [A0e d,A0e d,A0e (fun z=>d (by injection z with z;exact z.symm))];have e1:(es.map fun y=>if q=p then (if y.lord=some e0.n then y.br else 0) else 0).sum=0:=uY fun y _=>A0e d
   rw [e1];lia
 refine ⟨?_,?_,?_,?_,fun y hy=>?_⟩
 rotate_right
 ·obtain ⟨y0,h1,h2,rfl⟩:=mem y hy;exact W.ok y0 h1
 ·have:nms 0x1F=(0x55).filter fun n=>decide (n≠e0.n):=by
   unfold cG
   show ((es.filter _).map _).map _=_
   rw [A0S,A3L];rfl
  rw [this];exact W.nd.filter _
 ·obtain ⟨c,r,rfl,hc,hcl,ho⟩:=W.hd;unfold cG;rw [A1g (by simpa [hc] using fun z=>hne z.symm),A0h];refine ⟨_,_,rfl,hc,?_,Ord.fall ho (fun x hx hxn=>?_) (fun x hx _=>hx) (fun hx=>absurd (A0c.mp hx) hne) hpn⟩
  ·show (if c.lord=some e0.n then some p else c.lord)=none
   rw [hcl,A0e (fun z=>by cases z)]
  ·rw [jh W.nd (iT _ hx) h0 hxn];exact hp
 ·intro y hy;obtain ⟨y0,h1,h2,rfl⟩:=mem y hy;have b:=W.bnd y0 h1;have be:=W.bnd e0 h0;refine ⟨?_,b.2⟩
  show 0<=(if y0.n=p then y0.own+e0.own else y0.own)
  split <;> lia
 ·intro y hy;obtain ⟨y0,h1,h2,rfl⟩:=mem y hy;have b:=W.br y0 h1
  show y0.br=(if y0.n=p then y0.own+e0.own else y0.own)+Sb _ y0.n
  rw [sbs _ h2]
  split <;> lia
theorem Sq {l m:List Int} (h:l.Perm m):l.sum=m.sum:=by
 induction h with
 | nil=>rfl
 | cons x _ ih=>rw [A0H,A0H,ih]
 | swap x y l=>rw [A0H,A0H,A0H,A0H];lia
 | trans _ _ h1 h2=>rw [h1,h2]
theorem Nh {l m:List Nat} (h:l.Perm m):l.sum=m.sum:=by
 induction h with
 | nil=>rfl
 | cons x _ ih=>rw [A0H,A0H,ih]
 | swap x y l=>rw [A0H,A0H,A0H,A0H];lia
 | trans _ _ h1 h2=>rw [h1,h2]
def Ni (es:List aN) (n:Str):Int:=((es.find? fun e=>decide (e.n=n)).map (·.br)).getD 0
theorem a0y {es:List aN} (nd:(0x55).Nodup) {e:aN} (he:e∈es):es.find? (fun x=>decide (x.n=e.n))=some e:=by
 induction es with
 | nil=>cases he
 | cons x r ih =>
  have nd':=A0M.mp nd;rcases A0d.mp he with q | q
  ·rw [q,A1O 0xA]
  ·rw [A1z (by
    have:x.n≠e.n:=fun z=>nd'.1 (show x.n∈nms r by rw [z];exact A0j.mpr ⟨e,q,rfl⟩)
    simpa using this)]
   exact ih nd'.2 q
theorem Ss {es:List aN} (nd:(0x55).Nodup) {e:aN} (he:e∈es):Ni es e.n=e.br:=by unfold Ni;rw [a0y nd he];rfl
theorem Dv {F:aN->Int} (c:aN->Bool):∀ es:List aN,((es.filter c).map F).sum=(es.map fun y=>if c y=true then F y else 0).sum
 | []=>rfl
 | x::r=>by
  have ih:=Dv (F:=F) c r
  by_cases h:c x=true
  ·rw [A1g h,A0h,A0h,A0H,A0H,A0i h,ih]
  ·rw [A1w h,A0h,A0H,A0e h,ih];lia
theorem xW {es:List aN} (nd:(0x55).Nodup)  (h:ss.Perm ((es.filter fun y=>decide (y.lord=some q)).map (·.n))):(ss.map (Ni es)).sum=Sb es q:=by
 rw [Sq (h.map _),A0S];have:((es.filter fun y=>decide (y.lord=some q)).map (Ni es∘fun x=>x.n))=(es.filter fun y=>decide (y.lord=some q)).map (·.br):=A1K fun y hy=>Ss nd (A0J.mp hy).1;rw [this,Dv];unfold Sb;exact nR fun y _=>by simp only [A2a]
def wt:List aN->Str->Nat
 | [],_=>0
 | x::r,n=>if x.n=n then 2 ^ r.length else wt r n
def Sw (es:List aN) (c:aN->Bool) (ws:List aN):Nat:=(es.map fun y=>if c y=true then wt ws y.n else 0).sum
theorem tO {x:aN}{r:List aN}{c:aN->Bool}:∀ {es:List aN},(∀ y∈es,y.n≠x.n)->Sw es c (x::r)=Sw es c r
 | [],_=>rfl
 | y::es,h=>by
  have ih:=tO (x:=x) (r:=r) (c:=c) (es:=es) fun z hz=>h z (iT _ hz);unfold Sw at ih ⊢;rw [A0h,A0h,A0H,A0H,ih];have:wt (x::r) y.n=wt r y.n:=A0e fun z=>h y A0g z.symm;rw [this]
theorem Sv {x:aN}{r:List aN} (nd:(nms (x::r)).Nodup):∀ y∈r,y.n≠x.n:=fun y hy z=>(A0M.mp nd).1 (show x.n∈nms r by rw [<- z];exact A0j.mpr ⟨y,hy,rfl⟩)
theorem Sy {c:aN->Bool}:∀ {r:List aN},(nms r).Nodup->Sw r c r<2 ^ r.length
 | [],_=>show 0<1 by decide
 | x::r,nd=>by
  have ih:=Sy (c:=c) (r:=r) (A0M.mp nd).2;unfold Sw;rw [A0h,A0H];have e:=tO (x:=x) (r:=r) (c:=c) (es:=r) (Sv nd);unfold Sw at e ih;rw [e,oX,Nat.pow_succ];have:wt (x::r) x.n=2 ^ r.length:=A0i rfl;rw [this]
  split <;> lia
theorem SJ {e:aN}:∀ {r:List aN}{s:List Str},Ord s r->(nms r).Nodup->(∀ x∈s,x∉nms r)->e∈r->Sw r (fun y=>decide (y.lord=some e.n)) r<wt r e.n
 | x::r,s,⟨⟨p,hp,hs⟩,ho⟩,nd,hx,he=>by
  have nd':=A0M.mp nd;unfold Sw;rw [A0h,A0H];have e1:=tO (x:=x) (r:=r) (c:=fun y=>decide (y.lord=some e.n)) (es:=r) (Sv nd);have nx:¬ (decide (x.lord=some e.n)=true):=fun z=>by
   have z:=rT z;rw [hp] at z;injection z with z;exact hx p hs (by rw [z];exact A0j.mpr ⟨e,he,rfl⟩)
  rw [A0e nx];unfold Sw at e1;rw [e1];rcases A0d.mp he with q | q
  ·have:wt (x::r) e.n=2 ^ r.length:=A0i (by rw [q]);rw [this];have:=Sy (c:=fun y=>decide (y.lord=some e.n)) nd'.2;unfold Sw at this;lia
  ·have:wt (x::r) e.n=wt r e.n:=A0e fun z=>nd'.1 (show x.n∈nms r by rw [z];exact A0j.mpr ⟨e,q,rfl⟩)
   rw [this];have:=SJ (e:=e) ho nd'.2 (fun y hy w=>by
    rcases A0d.mp hy with z | z
    ·exact nd'.1 (by rw [z] at w;exact w)
    ·exact hx y z (iT _ w)) q
   unfold Sw at this;lia
theorem WF.meas {es:List aN} (W:WF es) {e:aN} (he:e∈es):Sw es (fun y=>decide (y.lord=some e.n)) es<wt es e.n:=by
 obtain ⟨c,r,rfl,hc,hl,ho⟩:=W.hd;have nd':=A0M.mp W.nd;unfold Sw;rw [A0h,A0H,A0e (by show ¬ decide (c.lord=some e.n)=true;rw [hl];simp)]
 have e1:=tO (x:=c) (r:=r) (c:=fun y=>decide (y.lord=some e.n)) (es:=r) (Sv W.nd);unfold Sw at e1;rw [e1];rcases A0d.mp he with q | q
 ·have:wt (c::r) e.n=2 ^ r.length:=A0i (by rw [q]);rw [this];have:=Sy (c:=fun y=>decide (y.lord=some e.n)) nd'.2;unfold Sw at this;lia
 ·have:wt (c::r) e.n=wt r e.n:=A0e fun z=>nd'.1 (show c.n∈nms r by rw [z];exact A0j.mpr ⟨e,q,rfl⟩)
  rw [this];have:=SJ (e:=e) ho nd'.2 (fun y hy w=>by rw [A0c.mp hy,<- hc] at w;exact nd'.1 w) q;unfold Sw at this;lia
theorem xX {F:aN->Nat} (c:aN->Bool):∀ es:List aN,((es.filter c).map F).sum=(es.map fun y=>if c y=true then F y else 0).sum
 | []=>rfl
 | x::r=>by
  have ih:=xX (F:=F) c r
  by_cases h:c x=true
  ·rw [A1g h,A0h,A0h,A0H,A0H,A0i h,ih]
  ·rw [A1w h,A0h,A0H,A0e h,ih];lia
theorem uZ {es:List aN} (W:WF es) {e:aN} (he:e∈es)  (h:ss.Perm ((es.filter fun y=>decide (y.lord=some e.n)).map (·.n))):(ss.map (wt es)).sum<wt es e.n:=by
 have:=W.meas he;unfold Sw at this;rw [Nh (h.map _),A0S];have e2:=xX (F:=wt es∘fun x=>x.n) (fun y=>decide (y.lord=some e.n)) es;rw [e2];exact this
theorem SM {lo:List 0x2C}{m:Nat}:∀ {r:List aN}{s:List Str},Ord s r->(∀ y∈r,bH lo (.inr y.n)=some (iY y.lord))->(∀ x∈s,∃ l,Ch lo x l/\l.length<=m)->∀ y∈r,∃ l,Ch lo y.n l/\l.length<=m+r.length
 | x::r,s,⟨⟨p,hp,hs⟩,ho⟩,hv,h,y,hy=>by
  have hx:∃ l,Ch lo x.n l/\l.length<=m+1:=by
   obtain ⟨l,h1,h2⟩:=h p hs;refine ⟨x.n::l,.up ?_ h1,by rw [oX];lia⟩;rw [hv x A0g,hp];rfl
  rcases A0d.mp hy with q | q
  ·rw [q];obtain ⟨l,h1,h2⟩:=hx;exact ⟨l,h1,by rw [oX];lia⟩
  ·obtain ⟨l,h1,h2⟩:=SM (m:=m+1) ho (fun z hz=>hv z (iT _ hz)) (fun z hz=>by
    rcases A0d.mp hz with w | w
    ·rw [w];exact hx
    ·obtain ⟨l,h1,h2⟩:=h z w;exact ⟨l,h1,by lia⟩) y q
   exact ⟨l,h1,by rw [oX];lia⟩
theorem WF.chain {es:List aN} (W:WF es) {e:aN} (he:e∈es):∃ l,Ch (jr es) e.n l/\l.length<=es.length:=by
 have hv:∀ y∈es,bH (jr es) (.inr y.n)=some (iY y.lord):=fun y hy=>cX W.nd hy;obtain ⟨c,r,rfl,hc,hl,ho⟩:=W.hd;have h0:Ch (jr (c::r)) "" [""]:=by
  refine .crown ?_;rw [<- hc,hv c A0g,hl];rfl
 rcases A0d.mp he with q | q
 ·rw [q,hc];exact ⟨_,h0,by simp⟩
 ·obtain ⟨l,h1,h2⟩:=SM (m:=1) ho (fun y hy=>hv y (iT _ hy)) (fun x hx=>by rw [A0c.mp hx];exact ⟨_,h0,by simp⟩) e q;exact ⟨l,h1,by rw [oX];lia⟩
theorem sub_len {α:Type} [DecidableEq α]:∀ {l m:List α},l.Nodup->(∀ x∈l,x∈m)->l.length<=m.length
 | [],_,_,_=>A0X _
 | x::l,m,nd,h=>by
  have nd':=A0M.mp nd;have hx:=h x A0g;have ih:=sub_len (l:=l) (m:=m.erase x) nd'.2 fun y hy=>by
   have ne:y≠x:=fun z=>nd'.1 (z ▸ hy);exact (List.mem_erase_of_ne ne).mpr (h y (iT _ hy))
  rw [List.length_erase_of_mem hx] at ih;have:=A3j hx;rw [oX];lia
theorem oH {es:List aN} (nd:(0x55).Nodup)  (h:ss.Perm ((es.filter fun y=>decide (y.lord=some q)).map (·.n))):(∀ s∈ss,s∈nms es)/\∀ y∈es,(y.n∈ss↔y.lord=some q):=by
 refine ⟨fun s hs=>?_,fun y hy=>⟨fun hs=>?_,fun hl=>?_⟩⟩
 ·obtain ⟨y,hy,rfl⟩:=A0j.mp (h.mem_iff.mp hs);exact A0j.mpr ⟨y,(A0J.mp hy).1,rfl⟩
 ·obtain ⟨z,hz,e⟩:=A0j.mp (h.mem_iff.mp hs);obtain ⟨z1,z2⟩:=A0J.mp hz;obtain rfl:=jh nd z1 hy e;exact rT z2
 ·exact h.mem_iff.mpr (A0j.mpr ⟨y,A0J.mpr ⟨hy,A0k hl⟩,rfl⟩)
theorem Kd {es:List aN} (h:ss.Perm (((jr es).filter fun x=>decide (x.2=.str q)).map jx)):ss.Perm ((es.filter fun y=>decide (y.lord=some q)).map (·.n)):=by
 rw [tL] at h;have:(es.filter fun e=>decide (iY e.lord=V.str q))=es.filter fun y=>decide (y.lord=some q):=A2r fun y _=>A4d.mpr xU;rw [<- this];exact h
theorem SN {e p:Str}{a:Int}{es:List aN}:jr (cG e p a es)=kv (fun y=>if y.lord=some e then V.str p else iY y.lord) (es.filter fun y=>decide (y.n≠e)):=by
 unfold cG jr;rw [jy (g:=Du e p a) 0x10];refine gw fun y _=>?_
 show iY (if y.lord=some e then some p else y.lord)=_
 split <;> rfl
theorem Nj {es:List aN} (nd:(0x55).Nodup) {e p:Str}{a:Int} (h:ss.Perm (((jr es).filter fun x=>decide (x.2=.str e)).map jx)):jj (moved (jr es) ss p) 0x31=jr (cG e p a es):=by
 obtain ⟨h1,h2⟩:=oH nd (Kd h);rw [Ds ss h1,mG,SN];refine gw fun y hy=>?_;have:=h2 y (A0J.mp hy).1
 by_cases c:y.lord=some e
 ·rw [A0i c,A0i (this.mpr c)]
 ·rw [A0e c,A0e fun z=>c (this.mp z)]
theorem Nk {es:List aN} (nd:(0x55).Nodup) {e p:Str}{a:Int} (h:ss.Perm ((((es.filter fun y=>decide (y.n≠e))).filter fun y=>decide (y.lord=some e)).map (·.n))):moved (jr (es.filter fun y=>decide (y.n≠e))) ss p=jr (cG e p a es):=by
 have nd2:(nms (es.filter fun y=>decide (y.n≠e))).Nodup:=(A4u.map _).nodup nd;obtain ⟨h1,h2⟩:=oH nd2 h;rw [Ds ss h1,SN];refine gw fun y hy=>?_;have:=h2 y hy
 by_cases c:y.lord=some e
 ·rw [A0i c,A0i (this.mpr c)]
 ·rw [A0e c,A0e fun z=>c (this.mp z)]
theorem pI {f:aN->V}{es:List aN}{e p:Str}{a:Int} (hf:∀ y,f (Du e p a y)=f y):jj 0x52 0x31=kv f (cG e p a es):=by
 rw [mG];unfold cG;rw [jy (g:=Du e p a) 0x10];exact gw fun y _=>(hf y).symm
theorem SQ {es:List aN} (nd:(0x55).Nodup) {e0 y0:aN}{p:Str} (hp:y0∈es) (hn:y0.n=p):jj (putK (lY es) (.inr p) (.int (y0.own+e0.own))) (.inr e0.n)=lY 0x1F:=by
 rw [uW (by rw [<- hn];exact A0j.mpr ⟨y0,hp,rfl⟩),mG];unfold cG lY;rw [jy (g:=Du e0.n p e0.own) 0x10];refine gw fun y hy=>?_
 show (if y.n=p then V.int (y0.own+e0.own) else V.int y.own)=V.int (if y.n=p then y.own+e0.own else y.own)
 split
 ·rename_i c
  rw [jh nd (A0J.mp hy).1 hp (c.trans hn.symm)]
 ·rfl
theorem Np {es:List aN} (nd:(0x55).Nodup) {e0 y0:aN}{p:Str} (hp:y0∈es) (hn:y0.n=p) (hne:p≠e0.n):putK (lY 0xE) (.inr p) (.int (y0.own+e0.own))=lY 0x1F:=by
 rw [uW (by rw [<- hn] at hne ⊢;exact A0j.mpr ⟨y0,A0J.mpr ⟨hp,A0k hne⟩,rfl⟩)];unfold cG lY;rw [jy (g:=Du e0.n p e0.own) 0x10];refine gw fun y hy=>?_
 show (if y.n=p then V.int (y0.own+e0.own) else V.int y.own)=V.int (if y.n=p then y.own+e0.own else y.own)
 split
 ·rename_i c
  rw [jh nd (A0J.mp hy).1 hp (c.trans hn.symm)]
 ·rfl
end M
namespace L2
open PySem PySem.Spec PyProof.Rows PySem.W
theorem Ke:∀ (a b:List Nat),ltCps a b=true↔a<b
 | [],[]=>by simp [ltCps]
 | [],_::_=>by simp [ltCps]
 | _::_,[]=>by simp [ltCps]
 | x::xs,y::ys=>by
  have ih:=Ke xs ys;unfold ltCps;rw [List.cons_lt_cons_iff]
  by_cases h:x<y
  ·simp [h]
  ·by_cases h2:x=y
   ·subst h2;simp [ih]
   ·simp [h,h2]
theorem xY:∀ (l:List Str),sortedS l=true->l.Pairwise fun a b=>a.cps.toList<=b.cps.toList
 | [],_=>.nil
 | x::r,h=>by
  have key:∀ (r:List Str) (p:Str),risingS p r=true->(∀ y∈r,p.cps.toList<=y.cps.toList)/\r.Pairwise fun a b=>a.cps.toList<=b.cps.toList:=by
   intro r
   induction r with
   | nil=>intro p _;exact ⟨fun y hy=>(by cases hy),.nil⟩
   | cons x r ih =>
    intro p hp;simp only [risingS,A0Y,Bool.not_eq_true'] at hp;obtain ⟨h1,h2⟩:=ih x hp.2;have h0:p.cps.toList<=x.cps.toList:=by
     refine List.not_lt.mp fun c=>?_;rw [(Ke _ _).mpr c] at hp;exact absurd hp.1 0x5
    refine ⟨fun y hy=>?_,.cons (fun y hy=>h1 y hy) h2⟩;rcases A0d.mp hy with q | q
    ·rw [q];exact h0
    ·exact List.le_trans h0 (h1 y q)
  obtain ⟨h1,h2⟩:=key r x h;exact .cons (fun y hy=>h1 y hy) h2
theorem mH {m:List Str} (p:l.Perm m) (h1:sortedS l=true) (h2:sortedS m=true):l=m :=
 A3I (fun a b _ _ x y=>pY (List.le_antisymm x y)) (xY l h1) (xY m h2) p
theorem GR {m:List Str} (p:l.Perm m) (h1:l.Pairwise fun x y=>x.cps.toList<y.cps.toList) (h2:m.Pairwise fun x y=>x.cps.toList<y.cps.toList):l=m :=
 A3I (le:=fun x y=>x.cps.toList<=y.cps.toList) (fun a b _ _ x y=>pY (List.le_antisymm x y)) (h1.imp fun q=>List.le_of_lt q) (h2.imp fun q=>List.le_of_lt q) p
theorem Kf:∀ {xs:List V}{us:List Value},xs.length=us.length->(∀ (i:Nat) (x:V) (u:Value),xs[i]?=some x->us[i]?=some u->RelV x u)->Vals xs us
 | [],[],_,_=>.nil
 | [],_::_,h,_=>by simp at h
 | _::_,[],h,_=>by simp at h
 | x::xs,u::us,h,hr=>.cons (hr 0 x u rfl rfl) (Kf (by simpa using h) fun i a b h1 h2=>hr (i+1) a b (by simpa using h1) (by simpa using h2))
inductive T3 (xs:List V) (H:Hp) (Q:VK):Prop
 | mk (a:Addr) (kvs:List (Prod L2.Key V)) (_:xs=[.ref a]) (_:H a=some 0x15) (_:∀ p,H p=none->Q 0x48 (upd H p (.lst (kvs.map fun kv=>kV kv.1)))):T3 xs H Q
theorem GX (hin:X.A.handled=none):iy X (.type "list") T3:=by
 intro pins s σ H xs us Q I r h;obtain ⟨a,kvs,rfl,ha,q⟩:=h;obtain ⟨u,rfl,ru⟩:=vals1 r;cases ru;obtain ⟨z,hs,vs,ep,rel,dat⟩:=RN I ha;have hlen:vs.length=kvs.length:=rel.length.symm;refine kdl_call (kdl_dict (knd:=bQ X.prog X.w) (kvs:=vs) (ep:=ep) hs) hin dat 0x2 fun h' tk acc c hk hS hI=>?_;have hv:Vals (kvs.map fun kv=>kV kv.1) acc.toList:=by
  refine Kf (by have h1:=hI.1;have h2:acc.toList.length=acc.size:=A0L;rw [bV];lia) fun i x u h1 h2=>?_;rw [jW] at h1;obtain ⟨kv,hkv,rfl⟩:=A0v.mp h1;obtain ⟨u',hu',_⟩:=rel.at hkv;obtain ⟨k,y,e1,e2⟩:=hI.2 i u (by rw [<- A3n];exact h2);rw [hu'] at e1;cases e1;exact QD e2
 exact ⟨.ref s.heap.objs.size,_,I.laid (o:=.lst (kvs.map fun kv=>kV kv.1)) (t':=tk) hk 0x2D ⟨by rw [bV];exact z,acc.toList,c,hv,hS⟩,rfl,q _ 0x3D⟩
theorem YQ {o:Obj}{e:Str} (h:H a=some 0x40) (hv:bH kvs 0x31=some v):dW H a (V.str e) (some v):=.inl ⟨kvs,.inr e,.inr ⟨_,h⟩,rfl,hv.symm⟩
end L2
namespace M
open PySem L2 PyProof.Rows
theorem rH {f:aN->V}{es:List aN}{k:Nat}{Q:VK} (p:aN->Bool) (ha:H a=some (.dK 0x52)) (hl:es.length<=1000)
  (hd:∀ (o:Obj) (R:VK),R 0x3C (upd H a (.gH o (.dK 0x52)))->td σ (upd H a (.gH o (.dK 0x52))) R)
  (turn:∀ (o:Obj) (y:aN) (Hz:Hp) (A:V->Hp->Prop) (B:Hp->Prop),y∈es->Same (upd H a (.gH o (.dK 0x52))) Hz->(if p y=true then A (V.str y.n) Hz else B Hz)->g (V.str y.n) 0x84 Hz fun σ2 H4=>Kp 0x84 σ2/\tt σ2 H4 fun b H5=>if b=true then te σ2 H5 A else B H5)
  (done:∀ D Hz,Same H Hz->H D=none->Hz D=some (.lst (((es.filter p).map (·.n)).map V.str))->Q 0x60 Hz):a0c (Jm k ix (YD td) g tt te) σ H Q:=by
 refine ⟨a,_,ha,fun o=>hd o _ ⟨a,o,kv f es,rfl,ao,fun D hD=>?_⟩⟩;have nD:a≠D:=au (show (upd H a (.gH o (.dK 0x52))) a=some (.gH o (.dK 0x52)) from ao) hD
 have qR:H D=none:=by rw [ak (A0m nD)] at hD;exact hD
 refine xJ (o:=o) (fun i ys Hz=>ys=(((es.take i).filter p).map (·.n)).map V.str/\Same (upd H a (.gH o (.dK 0x52))) Hz/\Hz D=some 0x78) (fun i ys Hz h=>h.2.1 _ _ ao) ⟨rfl,aM hD _,ao⟩ (fun i ys Hz h=>h.2.2) ?_ ?_
 ·rintro i ys Hz kx hkv ⟨rfl,sz,jU⟩;rw [jW] at hkv;obtain ⟨y,hy,rfl⟩:=A0v.mp hkv;refine turn o y Hz _ _ (vY hy) sz ?_;have step:(((es.take (i+1)).filter p).map (·.n)).map V.str=(((es.take i).filter p).map (·.n)).map V.str++(if p y=true then [V.str y.n] else []):=by
   rw [A1f,hy,A3h,jw,jw]
   congr 1
   cases e:p y <;> simp [e]
  by_cases c:p y=true
  ·rw [A0i c] at step ⊢;refine ⟨jU,?_,step.symm,bK sz hD,ao⟩;rw [bV,bV];have:=A0K p (es.take i);rw [A0G] at this;exact bR 0x2
  ·rw [A0e c] at step ⊢;refine ⟨by rw [step,A1u],sz,jU⟩
 ·rintro ys Hz ⟨rfl,sz,jU⟩;rw [iJ,A1d] at jU;refine ⟨sz _ _ ao,?_⟩;exact done D _ (lR ha sz) qR (by rw [ak (A0m nD)];exact jU)
theorem lV {xs:List Str}{k:Nat}{Q:VK} (p:Str->Bool) (e:Str->V) (hs:bO K H1 a (xs.map V.str)) (hD:H1 D=none) (hl:xs.length<=1000)
  (turn:∀ (x:Str) (Hz:Hp) (A:V->Hp->Prop) (B:Hp->Prop),x∈xs->Same H1 Hz->(∀ H',Same Hz H'->if p x=true then A (e x) H' else B H')->g (V.str x) 0x84 Hz fun σ2 H4=>Kp 0x84 σ2/\tt σ2 H4 fun b H5=>if b=true then te σ2 H5 A else B H5)
  (done:∀ Hz,Same H1 Hz->Hz D=some (.lst ((xs.filter p).map e))->Q 0x60 Hz):pB (Zk K a) D σ k ix g tt te Q H1:=by
 refine wW (xs:=xs.map V.str) (fun i ys Hz=>ys=((xs.take i).filter p).map e/\Same H1 Hz/\Hz D=some 0x78) (fun i ys Hz h=>h.2.1.seq hs) ⟨rfl,aM hD _,ao⟩ (fun i ys Hz h=>h.2.2) ?_ ?_
 ·rintro i ys Hz v hv ⟨rfl,sz,jU⟩;rw [jW] at hv;obtain ⟨x,hx,rfl⟩:=A0v.mp hv;refine turn x Hz _ _ (vY hx) sz fun H' s'=>?_;have step:((xs.take (i+1)).filter p).map e=((xs.take i).filter p).map e++(if p x=true then [e x] else []):=by
   rw [A1f,hx,A3h,jw]
   congr 1
   cases c:p x <;> simp [c]
  by_cases c:p x=true
  ·rw [A0i c] at step ⊢;refine ⟨s' _ _ jU,?_,step.symm,bK (sz.trans s') hD,ao⟩;rw [bV];have:=A0K p (xs.take i);rw [A0G] at this;exact bR 0x2
  ·rw [A0e c] at step ⊢;exact ⟨by rw [step,A1u],sz.trans s',s' _ _ jU⟩
 ·rintro ys Hz ⟨rfl,sz,jU⟩;rw [bV,A1d] at jU;exact done Hz sz jU
structure Ad where
 x:Addr
 dx:Addr
 a1:Addr
 a2:Addr
 a3:Addr
 a4:Addr
 a5:Addr
 B:Addr
 l:Addr
 h:Addr
 o:Addr
 d:Addr
 kn:Addr
 dd:Addr
 he:Addr
 lg:Addr
 kvs:List 0x2C
 wd:Int
abbrev Bk (q:Ad) (H:Hp) (es:List aN) (ks:List Str):Prop:=eO H q.B q.l q.h q.o q.d q.kn q.dd q.kvs (jr es) (hoL es) (lY es) (xV es) ks
abbrev Ln (C:Addr) (q:Ad) (H:Hp) (es:List aN):Prop:=cg C H q.x q.dx q.a1 q.a2 q.a3 q.a4 q.a5 (jr es) (hoL es) (lY es) (Oq es) (Dr es)
inductive GZ (C:Addr) (vs:List V) (H:Hp) (Q:VK) (cD:XK):Prop
 | mk (q:Ad) (es:List aN) (_:vs=[.ref q.x]) (_:Ln C q H es) (_:es.length<64) (_:∀ (r:Addr) (ss:List Str) (H':Hp),Same H H'->H r=none->H' r=some 0x23->ss.Perm (lB 0x3A)->ss.Pairwise (fun x y=>x.cps.toList<y.cps.toList)->Q 0x71 H'):GZ C vs H Q cD
theorem a0z:aO A5S A5S (aH JQ):=0x0
def scF1:Scope:={ kind:=.function,names:=[0x79,("man",.local)],isGenerator:=false,isCoroutine:=false }
theorem csF1:fu A5S (aH JQ) scF1 ["man"] [] []:=0xB
theorem ndF1:((["man"]:List Str)++([]:List Str)).Nodup:=by decide +kernel
theorem WR (T:dX K C) (ms:mg "sorted"=none) (F:fK K "folk" "Land.folk" JQ f fd):aJ P w K mg base bM 1 f fd A5S (GZ C):=by
 refine F.ok a0z 0x1 0x3;obtain ⟨q,es,rfl,L,hl,k⟩:=h;refine ⟨_,aG (aV (bG (qw hr.hd) rfl ms fV (aj (pF (S7 rfl csF1 (WM 0xD) (fun s H fp C'=>⟨bC (i:=0) ndF1 rfl 0x7,mj,pv 0⟩))) aC))),?_⟩;have nx:=aZ L.o L.l2 0x1C;refine ⟨q.a2,_,L.l2,fun o=>⟨_,rfl,q.x,C,q.dx,_,_,rfl,by rw [ak nx];exact L.o,T.cl,T.n2,rfl,q.a2,o,_,rfl,ao,fun D hD=>?_⟩⟩;have nD:q.a2≠D:=au (show (upd H q.a2 (.gH o (.dK (hoL es)))) q.a2=some (.gH o (.dK (hoL es))) from ao) hD
 have qR:H D=none:=by rw [ak (A0m nD)] at hD;exact hD
 refine GQ (fun i zs Hz=>zs=lB ((es.take i).map (·.man))/\Same (upd H q.a2 (.gH o (.dK (hoL es)))) Hz/\Hz D=some (jo P w D zs)) (fun i zs Hz h=>h.2.1 _ _ ao) ⟨rfl,aM hD _,ao⟩ (fun i zs Hz h=>h.2.2) ?_ ?_
 ·rintro i zs Hz kx hkv ⟨rfl,sz,jU⟩;rw [jW] at hkv;obtain ⟨y,hy,rfl⟩:=A0v.mp hkv;refine ⟨Kp.set rfl 0x69,jN ⟨_,rfl,y.man,rfl,jU,?_,?_,bK sz hD,ao⟩⟩
  ·have:=qx ((es.take i).map (·.man));rw [bV,A0G] at this;lia
  ·rw [A1f,hy,jw];exact (xT _ _).symm
 ·rintro zs Hz ⟨rfl,sz,jU⟩;rw [iJ,A1d] at jU;have s2:=lR L.l2 sz;refine ⟨sz _ _ ao,D,_,rfl,by rw [ak (A0m nD)];exact jU,?_,fun l ys hl0 hp hs=>?_⟩
  ·have:=qx 0x3A;rw [bV] at this;lia
  ·exact k l ys _ (bK s2 (s2.free hl0)) (s2.free hl0) ao hp hs
abbrev WT:Stmt:=top 53
abbrev a0A:Stmt:=top 54
abbrev WW:Stmt:=top 55
abbrev a0B:Stmt:=top 72
def Ap (q:Ad):Prop:=[q.a1,q.a2,q.a3,q.a4,q.a5,q.B,q.l,q.h,q.o,q.d,q.kn,q.dd,q.he,q.lg].Nodup
theorem bW {l:List Addr} (h:l.Nodup) (i j:Nat)  (ha:l[i]?=some a) (hb:l[j]?=some b) (hij:i≠j):a≠b:=by
 obtain ⟨h1,e1⟩:=A0l.mp ha;obtain ⟨h2,e2⟩:=A0l.mp hb;intro q;exact hij ((List.getElem_inj h).mp (by rw [e1,e2,q]))
inductive Dw (vs:List V) (H:Hp) (Q:VK) (cD:XK):Prop
 | mk (q:Ad) (es:List aN) (ks:List Str) (e:Str) (_:vs=[.ref q.B,.str e]) (_:Ap q) (_:Bk q H es ks) (_:(0x55).Nodup) (_:es.length<64) (_:∀ (r:Addr) (ss:List Str) (H':Hp),Same H H'->H r=none->H' r=some 0x23->ss.Perm ((es.filter fun y=>decide (y.lord=some e)).map (·.n))->sortedS ss=true->Q 0x71 H'):Dw vs H Q cD
inductive Kg (vs:List V) (H:Hp) (Q:VK) (cD:XK):Prop
 | mk (q:Ad) (es:List aN) (ks:List Str) (m:Str) (_:vs=[.ref q.B,.str m]) (_:Ap q) (_:Bk q H es ks) (_:(0x55).Nodup) (_:es.length<64) (_:∀ (r:Addr) (ss:List Str) (H':Hp),Same H H'->H r=none->H' r=some 0x23->ss.Perm ((es.filter fun y=>decide (y.man=m)).map (·.n))->sortedS ss=true->Q 0x71 H'):Kg vs H Q cD
inductive T4 (vs:List V) (H:Hp) (Q:VK) (cD:XK):Prop
 | mk (q:Ad) (es:List aN) (ks:List Str) (e:Str) (l:List Str) (_:vs=[.ref q.B,.str e]) (_:Ap q) (_:Bk q H es ks) (_:WF es) (_:e∈nms es) (_:Ch (jr es) e l) (_:l.length<=1000) (_:∀ (r:Addr) (H':Hp),Same H H'->H r=none->H' r=some (.lst (l.map V.str))->Q 0x71 H'):T4 vs H Q cD
theorem Nq (o:Option Str) (e:Str):Pb (iY o) (V.str e)=true:=by cases o <;> rfl
theorem T5 {o:Option Str}{e:Str}:decide (iY o=V.str e)=decide (o=some e):=A4d.mpr xU
theorem eO.gl {q:Ad}{es:List aN} (b:Bk q H es ks):dW H q.B (V.str "lords") (some (.ref q.l)):=gZ b.b b.vl
theorem eO.gh {q:Ad}{es:List aN} (b:Bk q H es ks):dW H q.B (V.str "holders") (some (.ref q.h)):=gZ b.b b.vh
theorem eO.go {q:Ad}{es:List aN} (b:Bk q H es ks):dW H q.B (V.str "own") (some (.ref q.o)):=gZ b.b b.vo
theorem eO.gd {q:Ad}{es:List aN} (b:Bk q H es ks):dW H q.B (V.str "due") (some (.ref q.d)):=gZ b.b b.vd
theorem eO.gk {q:Ad}{es:List aN} (b:Bk q H es ks):dW H q.B (V.str "known") (some (.ref q.kn)):=gZ b.b b.vk
theorem eO.gx {q:Ad}{es:List aN} (b:Bk q H es ks):dW H q.B (V.str "dead") (some (.ref q.dd)):=gZ b.b b.vx
theorem WX {f:aN->V}{es:List aN}{e:aN} (h:H a=some (.dK 0x52)) (nd:(0x55).Nodup) (he:e∈es):dW H a (V.str e.n) (some (f e)):=gZ h (cX nd he)
theorem a2e:aO A5z A5z (aH WT):=0x0
def a2f:Scope:={ kind:=.function,names:=[0x79,("_law_one",.local),("_law_book_here",.free),("_law_estate",.free)],isGenerator:=false,isCoroutine:=false }
theorem a2g:fu A5z (aH WT) a2f ["_law_one"] A5z [0,1]:=0xB
theorem a2h:((["_law_one"]:List Str)++(A5z:List Str)).Nodup:=by decide +kernel
theorem a0C (ms:mg "sorted"=none) (F:fK K "_law_under" "_law_under" WT f fd):aJ P w K mg base bM 1 f fd A5z Dw:=by
 refine F.ok a2e 0x1 0x3;obtain ⟨q,es,ks,e,rfl,ap,bk,nd,hl,k⟩:=h;refine ⟨_,aG (aV (bG fQ rfl ms fV (aj (pF (gO rfl a2g (tD 0x1A) (fun s H fp C'=>⟨bC (i:=0) a2h rfl 0x7,kI (aQ dI (bf 0x17 0x68 0x32 0x4) 0x2B 0x61),pv 0⟩))) aC))),?_⟩;have nB:q.B≠q.l:=bW ap 5 6 rfl rfl 0x5;have gB:∀ {o:Obj}{Hz:Hp},Same (upd H q.l (.gH o (.dK (jr es)))) Hz->dW Hz q.B (V.str "lords") (some (.ref q.l)):=fun sz=>gZ (sz _ _ (by rw [ak nB];exact bk.b)) bk.vl;refine rH (fun y=>decide (y.lord=some e)) bk.l 0x2 (fun o R hR=>⟨_,rfl,q.B,_,rfl,gB 0x5C,hR⟩) (fun o y Hz A B hy sz hAB=>?_) (fun D Hz sz qR jU=>?_)
 ·refine ⟨Kp.set rfl 0x69,_,rfl,q.B,_,rfl,gB sz,_,rfl,q.l,_,rfl,YQ (sz _ _ ao) (cX nd hy),_,rfl,Nq _ _,_,rfl,?_⟩;rw [T5];refine iU 0x45 0x45
  ·rw [A0i c] at hAB;exact ⟨_,rfl,hAB⟩
  ·rw [A0e c] at hAB;exact hAB
 ·refine ⟨D,_,rfl,bO.of jU,?_,fun l ss hl0 hp hs=>?_⟩
  ·rw [bV];exact A1y (A0K _ _) hl
  ·exact k l ss _ (bK sz (sz.free hl0)) (sz.free hl0) ao hp hs
theorem a2i:aO A5J A5J (aH WW):=0x0
def a2j:Scope:={ kind:=.function,names:=[0x79,("_law_one",.local),("_law_book_here",.free),("_law_man",.free)],isGenerator:=false,isCoroutine:=false }
theorem a2k:fu A5J (aH WW) a2j ["_law_one"] A5J [0,1]:=0xB
theorem a2l:((["_law_one"]:List Str)++(A5J:List Str)).Nodup:=by decide +kernel
theorem a0D (ms:mg "sorted"=none) (F:fK K "_law_held" "_law_held" WW f fd):aJ P w K mg base bM 1 f fd A5J Kg:=by
 refine F.ok a2i 0x1 0x3;obtain ⟨q,es,ks,m,rfl,ap,bk,nd,hl,k⟩:=h;refine ⟨_,aG (aV (bG fQ rfl ms fV (aj (pF (gO rfl a2k (tD 0x1A) (fun s H fp C'=>⟨bC (i:=0) a2l rfl 0x7,kI (aQ dI (bf 0x17 0x68 0x32 0x4) 0x2B 0x61),pv 0⟩))) aC))),?_⟩;have nB:q.B≠q.h:=bW ap 5 7 rfl rfl 0x5;have gB:∀ {o:Obj}{Hz:Hp},Same (upd H q.h (.gH o (.dK (hoL es)))) Hz->dW Hz q.B (V.str "holders") (some (.ref q.h)):=fun sz=>gZ (sz _ _ (by rw [ak nB];exact bk.b)) bk.vh;refine rH (fun y=>decide (y.man=m)) bk.h 0x2 (fun o R hR=>⟨_,rfl,q.B,_,rfl,gB 0x5C,hR⟩) (fun o y Hz A B hy sz hAB=>?_) (fun D Hz sz qR jU=>?_)
 ·refine ⟨Kp.set rfl 0x69,_,rfl,q.B,_,rfl,gB sz,_,rfl,q.h,_,rfl,YQ (sz _ _ ao) (cX nd hy),_,rfl,rfl,_,rfl,?_⟩;rw [gC];refine iU 0x45 0x45
  ·rw [A0i c] at hAB;exact ⟨_,rfl,hAB⟩
  ·rw [A0e c] at hAB;exact hAB
 ·refine ⟨D,_,rfl,bO.of jU,?_,fun l ss hl0 hp hs=>?_⟩
  ·rw [bV];exact A1y (A0K _ _) hl
  ·exact k l ss _ (bK sz (sz.free hl0)) (sz.free hl0) ao hp hs
theorem Dz:∀ ss:List Str,dg H (ss.map V.str) (ss.map PyData.str)
 | []=>.nil
 | x::r=>.cons (.str x) (Dz r)
theorem xZ:∀ {ss:List Str},(∀ s∈ss,PyData.strOk s=true)->PyData.canLayAll0 (ss.map PyData.str)=true
 | [],_=>by simp [PyData.canLayAll0]
 | x::r,h=>by simp [PyData.canLayAll0,PyData.canLay0,h x A0g,xZ fun s hs=>h s (iT _ hs)]
theorem DG (h:∀ s∈ss,PyData.strOk s=true):(PyData.list (ss.map .str)).canLay0=true:=by
 have:=xZ h
 simpa [PyData.canLay0] using this
theorem yc:∀ ss:List Str,PyData.depthAll (ss.map PyData.str)<=2
 | []=>by simp [PyData.depthAll]
 | x::r=>by
  have:=yc r;simp [PyData.depthAll,PyData.depth];lia
theorem T6 (ss:List Str):(PyData.list (ss.map .str)).depth<=8:=by
 have:=yc ss;simp [PyData.depth];lia
theorem strs_nil:∀ ss:List Str,PyData.eqv (.list (ss.map .str)) (.list [])=decide (ss=[])
 | []=>by simp [PyData.eqv,PyData.eqvAll]
 | x::r=>by simp [PyData.eqv,PyData.eqvAll]
theorem T7 (x:V) (xs:List V):gK (x::xs) (some 1) none=xs:=by
 unfold gK;have e1:HT.eN (x::xs).length 0 (some 1)=1:=by
  unfold HT.eN;simp
 have e2:HT.eN (x::xs).length (x::xs).length none=xs.length+1:=rfl;rw [e1,e2];simp
theorem YS:∀ (es:List aN) (n:Str),wt es n<=2 ^ es.length
 | [],_=>A0X _
 | x::r,n=>by
  unfold wt;rw [oX,Nat.pow_succ];have:=YS r n;have h2:0<2 ^ r.length:=Nat.pow_pos 0x5
  split <;> lia
theorem T8:∀ {es:List aN}{n:Str},n∈nms es->1<=wt es n
 | x::r,n,h=>by
  unfold wt;have h2:0<2 ^ r.length:=Nat.pow_pos 0x5
  split
  ·lia
  ·rename_i c
   rcases A0d.mp h with q | q
   ·exact absurd q.symm c
   ·exact T8 q
theorem Hf {es:List aN}:∀ {ss:List Str},(∀ s∈ss,s∈nms es)->ss.length<=(ss.map (wt es)).sum
 | [],_=>A0f _
 | x::r,h=>by
  have h1:=T8 (h x A0g);have h2:=Hf (es:=es) (ss:=r) fun s hs=>h s (iT _ hs);rw [oX,A0h,A0H];lia
theorem DK:aO ["_law_book_here", "_law_estate", "_law_found", "_law_ahead_here"] A5z (aH a0A):=0x0
inductive a0E (vs:List V) (H:Hp) (Q:VK) (cD:XK):Prop
 | mk (q:Ad) (es:List aN) (ks:List Str) (e:aN) (_:vs=[.ref q.B,.str e.n]) (_:Ap q) (_:Bk q H es ks) (_:WF es) (_:e∈es) (_:es.length<=18) (_:∀ H':Hp,Same H H'->Q (.int e.br) H'):a0E vs H Q cD
theorem a0F (F:fK K "_law_breadth" "_law_breadth" a0A f fd)  (G1:aJ P w K mg base bM 1 g1 d1 A5z Dw) (M1:Ms K mg "_law_under" g1 d1 A5z):aJ P w K mg base bM 2 f fd A5z a0E:=by
 refine F.ok DK 0x1 0x3;obtain ⟨q,es,ks,e,rfl,ap,bk,W,he,hl,k⟩:=h;refine ⟨_,aq (aR (i:=2) DK.nd rfl 0x7 (bf 0x17 0x1A 0xF 0x4))
  (aq (aR (i:=3) DK.nd rfl 0x7 (bF G1 hr rfl M1.m M1.k M1.b .nil aX 0x89))
  (aq (lG A0U (aQ (Qt hr.units) 0x5D (dN aC) 0x61)
   (aq (aR (i:=2) DK.nd rfl 0x7 (aY cZ 0x2B (bf 0x17 0x1A (aP bD 0x5D aA 0x4) 0x4)))
   (aG (aR (i:=3) DK.nd rfl 0x7 (aY pA (fj jC 0x5D (cF aA) fY) (bF G1 hr rfl M1.m M1.k M1.b .nil aX (aj 0x32 (aj (aP bD 0x5D aA 0x4) aC))))))))
  (aG (aV 0x2B)))),?_⟩
 have hw:2 ^ es.length<=262144:=A0O (A3s 0x5 hl) 0x5;refine ⟨_,rfl,q.B,_,rfl,bk.go,_,rfl,q.o,_,rfl,WX bk.o W.nd he,?_⟩;refine ⟨_,rfl,_,rfl,q,es,ks,e.n,rfl,ap,bk,W.nd,by lia,fun t ss H1 s1 ht0 ht1 hp hs=>?_⟩;refine ⟨fun m σ Hx=>∃ (found:Int) (t:Addr) (ss:List Str),m=(ss.map (wt es)).sum/\σ=[some (.ref q.B),some (.str e.n),some (.int found),some 0x70]/\Same H Hx/\Hx t=some 0x23/\(∀ s∈ss,s∈nms es)/\found+(ss.map (Ni es)).sum=e.br/\(ss.map (wt es)).sum<=262144,⟨_,e.own,t,ss,rfl,rfl,s1,ht1,(oH W.nd hp).1,?_,?_⟩,?_⟩
 ·rw [xW W.nd hp];exact (W.br e he).symm
 ·have:=uZ W he hp;have h2:=YS es e.n;lia
 rintro m σ Hx ⟨found,t,ss,rfl,rfl,sx,tx,hm,hf,hb⟩;refine ⟨_,rfl,small 0xA,fun z hz=>?_⟩;have sz:=aM hz 0x75;refine ⟨_,_,.lst (sz _ _ tx) (Dz ss),.lst ao .nil,DG (fun s hs=>by obtain ⟨y,hy,rfl⟩:=eZ (hm s hs);exact W.ok y hy),DG (ss:=[]) (fun _ h=>nomatch h),T6 ss,_,rfl,?_⟩
 rw [strs_nil];cases ss with
 | nil =>
  refine cu ⟨_,rfl,?_⟩;have:found=e.br:=by simpa using hf
  rw [this];exact k _ (sx.trans sz)
 | cons x r =>
  refine dU ?_;obtain ⟨y,hy,rfl⟩:=eZ (hm x A0g);have sxz:=sx.trans sz;have bz:=bk.same sxz;have tz:=sz _ _ tx;rw [A0h,A0H] at hf hb;have lr:=Hf (es:=es) (ss:=r) fun s hs=>hm s (iT _ hs);refine ⟨fun σ' H'=>∃ (found:Int) (t:Addr) (ss:List Str),(ss.map (wt es)).sum<wt es y.n+(r.map (wt es)).sum/\σ'=[some (.ref q.B),some (.str e.n),some (.int found),some 0x70]/\Same H H'/\H' t=some 0x23/\(∀ s∈ss,s∈nms es)/\found+(ss.map (Ni es)).sum=e.br/\(ss.map (wt es)).sum<=262144,fun σ' H' ⟨fo,t',ss',q1,q2⟩=>⟨_,by rw [A0h,A0H];exact q1,fo,t',ss',rfl,q2⟩,?_⟩;refine ⟨_,rfl,_,rfl,q.B,_,rfl,bz.go,_,rfl,t,_,_,_,rfl,rfl,bO.of tz,aL (j:=0) rfl,q.o,_,rfl,WX bz.o W.nd hy,_,_,rfl,rfl,?_⟩;refine ⟨_,rfl,_,rfl,t,_,rfl,bO.of tz,fun c hc=>?_⟩;rw [A0h,T7];have sc:=aM hc (.lst (r.map V.str));have bc:=bz.same sc;refine ⟨_,rfl,_,rfl,t,_,_,_,rfl,rfl,bO.of (sc _ _ tz),aL (j:=0) rfl,q,es,ks,y.n,rfl,ap,bc,W.nd,by lia,fun u su H2 s2 hu0 hu1 hpu hsu=>?_⟩;have hum:=uZ W hy hpu;have hus:=xW W.nd hpu;have humm:=(oH W.nd hpu).1;have lu:=Hf humm;refine ⟨c,u,_,_,rfl,rfl,s2 _ _ ao,hu1,?_,fun v hv=>?_⟩
  ·rw [bV,bV];exact small 0x2
  have e2:r.map V.str++su.map V.str=(r++su).map V.str:=by rw [jw]
  rw [e2];refine ⟨_,v,r++su,?_,rfl,bK ((sxz.trans sc).trans s2) (((sxz.trans sc).trans s2).free hv),ao,fun s hs=>?_,?_,?_⟩
  ·rw [jw,A3M];lia
  ·rcases A0x.mp hs with z | z
   ·exact hm s (iT _ z)
   ·exact humm s z
  ·rw [jw,A3M,hus];have b1:=Ss W.nd hy;have b2:=W.br y hy;rw [b1] at hf;lia
  ·rw [jw,A3M];lia
theorem Kh {e:Str} (h:Ch lo e l):∃ r,l=e::r:=by cases h <;> exact ⟨_,rfl⟩
theorem YT:aO ["_law_book_here", "_law_estate", "_law_found"] A5z (aH a0B):=0x0
theorem tQ (l0:List Str) (y:Str):wM ((l0++[y]).map V.str) (-1)=some (V.str y):=by
 rw [jw];exact Ca _ _
theorem a0G (F:fK K "_law_chain" "_law_chain" a0B f fd):aJ P w K mg base bM 1 f fd A5z T4:=by
 refine F.ok YT 0x1 0x3;obtain ⟨q,es,ks,e,l,rfl,ap,bk,W,he,hc,hl,k⟩:=h;refine ⟨_,aq (aR (i:=2) YT.nd rfl 0x7 (dN 0x38))
  (aq (lG A0U (aQ nF (aP bD 0x2B (uw pq aA) 0x4) aK 0x61)
   (aG (bL (iz A0z A0Q A0R cQ 0x2B (aj (bf 0x17 0x1A (aP bD 0x2B (uw pq aA) 0x4) 0x4) aC)))))
  (aG (aV 0x2B))),?_⟩
 refine ⟨_,rfl,small 0xA,fun t ht=>?_⟩;have s1:=aM ht (.lst [V.str e]);obtain ⟨r0,hr0⟩:=Kh hc;refine ⟨fun m σ Hx=>∃ (pre:List Str) (cur:Str) (rest:List Str),m=rest.length/\l=pre++cur::rest/\Ch (jr es) cur (cur::rest)/\cur∈nms es/\σ=[some (.ref q.B),some (.str e),some 0x70]/\Same H Hx/\Hx t=some (.lst ((pre++[cur]).map V.str)),⟨_,[],e,r0,rfl,hr0,hr0 ▸ hc,he,rfl,s1,ao⟩,?_⟩;rintro m σ Hx ⟨pre,cur,rest,rfl,hle,hch,hcm,rfl,sx,tx⟩;have bx:=bk.same sx;obtain ⟨y,hy,rfl⟩:=eZ hcm;have hvy:=cX (f:=fun e=>iY e.lord) W.nd hy;refine ⟨_,rfl,_,rfl,t,_,_,_,rfl,rfl,bO.of tx,tQ pre y.n,rfl,_,rfl,?_⟩;rw [gC]
 by_cases c:y.n=""
 ·rw [A0k c];refine cu ⟨_,rfl,?_⟩;have:rest=[]:=by
   generalize hz:y.n::rest=z at hch;cases hch with
   | crown _=>injection hz
   | up hv _ =>
    rw [hvy,W.crown y hy c] at hv;cases hv
  rw [this] at hle;exact k t Hx sx ht (by rw [tx,hle])
 ·rw [A0p c];obtain ⟨p,hp1,hp2,_⟩:=W.lord y hy c;have g1:=WX bx.l W.nd hy;rw [hp1] at g1;have hrest:∃ r',rest=p::r'/\Ch (jr es) p (p::r'):=by
   generalize hz:y.n::rest=z at hch;cases hch with
   | crown hv =>
    rw [hvy,hp1] at hv;cases hv
   | up hv h2 =>
    rw [hvy,hp1] at hv;injection hv with hv;injection hv with hv;injection hz with _ hz;obtain ⟨r',hr'⟩:=Kh h2;rw [hz];rw [hr'] at h2 ⊢;rw [hv];exact ⟨r',rfl,h2⟩
  obtain ⟨r',rfl,hch2⟩:=hrest;have hlen:pre.length+(r'.length+2)=l.length:=by rw [hle];simp
  refine dU ⟨fun σ' H'=>∃ (pre:List Str) (cur:Str) (rest:List Str),rest.length<(p::r').length/\l=pre++cur::rest/\Ch (jr es) cur (cur::rest)/\cur∈nms es/\σ'=[some (.ref q.B),some (.str e),some 0x70]/\Same H H'/\H' t=some (.lst ((pre++[cur]).map V.str)),fun σ' H' ⟨a,b,c,q1,q2⟩=>⟨_,q1,a,b,c,rfl,q2⟩,?_⟩;refine ⟨_,rfl,.inl ⟨rfl,_,bO.of tx⟩,_,rfl,q.B,_,rfl,bx.gl,_,rfl,_,rfl,t,_,_,_,rfl,rfl,bO.of tx,tQ pre y.n,q.l,_,rfl,g1,t,_,_,rfl,rfl,tx,?_,?_⟩
  ·rw [bV,iw,A0r];exact bR 0x2
  ·refine ⟨pre++[y.n],p,r',by rw [oX];lia,by rw [hle];simp,hch2,hp2,rfl,bK sx ht,?_⟩;rw [ao,jw (l₂:=[p])];rfl
abbrev a0H:Stmt:=top 58
abbrev sNew:Stmt:=top 60
abbrev BQ (q:Ad) (H:Hp) (lo ho ow du:List 0x2C) (ks:List Str):Prop:=eO H q.B q.l q.h q.o q.d q.kn q.dd q.kvs lo ho ow du ks
section
variable {q:Ad}{l':List 0x2C}
theorem eO.ul (ap:Ap q) (b:BQ q H lo ho ow du ks):BQ q (upd H q.l (.dK l')) l' ho ow du ks :=
 ⟨by rw [ak (bW ap 5 6 rfl rfl 0x5)];exact b.b,b.vl,b.vh,b.vo,b.vd,b.vk,b.vx,ao,by rw [ak (bW ap 7 6 rfl rfl 0x5)];exact b.h,by rw [ak (bW ap 8 6 rfl rfl 0x5)];exact b.o,by rw [ak (bW ap 9 6 rfl rfl 0x5)];exact b.d,by rw [ak (bW ap 10 6 rfl rfl 0x5)];exact b.k,b.len⟩
theorem eO.uh (ap:Ap q) (b:BQ q H lo ho ow du ks):BQ q (upd H q.h (.dK l')) lo l' ow du ks :=
 ⟨by rw [ak (bW ap 5 7 rfl rfl 0x5)];exact b.b,b.vl,b.vh,b.vo,b.vd,b.vk,b.vx,by rw [ak (bW ap 6 7 rfl rfl 0x5)];exact b.l,ao,by rw [ak (bW ap 8 7 rfl rfl 0x5)];exact b.o,by rw [ak (bW ap 9 7 rfl rfl 0x5)];exact b.d,by rw [ak (bW ap 10 7 rfl rfl 0x5)];exact b.k,b.len⟩
theorem eO.uo (ap:Ap q) (b:BQ q H lo ho ow du ks):BQ q (upd H q.o (.dK l')) lo ho l' du ks :=
 ⟨by rw [ak (bW ap 5 8 rfl rfl 0x5)];exact b.b,b.vl,b.vh,b.vo,b.vd,b.vk,b.vx,by rw [ak (bW ap 6 8 rfl rfl 0x5)];exact b.l,by rw [ak (bW ap 7 8 rfl rfl 0x5)];exact b.h,ao,by rw [ak (bW ap 9 8 rfl rfl 0x5)];exact b.d,by rw [ak (bW ap 10 8 rfl rfl 0x5)];exact b.k,b.len⟩
theorem eO.ud (ap:Ap q) (b:BQ q H lo ho ow du ks):BQ q (upd H q.d (.dK l')) lo ho ow l' ks :=
 ⟨by rw [ak (bW ap 5 9 rfl rfl 0x5)];exact b.b,b.vl,b.vh,b.vo,b.vd,b.vk,b.vx,by rw [ak (bW ap 6 9 rfl rfl 0x5)];exact b.l,by rw [ak (bW ap 7 9 rfl rfl 0x5)];exact b.h,by rw [ak (bW ap 8 9 rfl rfl 0x5)];exact b.o,ao,by rw [ak (bW ap 10 9 rfl rfl 0x5)];exact b.k,b.len⟩
theorem eO.uk (ap:Ap q) (b:BQ q H lo ho ow du ks):BQ q (upd H q.kn (.lst (ks'.map V.str))) lo ho ow du ks' :=
 ⟨by rw [ak (bW ap 5 10 rfl rfl 0x5)];exact b.b,b.vl,b.vh,b.vo,b.vd,b.vk,b.vx,by rw [ak (bW ap 6 10 rfl rfl 0x5)];exact b.l,by rw [ak (bW ap 7 10 rfl rfl 0x5)];exact b.h,by rw [ak (bW ap 8 10 rfl rfl 0x5)];exact b.o,by rw [ak (bW ap 9 10 rfl rfl 0x5)];exact b.d,ao,b.len⟩
theorem eO.kl (b:BQ q H lo ho ow du ks):dW H q.B (V.str "lords") (some (.ref q.l)):=gZ b.b b.vl
theorem eO.kh (b:BQ q H lo ho ow du ks):dW H q.B (V.str "holders") (some (.ref q.h)):=gZ b.b b.vh
theorem eO.ko (b:BQ q H lo ho ow du ks):dW H q.B (V.str "own") (some (.ref q.o)):=gZ b.b b.vo
theorem eO.kd (b:BQ q H lo ho ow du ks):dW H q.B (V.str "due") (some (.ref q.d)):=gZ b.b b.vd
theorem eO.kk (b:BQ q H lo ho ow du ks):dW H q.B (V.str "known") (some (.ref q.kn)):=gZ b.b b.vk
end
def fM (q:Ad) (H H':Hp):Prop:=∀ c u,c≠q.l->c≠q.h->c≠q.o->c≠q.d->c≠q.kn->H c=some u->H' c=some u
theorem fM.trans {q:Ad} (a:fM q H H1) (b:fM q H1 H2):fM q H H2:=fun c u h1 h2 h3 h4 h5 e=>b c u h1 h2 h3 h4 h5 (a c u h1 h2 h3 h4 h5 e)
theorem fM.ul {q:Ad}:fM q H (upd H q.l o):=fun c u h1 h2 h3 h4 h5 e=>by rw [ak h1];exact e
theorem fM.uh {q:Ad}:fM q H (upd H q.h o):=fun c u h1 h2 h3 h4 h5 e=>by rw [ak h2];exact e
theorem fM.uo {q:Ad}:fM q H (upd H q.o o):=fun c u h1 h2 h3 h4 h5 e=>by rw [ak h3];exact e
theorem fM.ud {q:Ad}:fM q H (upd H q.d o):=fun c u h1 h2 h3 h4 h5 e=>by rw [ak h4];exact e
theorem fM.uk {q:Ad}:fM q H (upd H q.kn o):=fun c u h1 h2 h3 h4 h5 e=>by rw [ak h5];exact e
theorem fM.same {q:Ad} (s:Same H H'):fM q H H':=fun c u _ _ _ _ _ e=>s c u e
theorem mJ {q:Ad}{r:Addr} (b:BQ q H lo ho ow du ks) (o:fM q H H') (h:H r=some 0x35):H' r=some 0x35 :=
 o r _ (aZ h b.l 0x6) (aZ h b.h 0x6) (aZ h b.o 0x6) (aZ h b.d 0x6) (aZ h b.k 0x6) h
inductive T9 (vs:List V) (H:Hp) (Q:VK) (cD:XK):Prop
 | mk (q:Ad) (lo ho ow du:List 0x18) (ks:List Str) (r:Addr) (xs:List V) (e n man lord:Str) (due:Addr) (a own:Int) (_:vs=[.ref q.B,.ref r,.str lord,.ref due]) (_:Ap q) (_:BQ q H lo ho ow du ks) (_:H r=some 0x35) (_:xs[2]?=some (.str e)) (_:xs[3]?=some (.str n)) (_:xs[4]?=some (.str man)) (_:xs[5]?=some (.int a)) (_:bH (putK ow 0x29 (.int a)) 0x31=some (.int own)) (_:lo.length<=800) (_:ho.length<=800) (_:ow.length<=800) (_:du.length<=800) (_:ks.length<=800) (_:∀ H':Hp,BQ q H' (putK lo 0x29 (.str lord)) (putK ho 0x29 (.str man)) (putK (putK ow 0x29 (.int a)) 0x31 (.int (own - a))) (putK du 0x29 (.ref due)) (ks++[n])->fM q H H'->Q .non H'):T9 vs H Q cD
inductive a0I (vs:List V) (H:Hp) (Q:VK) (cD:XK):Prop
 | mk (q:Ad) (es:List aN) (ks:List Str) (e0:aN) (p:Str) (_:vs=[.ref q.B,.str e0.n]) (_:Ap q) (_:Bk q H es ks) (_:WF es) (_:e0∈es) (_:e0.n≠"") (_:e0.lord=some p) (_:es.length<64) (_:∀ H':Hp,Bk q H' 0x1F ks->fM q H H'->Q .non H'):a0I vs H Q cD
theorem a2m:aO A5N A5N (aH sNew):=0x0
theorem a0J (F:fK K "_law_new" "_law_new" sNew f fd):aJ P w K mg base bM 1 f fd A5N T9:=by
 refine F.ok a2m 0x1 0x3;obtain ⟨q,lo,ho,ow,du,ks,r,xs,e,n,man,lord,due,a,own,rfl,ap,bk,hx,x2,x3,x4,x5,hown,l1,l2,l3,l4,l5,k⟩:=h;refine ⟨_,aq (dR 0x17 0x1A 0x19 0x2B rfl)
  (aq (dR 0x17 0x1A 0x19 0x19 rfl)
  (aq (dR 0x17 0x1A 0x19 0x19 rfl)
  (aq (dR 0x17 0x1A 0x19 0x5D rfl)
  (aq (tu 0x17 0x1A 0x19 0x19 Pz (fun _ _ _=>rfl))
  (aG (bL (iz A0z A0Q A0R cQ 0x1A (aj 0x19 aC)))))))),?_⟩
 refine ⟨_,rfl,_,rfl,q.B,_,rfl,bk.kl,_,rfl,r,_,_,_,rfl,rfl,cj.of hx,aL (j:=3) x3,q.l,_,rfl,jc.k (k:=.inr n) bk.l (bR 0x2),?_⟩;have b1:=bk.ul (l':=putK lo 0x29 (.str lord)) ap;have o1:fM q H (upd H q.l (.dK (putK lo 0x29 (.str lord)))):=fM.ul;have hx1:=mJ bk o1 hx;generalize upd H q.l (.dK (putK lo 0x29 (.str lord)))=H1 at b1 o1 hx1 ⊢;refine ⟨_,rfl,r,_,_,_,rfl,rfl,cj.of hx1,aL (j:=4) x4,_,rfl,q.B,_,rfl,b1.kh,_,rfl,r,_,_,_,rfl,rfl,cj.of hx1,aL (j:=3) x3,q.h,_,rfl,jc.k (k:=.inr n) b1.h (bR 0x2),?_⟩;have b2:=b1.uh (l':=putK ho 0x29 (.str man)) ap;have o2:=o1.trans (fM.uh (H:=H1) (o:=.dK (putK ho 0x29 (.str man))));have hx2:=mJ bk o2 hx;generalize upd H1 q.h (.dK (putK ho 0x29 (.str man)))=H2 at b2 o2 hx2 ⊢;refine ⟨_,rfl,r,_,_,_,rfl,rfl,cj.of hx2,aL (j:=5) x5,_,rfl,q.B,_,rfl,b2.ko,_,rfl,r,_,_,_,rfl,rfl,cj.of hx2,aL (j:=3) x3,q.o,_,rfl,jc.k (k:=.inr n) b2.o (bR 0x2),?_⟩;have b3:=b2.uo (l':=putK ow 0x29 (.int a)) ap;have o3:=o2.trans (fM.uo (H:=H2) (o:=.dK (putK ow 0x29 (.int a))));have hx3:=mJ bk o3 hx;generalize upd H2 q.o (.dK (putK ow 0x29 (.int a)))=H3 at b3 o3 hx3 ⊢;refine ⟨_,rfl,_,rfl,q.B,_,rfl,b3.kd,_,rfl,r,_,_,_,rfl,rfl,cj.of hx3,aL (j:=3) x3,q.d,_,rfl,jc.k (k:=.inr n) b3.d (bR 0x2),?_⟩;have b4:=b3.ud (l':=putK du 0x29 (.ref due)) ap;have o4:=o3.trans (fM.ud (H:=H3) (o:=.dK (putK du 0x29 (.ref due))));have hx4:=mJ bk o4 hx;generalize upd H3 q.d (.dK (putK du 0x29 (.ref due)))=H4 at b4 o4 hx4 ⊢;have hl3:=fO ow 0x29 (.int a);refine ⟨_,rfl,q.B,_,rfl,b4.ko,_,rfl,r,_,_,_,rfl,rfl,cj.of hx4,aL (j:=2) x2,q.o,_,rfl,gZ b4.o hown,_,rfl,r,_,_,_,rfl,rfl,cj.of hx4,aL (j:=5) x5,_,_,rfl,rfl,_,jc.k (k:=.inr e) b4.o (bR 0x2),?_⟩;have b5:=b4.uo (l':=putK (putK ow 0x29 (.int a)) 0x31 (.int (own - a))) ap;have o5:=o4.trans (fM.uo (H:=H4) (o:=.dK (putK (putK ow 0x29 (.int a)) 0x31 (.int (own - a)))));have hx5:=mJ bk o5 hx;generalize upd H4 q.o (.dK (putK (putK ow 0x29 (.int a)) 0x31 (.int (own - a))))=H5 at b5 o5 hx5 ⊢;refine ⟨_,rfl,q.B,_,rfl,b5.kk,.inl ⟨rfl,_,bO.of b5.k⟩,_,rfl,r,_,_,_,rfl,rfl,cj.of hx5,aL (j:=3) x3,q.kn,_,_,rfl,rfl,b5.k,0x62,?_⟩;have e1:ks.map V.str++[V.str n]=(ks++[n]).map V.str:=by rw [jw];rfl
 rw [e1];exact k _ (b5.uk ap) (o5.trans fM.uk)
theorem Tc:aO ["_law_book_here", "_law_estate", "_law_lord", "_law_one"] A5z (aH a0H):=0x0
theorem DN (h:H a=none) (h2:H b=some o):a≠b:=fun q=>by rw [q,h2] at h;cases h
theorem isD (h:H a=some 0x15):IsD H a:=.inl ⟨kvs,.inl h⟩
theorem a2n (F:fK K "_law_fall" "_law_fall" a0H f fd)  (G1:aJ P w K mg base bM 1 g1 d1 A5z Dw) (M1:Ms K mg "_law_under" g1 d1 A5z):aJ P w K mg base bM 2 f fd A5z a0I:=by
 refine F.ok Tc 0x1 0x3;obtain ⟨q,es,ks,e0,p,rfl,ap,bk,W,he,hne,hp,hl,k⟩:=h;refine ⟨_,aq (aR (i:=2) Tc.nd rfl 0x7 (qd 0x1A 0xF ⟨rfl,rfl,rfl,rfl⟩))
  (aq (tu 0x17 0x1A 0x2B (qd 0x1A 0xF ⟨rfl,rfl,rfl,rfl⟩) Px (fun _ _ _=>rfl))
  (aq (bL (qd 0x1A 0xF ⟨rfl,rfl,rfl,rfl⟩))
  (aq (bL (qd 0x1A 0xF ⟨rfl,rfl,rfl,rfl⟩))
  (aG (gJ A0U rfl (eY (bF G1 hr rfl M1.m M1.k M1.b .nil aX 0x89)) (bC (i:=3) Tc.nd rfl 0x7) (aG (dR 0x17 0x1A 0x5D 0x2B rfl))))))),?_⟩
 obtain ⟨p',hp',hpm,hpn⟩:=W.lord e0 he hne;obtain rfl:p=p':=by rw [hp] at hp';injection hp'
 obtain ⟨y0,hy0,YW⟩:=eZ hpm;have v1:=cX (f:=fun e=>iY e.lord) W.nd he;rw [hp] at v1;refine ⟨_,rfl,q.B,_,rfl,bk.kl,q.l,rfl,isD bk.l,_,rfl,_,.inr e0.n,_,bk.l,rfl,v1,?_⟩;rw [mG];have b1:=eO.ul (l':=jr 0xE) ap bk;have o1:fM q H (upd H q.l (.dK (jr 0xE))):=fM.ul;generalize upd H q.l (.dK (jr 0xE))=H1 at b1 o1 ⊢;have gp:=WX b1.o W.nd hy0;rw [YW] at gp;refine ⟨_,rfl,q.B,_,rfl,b1.ko,_,rfl,q.o,_,rfl,gp,_,rfl,q.B,_,rfl,b1.ko,q.o,rfl,isD b1.o,_,rfl,_,.inr e0.n,_,b1.o,rfl,cX W.nd he,?_⟩;rw [mG];have b2:=b1.uo (l':=lY 0xE) ap;have o2:=o1.trans (fM.uo (H:=H1) (o:=.dK (lY 0xE)));generalize upd H1 q.o (.dK (lY 0xE))=H2 at b2 o2 ⊢;have fl:(0xE).length<=es.length:=A0K _ _;refine ⟨_,_,rfl,rfl,_,jc.k (k:=.inr p) b2.o (by rw [iJ];exact bR 0x2),?_⟩;rw [Np W.nd hy0 YW hpn];have b3:=b2.uo (l':=lY 0x1F) ap;have o3:=o2.trans (fM.uo (H:=H2) (o:=.dK (lY 0x1F)));generalize upd H2 q.o (.dK (lY 0x1F))=H3 at b3 o3 ⊢;refine ⟨_,rfl,q.B,_,rfl,b3.kh,q.h,rfl,isD b3.h,_,rfl,_,.inr e0.n,_,b3.h,rfl,cX W.nd he,?_⟩;rw [mG];have b4:=b3.uh (l':=hoL 0xE) ap;have o4:=o3.trans (fM.uh (H:=H3) (o:=.dK (hoL 0xE)));generalize upd H3 q.h (.dK (hoL 0xE))=H4 at b4 o4 ⊢;refine ⟨_,rfl,q.B,_,rfl,b4.kd,q.d,rfl,isD b4.d,_,rfl,_,.inr e0.n,_,b4.d,rfl,cX W.nd he,?_⟩;rw [mG];have b5:=b4.ud (l':=xV 0xE) ap;have o5:=o4.trans (fM.ud (H:=H4) (o:=.dK (xV 0xE)));generalize upd H4 q.d (.dK (xV 0xE))=H5 at b5 o5 ⊢;have nd1:(nms 0xE).Nodup:=(A4u.map _).nodup W.nd;generalize hes1:0xE=es1 at b5 nd1 fl
 let g2:aN->aN:=fun y=>{ y with own:=if y.n=p then y.own+e0.own else y.own }
 have m1:jr 0x72=jr es1:=jy (g:=g2) fun _=>rfl;have m2:hoL 0x72=hoL es1:=jy (g:=g2) fun _=>rfl;have m3:lY 0x72=lY 0x1F:=by
  unfold cG;rw [hes1]
  show kv _ 0x72=kv _ (es1.map _)
  rw [jy (g:=g2) 0x10,jy (g:=Du e0.n p e0.own) 0x10];rfl
 have m4:xV 0x72=xV es1:=jy (g:=g2) fun _=>rfl;have b6:Bk q H5 0x72 ks:=by
  show BQ q H5 (jr 0x72) (hoL 0x72) (lY 0x72) (xV 0x72) ks
  rw [m1,m2,m3,m4];exact b5
 have nd2:(nms 0x72).Nodup:=by
  have:nms 0x72=nms es1:=by
   show (0x72).map _=_
   rw [A0S];rfl
  rw [this];exact nd1
 refine ⟨_,rfl,_,rfl,q,es1.map g2,ks,e0.n,rfl,ap,b6,nd2,by rw [bV];lia,fun r ss H6 s6 hr0 hr1 hpp hs=>?_⟩;have hpp1:ss.Perm ((es1.filter fun y=>decide (y.lord=some e0.n)).map (·.n)):=by
  rw [A3L,A0S] at hpp;exact hpp
 have hsl:ss.length<=es1.length:=by
  rw [hpp1.length_eq,bV];exact A0K _ _
 have b7:=b5.same s6;have o6:=o5.trans (fM.same (q:=q) s6);refine ⟨r,rfl,⟨_,bO.of hr1⟩,gq (K:=K) (a:=r) (xs:=ss.map V.str) (fun i σ Hx=>(∃ u3,σ=[some (.ref q.B),some (.str e0.n),some (.str p),u3])/\Hx r=some 0x23/\BQ q Hx (moved (jr es1) (ss.take i) p) (hoL es1) (lY 0x1F) (xV es1) ks/\fM q H Hx/\r≠q.l)
  ⟨⟨none,rfl⟩,hr1,b7,o6,DN hr0 b5.l⟩ (fun i σ Hx _ h=>bO.of h.2.1) ?_ ?_⟩
 ·rintro i v σ Hx hv ⟨⟨u3,rfl⟩,rx,bx,ox,nr⟩;rw [jW] at hv;obtain ⟨n,hn,rfl⟩:=A0v.mp hv;have hml:=xK (jr es1) p (ss.take i);rw [A0G,iJ] at hml;refine ⟨_,rfl,_,rfl,q.B,_,rfl,bx.kl,_,rfl,q.l,_,rfl,jc.k (k:=.inr n) bx.l (bR 0x2),?_⟩;have em:moved (jr es1) (ss.take (i+1)) p=putK (moved (jr es1) (ss.take i) p) 0x29 (.str p):=by rw [A1f,hn];exact uT _ _ _ _
  refine ⟨⟨_,rfl⟩,by rw [ak nr];exact rx,?_,ox.trans fM.ul,nr⟩;rw [em];exact bx.ul ap
 ·rintro σ Hx ⟨⟨u3,rfl⟩,rx,bx,ox,nr⟩;rw [bV,A1d] at bx;subst hes1;rw [Nk (a:=e0.own) W.nd hpp1] at bx;refine k Hx ?_ ox;have f1:hoL 0x1F=hoL 0xE:=jy (g:=Du e0.n p e0.own) fun _=>rfl;have f2:xV 0x1F=xV 0xE:=jy (g:=Du e0.n p e0.own) fun _=>rfl
  show BQ q Hx (jr 0x1F) (hoL 0x1F) (lY 0x1F) (xV 0x1F) ks
  rw [f1,f2];exact bx
inductive Rw
 | grant (e n m:Str) (a s:Int)
 | convey (e m:Str)
 | lW (e:Str)
def Rw.Tx:Rw->Prop
 | .grant e n m _ _=>PyData.strOk e=true/\PyData.strOk n=true/\PyData.strOk m=true
 | .convey e m=>PyData.strOk e=true/\PyData.strOk m=true
 | .lW e=>PyData.strOk e=true
def Rw.Ok (ls:List Str):Rw->Prop
 | .grant _ n _ a s=>n∈ls/\1<=a/\a<=9999/\0<=s/\s<=9999
 | .convey e _=>e≠""
 | .lW e=>e≠""
def gQ (es:List aN) (ks:List Str) (y:aN):Rw->Prop
 | .grant e n _ a _=>y∈es/\y.n=e/\n∉ks/\a<=y.own
 | .convey e _=>y∈es/\y.n=e
 | .lW e=>y∈es/\y.n=e
def oR (a:Int) (y:aN):aN:={ y with own:=y.own - a }
def n6 (m:Str) (y:aN):aN:={ y with man:=m }
def sV (e n m:Str) (a s:Int) (t b:Addr):aN:=⟨n,some e,m,a,a,(s,1),t,b⟩
def stp (y:aN) (es:List aN) (t1 t2 b1 b2:Addr):Rw->List aN
 | .grant _ n m a s=>mod y.n (oR a) es++[sV y.n n m a s t1 b1]
 | .convey _ m=>mod y.n (n6 m) es
 | .lW _=>cG y.n (y.lord.getD "") y.own es
def stK (ks:List Str):Rw->List Str
 | .grant _ n _ _ _=>ks++[n]
 | _=>ks
theorem tR {f:aN->V}{es:List aN}{y:aN}{g:aN->aN} (hg:∀ e,(g e).n=e.n) (nd:(0x55).Nodup) (hy:y∈es):kv f (mod y.n g es)=putK 0x52 (.inr y.n) (f (g y)):=by
 rw [Sg hg,uW (A0j.mpr ⟨y,hy,rfl⟩)];refine gw fun e he=>?_
 split
 ·rename_i c
  rw [jh nd he hy c]
 ·rfl
theorem iK {f:aN->V}{es:List aN}{n:Str}{g:aN->aN}{x:aN} (hg:∀ e,(g e).n=e.n) (h:x.n∉nms es):kv f (mod n g es++[x])=putK (kv f (mod n g es)) (.inr x.n) (f x):=by
 rw [a0u,zJ (by rw [qz hg];exact h)]
theorem Td {f:aN->V}{es:List aN}{e n:Str}{u:V} (he:e∈nms es) (hn:n∉nms es):putK (putK 0x52 0x29 v) 0x31 u=putK (putK 0x52 0x31 u) 0x29 v:=by
 have ne:n≠e:=fun z=>hn (z ▸ he);rw [zJ hn,uW he,zJ hn];unfold putK;have ha:((kv f es++[(Sum.inr n,v)]).any fun x=>decide (x.1=Sum.inr e))=true:=by
  rw [List.any_append,S8,A0k he];rfl
 rw [A0i ha,jw,A0S]
 congr 1
 ·refine A1K fun y _=>?_
  show (if (Sum.inr y.n:Key)=.inr e then (Sum.inr y.n,u) else (Sum.inr y.n,f y))=(Sum.inr y.n,if y.n=e then u else f y)
  by_cases q:y.n=e
  ·rw [A0i (key_eq.mpr q),A0i q]
  ·rw [A0e (fun z=>q (key_eq.mp z)),A0e q]
 ·show [if (Sum.inr n:Key)=.inr e then (Sum.inr n,u) else (Sum.inr n,v)]=_
  rw [A0e fun z=>ne (key_eq.mp z)]
structure Pu (es:List aN) (ks ls:List Str) (j:Nat) (wd:Int):Prop where
 W:WF es
 bd:∀ e∈es,Bd (10+5 * j) e.due
 kn:∀ e∈es,e.n≠""->e.n∈ks
 ln:es.length<=1+j
 lk:ks.length<=j
 nl:∀ e∈es,e.n=""\/e.n∈ls
 tot:(es.map (·.own)).sum=wd
structure Rel (C:Addr) (q:Ad) (H:Hp) (es:List aN) (ks:List Str) (ls:List Str) (j:Nat):Prop where
 ap:Ap q
 L:Ln C q H es
 B:Bk q H es ks
 W:WF es
 fr:∀ e∈es,jF H e.ta e.due.1 e.due.2/\jF H e.tb e.due.1 e.due.2/\Bd (10+5 * j) e.due
 kn:∀ e∈es,e.n≠""->e.n∈ks
 ln:es.length<=1+j
 lk:ks.length<=j
 nl:∀ e∈es,e.n=""\/e.n∈ls
 tot:(es.map (·.own)).sum=q.wd
theorem Rel.same {q:Ad}{es:List aN} (r:Rel C q H es ks ls j) (s:Same H H'):Rel C q H' es ks ls j :=
 ⟨r.ap,r.L.same s,r.B.same s,r.W,fun e he=>⟨s _ _ (r.fr e he).1,s _ _ (r.fr e he).2.1,(r.fr e he).2.2⟩,r.kn,r.ln,r.lk,r.nl,r.tot⟩
theorem Pu.new {es:List aN} (r:Pu es ks ls j wd) {n:Str} (h:n∉ks) (h0:n≠""):n∉nms es:=fun c=>by
 obtain ⟨y,hy,rfl⟩:=eZ c;exact h (r.kn y hy h0)
theorem a0K {es:List aN}{cO:Rw}{y:aN} (r:Pu es ks ls j wd) (hok:cO.Ok ls):∀ e∈stp y es t1 t2 b1 b2 cO,e.n=""\/e.n∈ls:=by
 intro z hz;cases cO with
 | grant e n m a s =>
  rcases A0x.mp hz with c | c
  ·obtain ⟨z0,h0,rfl⟩:=dB c;have e1:(if z0.n=y.n then oR a z0 else z0).n=z0.n:=by split <;> rfl
   rw [e1];exact r.nl z0 h0
  ·rw [A0c.mp c];exact .inr hok.1
 | convey e m =>
  obtain ⟨z0,h0,rfl⟩:=dB hz;have e1:(if z0.n=y.n then n6 m z0 else z0).n=z0.n:=by split <;> rfl
  rw [e1];exact r.nl z0 h0
 | lW e =>
  obtain ⟨z0,h0,rfl⟩:=A0j.mp hz;exact r.nl z0 (A0J.mp h0).1
theorem Kl {es:List aN}{y:aN}{g:aN->aN} (nd:(0x55).Nodup) (hy:y∈es):((mod y.n g es).map (·.own)).sum=(es.map (·.own)).sum - y.own+(g y).own:=by
 unfold mod;rw [A0S,tM (F:=(·.own)) (e0:=y) nd hy fun z _ ne=>?_]
 ·show _ - y.own+(if y.n=y.n then g y else y).own=_
  rw [A0i rfl]
 ·show (if z.n=y.n then g z else z).own=z.own
  rw [A0e ne]
theorem WY {es:List aN}{cO:Rw}{y:aN} (W:WF es) (hst:gQ es ks y cO) (hok:cO.Ok ls):((0x43).map (·.own)).sum=(es.map (·.own)).sum:=by
 cases cO with
 | grant e n m a s =>
  obtain ⟨hy,rfl,_⟩:=hst
  show ((mod y.n (oR a) es++[sV y.n n m a s t1 b1]).map (·.own)).sum=_
  rw [jw,A3M,Kl W.nd hy]
  show _ - y.own+(y.own - a)+(a+0)=_
  lia
 | convey e m =>
  obtain ⟨hy,rfl⟩:=hst
  show ((0x1D).map (·.own)).sum=_
  rw [Kl W.nd hy]
  show _ - y.own+y.own=_
  lia
 | lW e =>
  obtain ⟨hy,rfl⟩:=hst;obtain ⟨p,hp,hpm,hpn⟩:=W.lord y hy hok;obtain ⟨z,hz,hzn⟩:=eZ hpm;have ep:y.lord.getD ""=p:=by rw [hp];rfl
  show ((cG y.n (y.lord.getD "") y.own es).map (·.own)).sum=_
  rw [ep];unfold cG;rw [A0S,uX (F:=(·.own)∘Du y.n p y.own) W.nd hy];have e1:(es.map ((·.own)∘Du y.n p y.own)).sum=(es.map (·.own)).sum - z.own+(z.own+y.own):=by
   rw [tM (F:=(·.own)) (e0:=z) W.nd hz fun u _ ne=>?_]
   ·show _ - z.own+(if z.n=p then z.own+y.own else z.own)=_
    rw [A0i hzn]
   ·show (if u.n=p then u.own+y.own else u.own)=u.own
    rw [A0e (by rw [<- hzn];exact ne)]
  rw [e1]
  show _ - (if y.n=p then y.own+y.own else y.own)=_
  rw [A0e (A0m hpn)];lia
theorem a0L {es:List aN}{cO:Rw}{y:aN} (r:Pu es ks ls j wd) (hst:gQ es ks y cO) (hok:cO.Ok ls) (hls:∀ n∈ls,n≠""/\PyData.strOk n=true) :
  WF 0x43/\(∀ e∈stp y es t1 t2 b1 b2 cO,e.n≠""->e.n∈stK ks cO)/\(0x43).length<=1+(j+1)/\(stK ks cO).length<=j+1:=by
 have lk:=r.lk;have ln:=r.ln;have ml:∀ (n:Str) (g:aN->aN),(mod n g es).length=es.length:=fun n g=>bV _;cases cO with
 | grant e n m a s =>
  obtain ⟨hy,rfl,hn,ha⟩:=hst;obtain ⟨h1,h2,h3,h4,h5⟩:=hok;have hx:=r.new hn (hls n h1).1;refine ⟨WF.new r.W hy (x:=sV y.n n m a s t1 b1) 0x10 0x10 rfl 0x2 ha hx (hls n h1).2 rfl rfl (.inl ⟨rfl,rfl⟩),fun z hz hne=>?_,?_,?_⟩
  ·rcases A0x.mp hz with c | c
   ·obtain ⟨z0,h0,rfl⟩:=dB c;refine A1l _ ?_;have e1:(if z0.n=y.n then oR a z0 else z0).n=z0.n:=by split <;> rfl
    rw [e1] at hne ⊢;exact r.kn z0 h0 hne
   ·rw [A0c.mp c];exact A0y _ (A0c.mpr rfl)
  ·show (mod y.n (oR a) es++[sV y.n n m a s t1 b1]).length<=_
   rw [iw,ml,A0r];lia
  ·show (ks++[n]).length<=_
   rw [iw,A0r];lia
 | convey e m =>
  refine ⟨WF.mod r.W 0x10 0x10 0x10 fun _=>rfl,fun z hz hne=>?_,?_,?_⟩
  ·obtain ⟨z0,h0,rfl⟩:=dB hz;have e1:(if z0.n=y.n then n6 m z0 else z0).n=z0.n:=by split <;> rfl
   rw [e1] at hne ⊢;exact r.kn z0 h0 hne
  ·show (0x1D).length<=_
   rw [ml];lia
  ·show ks.length<=_
   lia
 | lW e =>
  obtain ⟨hy,rfl⟩:=hst;obtain ⟨p,hp,_,_⟩:=r.W.lord y hy hok;have ep:y.lord.getD ""=p:=by rw [hp];rfl
  refine ⟨?_,fun z hz hne=>?_,?_,?_⟩
  ·show WF (cG y.n (y.lord.getD "") y.own es)
   rw [ep];exact WF.fall r.W hy hok hp
  ·obtain ⟨z0,h0,rfl⟩:=A0j.mp hz;exact r.kn z0 (A0J.mp h0).1 hne
  ·show (cG y.n (y.lord.getD "") y.own es).length<=_
   unfold cG;rw [bV];have:=A0K (fun x=>decide (x.n≠y.n)) es;lia
  ·show ks.length<=_
   lia
def Nr (q:Ad) (H H':Hp):Prop:=∀ c u,c≠q.a1->c≠q.a2->c≠q.a3->c≠q.a4->c≠q.a5->H c=some u->H' c=some u
def FrN (y:aN) (t1 t2:Addr) (H:Hp):Rw->Prop
 | .grant _ _ _ _ s=>jF H t1 s 1
 | .convey _ _=>True
 | .lW _=>True
section
variable {es:List aN}{cO:Rw}{y:aN}
theorem Pu.up {k:Nat} (r:Pu es ks ls j wd) (h:j<=k):Pu es ks ls k wd :=
 ⟨r.W,fun e he=>(r.bd e he).mono 0x2,r.kn,by have:=r.ln;lia,by have:=r.lk;lia,r.nl,r.tot⟩
theorem Pu.step (R:Pu es ks ls j wd) (hst:gQ es ks y cO) (hok:cO.Ok ls) (hls:∀ n∈ls,n≠""/\PyData.strOk n=true):Pu 0x43 (stK ks cO) ls (j+1) wd:=by
 obtain ⟨w1,w2,w3,w4⟩:=a0L (t1:=t1) (t2:=t2) (b1:=b1) (b2:=b2) R hst hok hls;refine ⟨w1,?_,w2,w3,w4,a0K R hok,(WY R.W hst hok).trans R.tot⟩;have old:∀ y0∈es,Bd (10+5 * (j+1)) y0.due:=fun y0 h0=>(R.bd y0 h0).mono 0x2;cases cO with
 | grant e n m a s =>
  obtain ⟨hy,rfl,hn,ha⟩:=hst;obtain ⟨h1,h2,h3,h4,h5⟩:=hok;intro z hz;rcases A0x.mp hz with c | c
  ·obtain ⟨y0,h0,rfl⟩:=dB c;have:=old y0 h0
   split
   ·exact this
   ·exact this
  ·rw [A0c.mp c]
   show Bd _ (s,1)
   have hp:10 ^ 5<=10 ^ (10+5 * (j+1)):=A3s 0x5 0x2;refine ⟨A0q ?_ hp,by show (0:Int)<1;decide,A0q ?_ hp⟩
   ·show s.natAbs<10 ^ 5
    lia
   ·show (1:Int).natAbs<10 ^ 5
    decide
 | convey e m =>
  intro z hz;obtain ⟨y0,h0,rfl⟩:=dB hz;have:=old y0 h0
  split
  ·exact this
  ·exact this
 | lW e =>
  intro z hz;obtain ⟨y0,h0,rfl⟩:=A0j.mp hz;exact old y0 (A0J.mp h0).1
theorem qC (sel:aN->Addr) {u1 u2:Addr} (nd:(0x55).Nodup) (hst:gQ es ks y cO) (old:∀ e∈es,jF H (sel e) e.due.1 e.due.2) (f:FrN y u1 u2 H cO)
  (g1:∀ a (z:aN),sel (oR a z)=sel z) (g3:∀ m z,sel (n6 m z)=sel z) (g4:∀ e p a z,sel (Du e p a z)=sel z) (x1:∀ e n m a s,sel (sV e n m a s t1 b1)=u1) :
  ∀ e∈stp y es t1 t2 b1 b2 cO,jF H (sel e) e.due.1 e.due.2:=by
 cases cO with
 | grant e n m a s =>
  obtain ⟨hy,rfl,hn,ha⟩:=hst;intro z hz;rcases A0x.mp hz with c | c
  ·obtain ⟨y0,h0,rfl⟩:=dB c;have:=old y0 h0
   split
   ·rw [g1];exact this
   ·exact this
  ·rw [A0c.mp c,x1];exact f
 | convey e m =>
  intro z hz;obtain ⟨y0,h0,rfl⟩:=dB hz;have:=old y0 h0
  split
  ·rw [g3];exact this
  ·exact this
 | lW e =>
  intro z hz;obtain ⟨y0,h0,rfl⟩:=A0j.mp hz;rw [g4];exact old y0 (A0J.mp h0).1
end
section
variable {q:Ad}{es:List aN}{y:aN}{Q:VK}{E:XK}
def Te (C:Addr) (q:Ad) (H:Hp) (es:List aN) (y:aN) (cO:Rw) (Q:VK):Prop:=∀ t1 t2 H',(∀ b1 b2,Ln C q H' 0x43)->FrN y t1 t2 H' cO->Nr q H H'->Q .non H'
theorem Tf {e n m:Str}{a s:Int} (R:Pu es ks ls j wd) (L:Ln C q H es) (a5:QK q.a1 q.a2 q.a3 q.a4 q.a5) (fr:∀ e∈es,jF H e.ta e.due.1 e.due.2) (hst:gQ es ks y 0x66) (hok:Rw.Ok ls 0x66) (hls:∀ n∈ls,n≠""/\PyData.strOk n=true) (hj:j<=60) (k:Te C q H es y 0x66 Q):tG C [.ref q.x,.str e,.str n,.str m,.int a,.int s] H Q E:=by
 have W:=R.W;have ln:=R.ln;have kl:∀ {f:aN->V},(0x52).length<=800:=by intro f;rw [iJ];lia
 obtain ⟨hy,rfl,hn,ha⟩:=hst;obtain ⟨h1,h2,h3,h4,h5⟩:=hok;have hnn:=R.new hn (hls n h1).1;refine ⟨q.x,q.dx,q.a1,q.a2,q.a3,q.a4,q.a5,_,_,_,_,_,y.n,n,m,a,s,y.own,rfl,L,a5,cX W.nd hy,A0O kl 0x5,A0O kl 0x5,kl,A0O kl 0x5,A0O kl 0x5,fun t ht=>?_⟩;have nt:∀ {b:Addr}{u:HO},H b=some u->t≠b:=fun hb z=>by rw [z,hb] at ht;cases ht
 refine k t 0 _ (fun c1 c2=>?_) ?_ ?_
 ·have e1:jr (stp y es t 0 c1 c2 0x4F)=putK (jr es) 0x29 (.str y.n):=by
   show kv _ (mod y.n (oR a) es++[sV y.n n m a s t c1])=_
   rw [iK (g:=oR a) (x:=sV y.n n m a s t c1) 0x10 hnn,fZ (g:=oR a) 0x10 0x10];rfl
  have e2:hoL (stp y es t 0 c1 c2 0x4F)=putK (hoL es) 0x29 (.str m):=by
   show kv _ (mod y.n (oR a) es++[sV y.n n m a s t c1])=_
   rw [iK (g:=oR a) (x:=sV y.n n m a s t c1) 0x10 hnn,fZ (g:=oR a) 0x10 0x10];rfl
  have e3:lY (stp y es t 0 c1 c2 0x4F)=putK (putK (lY es) (.inr y.n) (.int (y.own - a))) 0x29 (.int a):=by
   show kv _ (mod y.n (oR a) es++[sV y.n n m a s t c1])=_
   rw [iK (g:=oR a) (x:=sV y.n n m a s t c1) 0x10 hnn,tR (g:=oR a) 0x10 W.nd hy];rfl
  have e4:Oq (stp y es t 0 c1 c2 0x4F)=putK (Oq es) 0x29 0x70:=by
   show kv _ (mod y.n (oR a) es++[sV y.n n m a s t c1])=_
   rw [iK (g:=oR a) (x:=sV y.n n m a s t c1) 0x10 hnn,fZ (g:=oR a) 0x10 0x10];rfl
  have e5:Dr (stp y es t 0 c1 c2 0x4F)=putK (Dr es) 0x29 (.int a):=by
   show kv _ (mod y.n (oR a) es++[sV y.n n m a s t c1])=_
   rw [iK (g:=oR a) (x:=sV y.n n m a s t c1) 0x10 hnn,fZ (g:=oR a) 0x10 0x10];rfl
  show cg C _ q.x q.dx q.a1 q.a2 q.a3 q.a4 q.a5 _ _ _ _ _
  rw [e1,e2,e3,e4,e5];have x1:=aZ L.o L.l1 0x6;have x2:=aZ L.o L.l2 0x6;have x3:=aZ L.o L.l3 0x6;have x4:=aZ L.o L.l4 0x6;have x5:=aZ L.o L.l5 0x6;unfold Mt;refine ⟨?_,?_,?_,?_,?_,ao⟩
  ·rw [ak x5,ak x4,ak x3,ak x2,ak x1,ak (A0m (nt L.o)),ak x3];exact L.o
  ·rw [ak a5.n15,ak a5.n14,ak a5.n13,ak a5.n12,ao]
  ·rw [ak a5.n25,ak a5.n24,ak a5.n23,ao]
  ·rw [ak a5.n35,ak a5.n34,ao]
  ·rw [ak a5.n45,ao]
 ·show Mt _ _ _ _ _ _ _ _ _ _ _ _ _ _ _ _ t=some (.tup [.int s,.int 1])
  unfold Mt;rw [ak (nt L.l5),ak (nt L.l4),ak (nt L.l3),ak (nt L.l2),ak (nt L.l1),ao]
 ·intro c u c1 c2 c3 c4 c5 hc;unfold Mt;rw [ak c5,ak c4,ak c3,ak c2,ak c1,ak (A0m (nt hc)),ak c3];exact hc
theorem Nt {e m:Str} (R:Pu es ks ls j wd) (L:Ln C q H es) (a5:QK q.a1 q.a2 q.a3 q.a4 q.a5) (fr:∀ e∈es,jF H e.ta e.due.1 e.due.2) (hst:gQ es ks y (.convey e m)) (hok:Rw.Ok ls (.convey e m)) (hls:∀ n∈ls,n≠""/\PyData.strOk n=true) (hj:j<=60) (k:Te C q H es y (.convey e m) Q):qm C [.ref q.x,.str e,.str m] H Q E:=by
 have W:=R.W;have ln:=R.ln;have kl:∀ {f:aN->V},(0x52).length<=800:=by intro f;rw [iJ];lia
 obtain ⟨hy,rfl⟩:=hst;refine ⟨q.x,q.dx,q.a1,q.a2,q.a3,q.a4,q.a5,_,_,_,_,_,y.n,m,rfl,L,A0O kl 0x5,?_⟩;refine k 0 0 _ (fun c1 c2=>?_) True.intro fun c u _ c2 _ _ _ hc=>by rw [ak c2];exact hc
 have e2:hoL 0x1D=putK (hoL es) (.inr y.n) (.str m):=tR (g:=n6 m) 0x10 W.nd hy
 show cg C _ q.x q.dx q.a1 q.a2 q.a3 q.a4 q.a5 (jr 0x1D) (hoL 0x1D) (lY 0x1D) (Oq 0x1D) (Dr 0x1D)
 rw [e2];have e1:jr 0x1D=jr es:=fZ (g:=n6 m) 0x10 0x10 es;have e3:lY 0x1D=lY es:=fZ (g:=n6 m) 0x10 0x10 es;have e4:Oq 0x1D=Oq es:=fZ (g:=n6 m) 0x10 0x10 es;have e5:Dr 0x1D=Dr es:=fZ (g:=n6 m) 0x10 0x10 es;rw [e1,e3,e4,e5];exact ⟨by rw [ak (aZ L.o L.l2 0x6)];exact L.o,by rw [ak a5.n12];exact L.l1,ao,by rw [ak (A0m a5.n23)];exact L.l3,by rw [ak (A0m a5.n24)];exact L.l4,by rw [ak (A0m a5.n25)];exact L.l5⟩
theorem X3 {e:Str} (R:Pu es ks ls j wd) (L:Ln C q H es) (a5:QK q.a1 q.a2 q.a3 q.a4 q.a5) (fr:∀ e∈es,jF H e.ta e.due.1 e.due.2) (hst:gQ es ks y (.lW e)) (hok:Rw.Ok ls (.lW e)) (hls:∀ n∈ls,n≠""/\PyData.strOk n=true) (hj:j<=60) (k:Te C q H es y (.lW e) Q):zf C [.ref q.x,.str e] H Q E:=by
 have W:=R.W;have ln:=R.ln;have kl:∀ {f:aN->V},(0x52).length<=800:=by intro f;rw [iJ];lia
 obtain ⟨hy,rfl⟩:=hst;obtain ⟨p,hp,hpm,hpn⟩:=W.lord y hy hok;obtain ⟨z,hz,hzn⟩:=eZ hpm;have ep:y.lord.getD ""=p:=by rw [hp];rfl
 have vp:=cX (f:=fun e=>V.int e.own) W.nd hz;rw [hzn] at vp;refine ⟨q.x,q.dx,q.a1,q.a2,q.a3,q.a4,q.a5,_,_,_,_,_,y.n,p,y.own,z.own,rfl,L,a5,(by rw [cX W.nd hy,hp];rfl),cX W.nd hy,vp,(by rw [cX W.nd hy];rfl),(by rw [cX W.nd hy];rfl),(by rw [cX W.nd hy];rfl),Dt,YL,(by rw [iJ];lia),kl,fun ss H' hss _ L' out=>?_⟩;rw [Nj (a:=y.own) W.nd hss,SQ W.nd hz hzn,pI (p:=p) (a:=y.own) (f:=fun e=>V.str e.man) 0x10,pI (p:=p) (a:=y.own) (f:=fun e=>V.ref e.ta) 0x10,pI (p:=p) (a:=y.own) (f:=fun e=>V.int e.br) 0x10] at L';refine k 0 0 H' (fun c1 c2=>?_) True.intro out
 show Ln C q H' (cG y.n (y.lord.getD "") y.own es)
 rw [ep];exact L'
end
end M
namespace L2
open PySem PySem.Spec PyProof.Rows PySem.W
def wA (H:Hp):List 0x2C->List (Key×PyData)->Prop:=Paired fun (p:Key×V) (q:Key×PyData)=>p.1=q.1/\cN H p.2 q.2/\q.2.canLay0=true/\q.2.depth<=8
def Nu (ds:List (Key×PyData)) (k:Key):Option PyData:=(ds.find? fun q=>decide (q.1=k)).map (·.2)
def v7 (bs:List (Key×PyData)) (q:Key×PyData):Bool:=match Nu bs q.1 with
 | none=>false
 | some d=>PyData.eqv q.2 d
def gR (as bs:List (Key×PyData)):Bool:=(as.length==bs.length)&&as.all (v7 bs)
theorem wA.at {k:Key}:∀ {kb:List 0x2C}{db:List (Key×PyData)},wA H kb db->(bH kb k=none/\Nu db k=none)\/∃ v d,bH kb k=some v/\Nu db k=some d/\cN H v d/\d.canLay0=true/\d.depth<=8
 | _,_,.nil=>.inl ⟨rfl,rfl⟩
 | p::l1,q::l2,.cons h r=>by
  obtain ⟨e,h1,h2,h3⟩:=h
  by_cases hk:p.1=k
  ·refine .inr ⟨p.2,q.2,?_,?_,h1,h2,h3⟩
   ·unfold bH;rw [A1O (by simpa using hk)];rfl
   ·unfold Nu;rw [A1O (by rw [<- e];simpa using hk)];rfl
  ·have e1:bH (p::l1) k=bH l1 k:=by unfold bH;rw [A1z (by simpa using hk)]
   have e2:Nu (q::l2) k=Nu l2 k:=by unfold Nu;rw [A1z (by rw [<- e];simpa using hk)]
   rw [e1,e2];exact wA.at r
theorem Km (I:Inv X pins σ H s) (hu:X.A.units+64<cLine) {kb:List 0x2C}{vb:List (Key×Value)}{db:List (Key×PyData)} (rb:KV kb vb) (hb:wA H kb db) :
  ∀ {ka:List 0x2C}{va:List (Key×Value)}{da:List (Key×PyData)},KV ka va->wA H ka da->KeqHits X.A.in1 s vb va (da.all (v7 db))
 | _,_,_,.nil,h=>by cases h;exact .nil
 | _,_,_,.cons (a:=p) (b:=u) h r,h'=>by
  cases h' with
  | cons g g' =>
   rename_i q qs
   obtain ⟨e,rv⟩:=h;obtain ⟨e',h1,h2,h3⟩:=g;have rest:=Km I hu rb hb r g';obtain ⟨uk,uv⟩:=u;obtain ⟨pk,pv⟩:=p;obtain ⟨qk,qv⟩:=q;have e1:pk=uk:=e;have e2:pk=qk:=e';subst e1;subst e2;have rel:=KV.val rb pk;rw [A2x];rcases wA.at (k:=pk) hb with ⟨n1,n2⟩ | ⟨v,d,n1,n2,m1,m2,m3⟩
   ·have:v7 db (pk,qv)=false:=by unfold v7;rw [n2]
    rw [this,Bool.false_and];refine .miss ?_;rw [n1] at rel;exact jA.none_of rel
   ·have:v7 db (pk,qv)=PyData.eqv qv d:=by unfold v7;rw [n2]
    rw [this];rw [n1] at rel;obtain ⟨y,hy,ry⟩:=jA.some_of rel;obtain ⟨as,ra⟩:=cN.reads I h1 rv;obtain ⟨bs,rb'⟩:=cN.reads I m1 ry;refine .hit hy (A5h _ _ _ _ _ _ _ _ ra rb' h2 m2 ?_) rest;have:X.A.in1.units=X.A.units+1:=rfl;lia
inductive rEqK (x y:V) (H:Hp) (Q:VK):Prop
 | mk (a b:Addr) (ka kb:List 0x18) (da db:List (Prod L2.Key PySem.PyData)) (_:x=.ref a) (_:y=.ref b) (_:H a=some (.dK ka)) (_:H b=some (.dK kb)) (_:wA H ka da) (_:wA H kb db) (_:Q (.bl (gR da db)) H):rEqK x y H Q
theorem zK (hu:X.A.units+64<cLine):nA X (compareOp .Eq) rEqK:=by
 intro pins s σ H x y v u Q I rx ry h;obtain ⟨a,b,ka,kb,da,db,rfl,rfl,ha,hb,ga,gb,q⟩:=h;cases rx;cases ry;obtain ⟨_,n1,va,r1,d1⟩:=oU I.hok ha;obtain ⟨_,n2,vb,r2,d2⟩:=oU I.hok hb;refine keq_eq n1 n2 d1 d2 0x2 (fun _=>Km I hu r2 gb r1 ga) ⟨.bl _,H,I,?_,q⟩;have l1:va.length=da.length:=by rw [<- KV.length r1];exact A4f ga
 have l2:vb.length=db.length:=by rw [<- KV.length r2];exact A4f gb
 show Value.bool _=Value.bool _
 unfold gR;rw [l1,l2]
end L2
namespace M
open PySem L2 PyProof.Rows
def core (e:aN):Str×Option Str×Str×Int×(Int×Int):=(e.n,e.lord,e.man,e.own,e.due)
def Tg:Option Str->PyData
 | none=>.none
 | some s=>.str s
abbrev kd (f:aN->PyData) (es:List aN):List (Key×PyData):=es.map fun e=>(Sum.inr e.n,f e)
abbrev loD (es:List aN):=kd (fun e=>Tg e.lord) es
abbrev hoD (es:List aN):=kd (fun e=>.str e.man) es
abbrev owD (es:List aN):=kd (fun e=>.int e.own) es
abbrev seD (es:List aN):=kd (fun e=>.tuple [.int e.due.1,.int e.due.2]) es
def Ko (es es':List aN):Bool:=gR (loD es) (loD es')&&(gR (hoD es) (hoD es')&&(gR (owD es) (owD es')&&gR (seD es) (seD es')))
def sW (es:List aN) (ks:List Str):Prop:=nms es=("" : Str)::ks.filter fun (n:Str)=>decide (n∈nms es)
theorem Ti {f:aN->PyData}{e:aN}:∀ {es:List aN},(0x55).Nodup->e∈es->Nu (kd f es) (.inr e.n)=some (f e)
 | [],_,h=>nomatch h
 | y::es,nd,h=>by
  have nd':=A0M.mp nd
  by_cases q:y.n=e.n
  ·have:y=e:=by
    rcases A0d.mp h with h | h
    ·exact h.symm
    ·exact absurd (A0j.mpr ⟨e,h,q.symm⟩) nd'.1
   subst this;unfold Nu kd;rw [A0h,A1O 0xA];rfl
  ·have he:e∈es:=by
    rcases A0d.mp h with h | h
    ·exact absurd (by rw [h]) q
    ·exact h
   have:=Ti (f:=f) (e:=e) nd'.2 he;unfold Nu kd at this ⊢;rw [A0h,A1z (by simp;exact q)];exact this
theorem Tj {f:aN->PyData}{n:Str}:∀ {es:List aN}{d:PyData},Nu (kd f es) 0x29=some d->n∈nms es
 | [],_,h=>by cases h
 | y::es,d,h=>by
  by_cases q:y.n=n
  ·rw [<- q];exact A0g
  ·refine iT _ (Tj (f:=f) (es:=es) (d:=d) ?_);unfold Nu kd at h ⊢;rw [A0h,A1z (by simp;exact q)] at h;exact h
theorem zL {f:aN->PyData}{es es':List aN} (h:gR (kd f es) (kd f es')=true):es.length=es'.length/\∀ e∈es,v7 (kd f es') (.inr e.n,f e)=true:=by
 unfold gR at h;rw [A0Y] at h;refine ⟨by have:=h.1;simpa using this,fun e he=>?_⟩;exact A1I.mp h.2 _ (A0j.mpr ⟨e,he,rfl⟩)
theorem tU {f:aN->PyData}{es':List aN}{e e':aN} (nd:(nms es').Nodup) (h:v7 (kd f es') (.inr e.n,f e)=true) (he:e'∈es') (hn:e'.n=e.n):PyData.eqv (f e) (f e')=true:=by
 have a:=Ti (f:=f) nd he;rw [hn] at a;unfold v7 at h;rw [a] at h;exact h
theorem a0M {f:aN->PyData}{es':List aN}{e:aN} (h:v7 (kd f es') (.inr e.n,f e)=true):e.n∈nms es':=by
 unfold v7 at h;cases a:Nu (kd f es') (.inr e.n) with
 | none=>rw [a] at h;cases h
 | some d=>exact Tj a
theorem Tn {a b:Option Str} (h:PyData.eqv (Tg a) (Tg b)=true):a=b:=by
 cases a with
 | none=>cases b with
  | none=>rfl
  | some y=>cases h
 | some x=>cases b with
  | none=>cases h
  | some y =>
   have:(x==y)=true:=h;rw [A4y this]
theorem Tp {m:List Str} (hl:l.Nodup) (hm:m.Nodup) (sub:∀ x∈l,x∈m) (len:l.length=m.length):∀ x∈m,x∈l:=fun x hx=>by
 by_cases c:x∈l
 ·exact c
 ·have:=sub_len (l:=x::l) (m:=m) (A0M.mpr ⟨c,hl⟩) fun y hy=>by
   rcases A0d.mp hy with rfl | h
   ·exact hx
   ·exact sub y h
  rw [oX] at this;lia
theorem Nv {es es':List aN} (o:sW es ks) (o':sW es' ks') (pre:ks' <+: ks) (nd:(0x55).Nodup) (nd':(nms es').Nodup) (h:Ko es es'=true):es.map core=es'.map core:=by
 unfold Ko at h;simp only [A0Y] at h;obtain ⟨h1,h2,h3,h4⟩:=h;obtain ⟨len,g1⟩:=zL h1;obtain ⟨_,g2⟩:=zL h2;obtain ⟨_,g3⟩:=zL h3;obtain ⟨_,g4⟩:=zL h4;have sub:∀ x∈nms es,x∈nms es':=fun x hx=>by
  obtain ⟨e,he,rfl⟩:=eZ hx;exact a0M (g1 e he)
 have ln:(0x55).length=(nms es').length:=by rw [bV,bV];exact len
 have sup:=Tp nd nd' sub ln;have en:nms es=nms es':=by
  obtain ⟨more,rfl⟩:=pre;have ef:∀ l:List Str,(l.filter fun n=>decide (n∈nms es))=l.filter fun n=>decide (n∈nms es'):=fun l =>
   A2r fun x _=>by
    by_cases c:x∈nms es
    ·rw [A0k c,A0k (sub x c)]
    ·rw [A0p c,A0p fun z=>c (sup x z)]
  unfold sW at o o';rw [ef,A3h] at o;have l1:=A1G List.length o;have l2:=A1G List.length o';rw [oX,iw] at l1;rw [oX] at l2;have l3:(more.filter fun n=>decide (n∈nms es')).length=0:=by lia
  rw [List.length_eq_zero_iff.mp l3,A1u] at o;exact o.trans o'.symm
 refine List.ext_getElem? fun i=>?_;rw [jW,jW];have ei:0x55[i]?=(nms es')[i]?:=by rw [en]
 rw [jW,jW] at ei;cases a:es[i]? with
 | none =>
  rw [a] at ei;cases b:es'[i]? with
  | none=>rfl
  | some e'=>rw [b] at ei;cases ei
 | some e =>
  rw [a] at ei;cases b:es'[i]? with
  | none=>rw [b] at ei;cases ei
  | some e' =>
   rw [b] at ei;have hn:e'.n=e.n:=by injection ei with ei;exact ei.symm
   have he:=vY a;have he':=vY b;have q1:=Tn (tU nd' (g1 e he) he' hn);have q2:(e.man==e'.man)=true:=tU nd' (g2 e he) he' hn;have q3:(e.own==e'.own)=true:=tU nd' (g3 e he) he' hn;have q4:((e.due.1==e'.due.1)&&((e.due.2==e'.due.2)&&true))=true:=tU nd' (g4 e he) he' hn;simp only [A0Y,and_true] at q4;have r1:=A4y q4.1;have r2:=A4y q4.2
   show some (core e)=some (core e')
   unfold core;rw [hn,q1,A4y q2,A4y q3,show e.due=e'.due from Prod.ext r1 r2]
theorem Nx {es:List aN}{cO:Rw}{y:aN} (o:sW es ks) (R:Pu es ks ls j wd) (hst:gQ es ks y cO) (hok:cO.Ok ls) (hls:∀ n∈ls,n≠""/\PyData.strOk n=true):sW 0x43 (stK ks cO):=by
 have new:∀ (n:Str) (es2:List aN) (x:aN),nms es2=nms es->x.n=n->n∉ks->n≠""->sW (es2++[x]) (ks++[n]):=fun n es2 x h2 hx hn h0=>by
  have hnn:n∉nms es:=R.new hn h0;unfold sW at o ⊢;have e1:nms (es2++[x])=nms es++[n]:=by show List.map _ _=_;rw [jw];show nms es2++[x.n]=_;rw [h2,hx]
  rw [e1,A3h];have f1:(ks.filter fun m=>decide (m∈nms es++[n]))=ks.filter fun m=>decide (m∈nms es):=A2r fun m hm=>by
   have:m≠n:=fun z=>hn (z ▸ hm);simp [this]
  have f2:([n].filter fun m=>decide (m∈nms es++[n]))=[n]:=by simp
  rw [f1,f2]
  conv=>lhs;rw [o]
  rfl
 have nmod:∀ (g:aN->aN) (m:Str),(∀ z,(g z).n=z.n)->nms (mod m g es)=nms es:=fun g m hg=>by
  show List.map _ (List.map _ es)=_
  rw [A0S];refine A1K fun z _=>?_
  show (if z.n=m then g z else z).n=z.n
  split
  ·exact hg z
  ·rfl
 cases cO with
 | grant e n m a s=>exact new n _ _ (nmod _ _ fun _=>rfl) rfl hst.2.2.1 (hls n hok.1).1
 | convey e m =>
  have:nms (stp y es t1 t2 b1 b2 (.convey e m))=nms es:=nmod _ _ fun _=>rfl;unfold sW at o ⊢;rw [this];exact o
 | lW e =>
  have e1:nms (stp y es t1 t2 b1 b2 (.lW e))=(0x55).filter fun n=>decide (n≠y.n):=by
   show List.map _ (List.map _ (List.filter _ es))=_
   rw [A0S]
   show List.map (fun z=>(Du y.n (y.lord.getD "") y.own z).n) _=_
   show List.map (fun z:aN=>z.n) _=_
   rw [A3L];rfl
  have hy:y.n≠"":=by have h2:=hst.2;rw [h2];exact hok
  unfold sW at o ⊢;rw [e1]
  conv=>lhs;rw [o]
  rw [A1g (by simpa using A0m hy),List.filter_filter]
  congr 1
  refine A2r fun m _=>?_;rw [A1n,A0Y,A1M,A1M,A1M,A0J,A1M];exact And.comm
abbrev Tq:Stmt:=inClass (top 16) 0
abbrev Hg:Stmt:=inClass (top 16) 1
abbrev a0N:Stmt:=inClass (top 16) 2
abbrev zM:Stmt:=inClass (top 16) 3
abbrev Hh:Stmt:=inClass (top 16) 4
inductive Tk (hv:Str->Option Str) (gv:Str->Bool):List Str->Option Str->Option Str->Prop
 | none {m:List Str}:Tk hv gv m none none
 | met {m:List Str}{h:Str}:h∈m->Tk hv gv m (some h) none
 | alive {m:List Str}{h:Str}:¬ h∈m->gv h=false->Tk hv gv m (some h) (some h)
 | step {m:List Str}{h:Str}{r:Option Str}:¬ h∈m->gv h=true->Tk hv gv (m++[h]) (hv h) r->Tk hv gv m (some h) r
theorem Tk.det {gv:Str->Bool}:∀ {m:List Str}{c r r':Option Str},Tk hv gv m c r->Tk hv gv m c r'->r=r':=by
 intro m c r r' h
 induction h with
 | none=>intro q;cases q;rfl
 | met h=>intro q;cases q with
  | met _=>rfl
  | alive n _=>exact absurd h n
  | step n _ _=>exact absurd h n
 | alive n g=>intro q;cases q with
  | met h=>exact absurd h n
  | alive _ _=>rfl
  | step _ g' _=>rw [g] at g';cases g'
 | step n g t ih=>intro q;cases q with
  | met h=>exact absurd h n
  | alive _ g'=>rw [g] at g';cases g'
  | step _ _ t'=>exact ih t'
def rJ:Option Str->V
 | none=>.non
 | some z=>.str z
def HV (hs:List 0x2C) (hv:Str->Option Str):Prop:=∀ m,bH hs (.inr m)=(hv m).map V.str
def GV (gs:List 0x2C) (gv:Str->Bool):Prop:=∀ m,(bH gs (.inr m)).isSome=gv m
theorem Kq (h:HV hs hv) (m:Str):(bH hs (.inr m)).getD .non=rJ (hv m):=by
 rw [h m];cases hv m <;> rfl
theorem yd {α:Type} [DecidableEq α]:∀ (l k:List α),l.Nodup->(∀ x∈l,x∈k)->l.length<=k.length
 | [],_,_,_=>A0X _
 | x::l,k,hn,hs=>by
  have h1:=A0M.mp hn;have hx:=hs x A0g;have ih:=yd l (k.erase x) h1.2 fun y hy=>by
   have hne:y≠x:=fun e=>h1.1 (e ▸ hy);exact (List.mem_erase_of_ne hne).mpr (hs y (iT _ hy))
  have hl:=List.length_erase_of_mem hx;have hp:0<k.length:=A3j hx;rw [oX];lia
theorem X4 {k:Key} (h:(bH kvs k).isSome=true):k∈kvs.map (·.1):=by
 induction kvs with
 | nil=>cases h
 | cons p r ih =>
  by_cases e:p.1=k
  ·rw [<- e];exact A0g
  ·rw [dO e] at h;exact iT _ (ih h)
theorem few (h:HV hs hv)  (hn:l.Nodup) (ha:∀ x∈l,(hv x).isSome=true):l.length<=hs.length:=by
 have h1:=yd (l.map (Sum.inr:Str->Key)) (hs.map (·.1)) (by
  unfold List.Nodup;rw [List.pairwise_map];exact List.Pairwise.imp (fun hab e=>hab (by injection e)) hn) fun k hk=>by
  obtain ⟨x,hx,rfl⟩:=A0j.mp hk;refine X4 ?_;rw [h x];have:=ha x hx;cases e:hv x with
  | none=>rw [e] at this;cases this
  | some z=>rfl
 rw [bV,bV] at h1;exact h1
theorem v8 {h:Str} (hn:l.Nodup) (hh:¬ h∈l):(l++[h]).Nodup:=by
 unfold List.Nodup at hn ⊢;rw [A2S];refine ⟨hn,A3R _ _,fun a ha b hb e=>?_⟩;rw [A0c.mp hb] at e;exact hh (e ▸ ha)
structure wB (K:PySem.W.Frag) (C:Addr):Prop where
 cl:Cls K C
 n1:dJ K C "heir_of"
 n2:dJ K C "gone"
abbrev F2 (a b:Addr):List 0x81:=[("heir_of",.ref a),("gone",.ref b)]
structure oW (C:Addr) (H:Hp) (x dx a b:Addr) (hs gs:List 0x2C):Prop where
 o:H x=some (.ins C dx (F2 a b))
 h:H a=some (.dK hs)
 g:H b=some (.dK gs)
theorem oW.same {x:Addr}{gs:List 0x2C} (k:oW C H x dx a b hs gs) (s:Same H H'):oW C H' x dx a b hs gs:=⟨s _ _ k.o,s _ _ k.h,s _ _ k.g⟩
inductive Hi (C:Addr) (vs:List V) (H:Hp) (Q:VK) (cD:XK):Prop
 | mk (x dx a b:Addr) (hs gs:List 0x18) (man heir:Str) (_:vs=[.ref x,.str man,.str heir]) (_:oW C H x dx a b hs gs) (_:man≠"") (_:hs.length<=900) (_:Q .non (upd H a (.dK (putK hs (.inr man) (.str heir))))):Hi C vs H Q cD
inductive Tr (C:Addr) (vs:List V) (H:Hp) (Q:VK) (cD:XK):Prop
 | mk (x dx a b:Addr) (hs gs:List 0x18) (man:Str) (_:vs=[.ref x,.str man]) (_:oW C H x dx a b hs gs) (_:man≠"") (_:gs.length<=900) (_:Q .non (upd H b (.dK (putK gs (.inr man) (.bl true))))):Tr C vs H Q cD
inductive v9 (C:Addr) (vs:List V) (H:Hp) (Q:VK) (cD:XK):Prop
 | mk (x dx a b:Addr) (hs gs:List 0x18) (man:Str) (_:vs=[.ref x,.str man]) (_:oW C H x dx a b hs gs) (_:Q (.bl (bH gs (.inr man)).isSome) H):v9 C vs H Q cD
inductive zN (C:Addr) (vs:List V) (H:Hp) (Q:VK) (cD:XK):Prop
 | mk (x dx a b:Addr) (hs gs:List 0x18) (hv:Str->Option Str) (gv:Str->Bool) (man:Str) (_:vs=[.ref x,.str man]) (_:oW C H x dx a b hs gs) (_:HV hs hv) (_:GV gs gv) (_:hs.length<=900) (_:∀ r H',Same H H'->Tk hv gv [man] (hv man) r->Q (rJ r) H'):zN C vs H Q cD
theorem a0O:aO ["self", "man", "heir"] ["self", "man", "heir"] (aH Hg):=0x0
theorem X5 (T:wB K C)  (mC:mg "CROWN"=some (.str "" tc)) (F:fK K "name_heir" "Kin.name_heir" Hg f fd):aJ P w K mg base bM 1 f fd ["self", "man", "heir"] (Hi C):=by
 refine F.ok a0O 0x1 0x3;obtain ⟨x,dx,a,b,hs,gs,man,heir,rfl,kn,hm,hl,k⟩:=h;refine ⟨_,aG (bN (aQ nF 0xF 0x2F 0x61) (aG (dR 0x17 0xD 0xF 0x2B rfl)) aU),?_⟩;refine ⟨_,rfl,rfl,_,rfl,?_⟩;have hd:(!decide (V.str man=V.str ""))=true:=by
  rw [A0p fun e=>hm (by injection e)];rfl
 rw [hd];refine dU ⟨_,rfl,_,rfl,x,C,dx,_,_,rfl,kn.o,T.cl,T.n1,rfl,_,rfl,a,_,rfl,jc.k (k:=.inr man) kn.h (bR 0x2),k⟩
theorem a2o:aO A5K A5K (aH a0N):=0x0
theorem a0P (T:wB K C)  (mC:mg "CROWN"=some (.str "" tc)) (F:fK K "die" "Kin.die" a0N f fd):aJ P w K mg base bM 1 f fd A5K (Tr C):=by
 refine F.ok a2o 0x1 0x3;obtain ⟨x,dx,a,b,hs,gs,man,rfl,kn,hm,hl,k⟩:=h;refine ⟨_,aG (bN (aQ nF 0xF 0x2F 0x61) (aG (dR 0x17 0xD 0xF Bt rfl)) aU),?_⟩;refine ⟨_,rfl,rfl,_,rfl,?_⟩;have hd:(!decide (V.str man=V.str ""))=true:=by
  rw [A0p fun e=>hm (by injection e)];rfl
 rw [hd];refine dU ⟨_,rfl,x,C,dx,_,_,rfl,kn.o,T.cl,T.n2,rfl,_,rfl,b,_,rfl,jc.k (k:=.inr man) kn.g (bR 0x2),k⟩
theorem a0Q:aO A5K A5K (aH zM):=0x0
theorem X6 (T:wB K C) (F:fK K "is_dead" "Kin.is_dead" zM f fd):aJ P w K mg base bM 1 f fd A5K (v9 C):=by
 refine F.ok a0Q 0x1 0x3;obtain ⟨x,dx,a,b,hs,gs,man,rfl,kn,k⟩:=h;refine ⟨_,aG (aV (Fj (yR 0x17 0xF 0xD) 0x11)),?_⟩;exact ⟨_,rfl,_,rfl,x,C,dx,_,_,rfl,kn.o,T.cl,T.n2,rfl,b,_,rfl,dW.k (k:=.inr man) kn.g,k⟩
theorem tV:aO ["self", "man", "met", "heir"] A5K (aH Hh):=0x0
theorem Tt (T:wB K C) (F:fK K "taker" "Kin.taker" Hh f fd)  (G1:aJ P w K mg base bM 1 g1 d1 A5K (v9 C)) (m1:Meth K C "is_dead" g1) (b1:Binds K d1 A5K []):aJ P w K mg base bM 2 f fd A5K (zN C):=by
 refine fK.okC F tV 0x1 (fun cdv A outer s H vs Q E hcd hr h=>?_);obtain ⟨x,dx,a,b,hs,gs,hv,gv,man,rfl,kn,hH,hG,hl,k⟩:=h;refine ⟨_,aq (aR (i:=2) tV.nd rfl 0x7 (Wg (QB hcd) 0xF))
  (aq (aR (i:=3) tV.nd rfl 0x7 (CQ 0x17 0xD 0xF ⟨rfl,rfl,rfl,rfl⟩))
  (aq (lG A0U (PW.pt (ni (aQ Jd 0x5D lZ 0x61) (jY (aQ Mq 0x5D 0x2B 0x11))))
   (aq (bN (gP (dY (bU 0x32 T.cl m1 G1 hr b1 .nil aX (aj 0x5D aC)))) (aG (aV 0x5D)) aU)
   (aq (bL (Wd 0x2B 0x5D ⟨rfl,rfl,rfl,rfl⟩))
   (aG (aR (i:=3) tV.nd rfl 0x7 (CQ 0x17 0xD 0x5D ⟨rfl,rfl,rfl,rfl⟩))))))
  (aG (aV lZ)))),?_⟩
 intro t ht;refine ⟨_,rfl,man,rfl,ao,?_⟩;rw [Vx];have s1:Same H (upd H t (SetT P w t (fun k=>decide (k=man)) 1)):=aM ht _;have t1:(upd H t (SetT P w t (fun k=>decide (k=man)) 1)) t=some (SetT P w t (fun k=>decide (k∈[man])) 1):=by
  rw [ao];have:(fun k=>decide (k=man))=fun k:Str=>decide (k∈[man]):=by funext k;simp
  rw [this]
 refine ⟨_,rfl,x,C,dx,_,_,rfl,s1 _ _ kn.o,T.cl,T.n1,rfl,a,rfl,.inl ⟨_,.inl (s1 _ _ kn.h)⟩,_,rfl,_,dW.k (k:=.inr man) (s1 _ _ kn.h),?_⟩;rw [Kq hH];refine ⟨fun m σ Hx=>∃ (l0:List Str) (y:Str),m=hs.length+1 - l0.length/\σ=[some (.ref x),some (.str man),some 0x70,some (rJ (hv y))]/\Same H Hx/\Hx t=some (SetT P w t (fun k=>decide (k∈l0++[y])) (l0.length+1))/\(l0++[y]).Nodup/\(∀ z∈l0,(hv z).isSome=true) /\
   ∀ r,Tk hv gv (l0++[y]) (hv y) r->Tk hv gv [man] (hv man) r,⟨_,[],man,rfl,rfl,s1,t1,by simp,(fun z hz=>nomatch hz),fun r h=>h⟩,?_⟩
 rintro m σ Hx ⟨l0,y,rfl,rfl,sx,tx,nd,ha,hk⟩;have knx:=kn.same sx;cases hy:hv y with
 | none =>
  refine ⟨_,rfl,rfl,_,rfl,cu (cu ?_)⟩;exact k none Hx sx (hk none (by rw [hy];exact .none))
 | some h =>
  refine ⟨_,rfl,rfl,_,rfl,dU ?_⟩;refine ⟨_,rfl,_,rfl,h,t,_,_,rfl,rfl,tx,_,rfl,?_⟩
  by_cases hm:h∈l0++[y]
  ·rw [A0k hm];refine cu ?_;exact k none Hx sx (hk none (by rw [hy];exact .met hm))
  ·rw [A0p hm];refine dU ⟨fun σ' H'=>∃ (wj:List Str) (y':Str),hs.length+1 - wj.length<hs.length+1 - l0.length/\σ'=[some (.ref x),some (.str man),some 0x70,some (rJ (hv y'))]/\Same H H'/\H' t=some (SetT P w t (fun k=>decide (k∈wj++[y'])) (wj.length+1))/\(wj++[y']).Nodup/\(∀ z∈wj,(hv z).isSome=true) /\
     ∀ r,Tk hv gv (wj++[y']) (hv y') r->Tk hv gv [man] (hv man) r,fun σ' H' ⟨wj,y',q1,q⟩=>⟨_,q1,wj,y',rfl,q⟩,?_⟩
   refine ⟨_,rfl,x,dx,_,rfl,knx.o,rfl,_,rfl,x,dx,a,b,hs,gs,h,rfl,knx,_,rfl,?_⟩;rw [hG h];have all1:∀ z∈l0++[y],(hv z).isSome=true:=fun z hz=>by
    rcases A0x.mp hz with q | q
    ·exact ha z q
    ·rw [A0c.mp q,hy];rfl
   have hfew:=few hH nd all1;rw [iw,A0r] at hfew;cases hg:gv h with
   | false =>
    refine dU ⟨_,rfl,?_⟩;exact k (some h) Hx sx (hk (some h) (by rw [hy];exact .alive hm hg))
   | true =>
    refine cu ?_;refine ⟨_,rfl,t,_,_,rfl,tx,_,rfl,h,rfl,tx,by lia,?_⟩;have nt:H t=none:=ht;have e1:(fun k=>(fun k=>decide (k∈l0++[y])) k||decide (k=h))=fun k:Str=>decide (k∈l0++[y]++[h]):=by
     funext k
     simp only [A0x,A0c]
     by_cases q1:k∈l0 <;> by_cases q2:k=y <;> by_cases q3:k=h <;> simp [q1,q2,q3]
    rw [e1,A0e (by simpa using hm)];have s2:Same H (upd Hx t (SetT P w t (fun k=>decide (k∈l0++[y]++[h])) (l0.length+1+1))):=bK sx nt;have t2:(upd Hx t (SetT P w t (fun k=>decide (k∈l0++[y]++[h])) (l0.length+1+1))) t=some (SetT P w t (fun k=>decide (k∈l0++[y]++[h])) (l0.length+1+1)):=ao;refine ⟨_,rfl,x,C,dx,_,_,rfl,s2 _ _ kn.o,T.cl,T.n1,rfl,a,rfl,.inl ⟨_,.inl (s2 _ _ kn.h)⟩,_,rfl,_,dW.k (k:=.inr h) (s2 _ _ kn.h),?_⟩;rw [Kq hH];refine ⟨l0++[y],h,by rw [iw,A0r];lia,rfl,s2,by rw [iw,A0r];exact t2,v8 nd hm,all1,fun r q=>hk r (by rw [hy];exact .step hm hg q)⟩
def Mn (es:List aN):Prop:=∀ e∈es,PyData.strOk e.man=true
theorem Mn.step {es:List aN}{cO:Rw}{y:aN} (h:Mn es) (hx:cO.Tx):Mn 0x43:=by
 cases cO with
 | grant e n m a s =>
  intro z hz;rcases A0x.mp hz with c | c
  ·obtain ⟨y0,h0,rfl⟩:=dB c;have:=h y0 h0
   split <;> exact this
  ·rw [A0c.mp c];exact hx.2.2
 | convey e m =>
  intro z hz;obtain ⟨y0,h0,rfl⟩:=dB hz;have:=h y0 h0
  split
  ·exact hx.2
  ·exact this
 | lW e =>
  intro z hz;obtain ⟨y0,h0,rfl⟩:=A0j.mp hz;exact h y0 (A0J.mp h0).1
def X7 (es:List aN) (n:Int):Prop:=∃ c∈es,c.n=""/\c.br=n
theorem X7.val {es:List aN}{n:Int} (h:X7 es n) (nd:(0x55).Nodup):bH (Dr es) (.inr "")=some (.int n):=by
 obtain ⟨c,hc,h1,h2⟩:=h;have:=cX (f:=fun e=>V.int e.br) nd hc;rw [h1,h2] at this;exact this
theorem X7.step {es:List aN}{n:Int}{cO:Rw}{y:aN} (h:X7 es n) (hst:gQ es ks y cO) (hok:cO.Ok ls):X7 0x43 n:=by
 obtain ⟨c,hc,h1,h2⟩:=h;have md:∀ (g:aN->aN) (m:Str),(∀ z,(g z).n=z.n)->(m=""->∀ z,(g z).br=z.br)->∃ c'∈mod m g es,c'.n=""/\c'.br=n:=fun g m g1 g2=>by
  refine ⟨if c.n=m then g c else c,A0j.mpr ⟨c,hc,rfl⟩,?_⟩
  by_cases e:c.n=m
  ·rw [A0i e];exact ⟨(g1 c).trans h1,(g2 (e ▸ h1) c).trans h2⟩
  ·rw [A0e e];exact ⟨h1,h2⟩
 have app:∀ {l:List aN}{x:aN},(∃ c'∈l,c'.n=""/\c'.br=n)->X7 (l++[x]) n:=fun ⟨c',hm,q⟩=>⟨c',A1l _ hm,q⟩;cases cO with
 | grant e k m a s=>exact app (md _ _ 0x10 fun _ _=>rfl)
 | convey e m=>exact md _ _ 0x10 fun _ _=>rfl
 | lW e=>exact ⟨_,A0j.mpr ⟨c,A0J.mpr ⟨hc,A0k fun z=>hok (hst.2.symm.trans (z.symm.trans h1))⟩,rfl⟩,h1,h2⟩
inductive Ro
 | grant (e n m:Str) (a s:Int)
 | heir (m h:Str)
 | death (m:Str)
def Ro.vs (dy:Int):Ro->List V
 | .grant e n m a s=>[.str "grant",.int dy,.str e,.str n,.str m,.int a,.int s]
 | .heir m h=>[.str "heir",.int dy,.str m,.str h]
 | .death m=>[.str "death",.int dy,.str m]
def Ro.Tx:Ro->Prop
 | .grant e n m _ _=>PyData.strOk e=true/\PyData.strOk n=true/\PyData.strOk m=true
 | .heir m h=>PyData.strOk m=true/\PyData.strOk h=true
 | .death m=>PyData.strOk m=true
def Ro.Ok (ls:List Str):Ro->Prop
 | .grant _ n _ a s=>n∈ls/\1<=a/\a<=9999/\0<=s/\s<=9999
 | .heir m _=>m≠""
 | .death m=>m≠""
structure Wo where
 es:List aN
 ks:List Str
 hs:List 0x2C
 dd:List (Str×Int)
def Wo.gone (W:Wo):List Str:=W.dd.map (·.1)
def YX (hs:List 0x2C) (m:Str):Option Str:=match bH hs (.inr m) with
 | some (.str z)=>some z
 | _=>none
def vf:Option Str->Str->Rw
 | none,n=>.lW n
 | some h,n=>.convey n h
inductive Fo (r:Option Str) (es:List aN):List Str->List aN->Prop
 | nil:Fo r es [] es
 | snoc {ss:List Str}{e1:List aN}{y:aN}:Fo r es ss e1->y∈e1->y.n≠""->Fo r es (ss++[y.n]) (stp y e1 0 0 0 0 (vf r y.n))
def vm (es:List aN) (m:Str) (ss:List Str):Prop:=ss.Perm ((es.filter fun y=>decide (y.man=m)).map (·.n))/\sortedS ss=true
inductive Jo (W:Wo) (dy:Int):Ro->Str->Wo->Prop
 | no {e n m:Str}{a s:Int}:e∉nms W.es->Jo W dy 0x66 "nowhere" W
 | tk {e n m:Str}{a s:Int}:e∈nms W.es->n∈W.ks->Jo W dy 0x66 "taken" W
 | de {e n m:Str}{a s:Int}:e∈nms W.es->n∉W.ks->m∈W.gone->Jo W dy 0x66 "dead" W
 | ac {e n m:Str}{a s:Int}{y:aN}:y∈W.es->y.n=e->n∉W.ks->m∉W.gone->y.own<a->Jo W dy 0x66 "acres" W
 | gr {e n m:Str}{a s:Int}{y:aN} (t b:Addr):y∈W.es->y.n=e->n∉W.ks->m∉W.gone->a<=y.own->Jo W dy 0x66 "stands" { W with es:=stp y W.es t 0 b 0 0x66,ks:=W.ks++[n] }
 | hd {m h:Str}:m∈W.gone->Jo W dy (.heir m h) "dead" W
 | hr {m h:Str}:m∉W.gone->Jo W dy (.heir m h) "stands" { W with hs:=putK W.hs (.inr m) (.str h) }
 | dx {m:Str}:m∈W.gone->Jo W dy (.death m) "dead" W
 | di {m:Str}{r:Option Str}{ss:List Str}{es':List aN}:m∉W.gone->Tk (YX W.hs) (fun z=>decide (z∈W.gone++[m])) [m] (YX W.hs m) r->vm W.es m ss->Fo r W.es ss es'->Jo W dy (.death m) "stands" { W with es:=es',dd:=W.dd++[(m,dy)] }
structure Eo (es:List aN) (ks ls:List Str) (j:Nat) (wd:Int):Prop where
 P:Pu es ks ls j wd
 cr:∀ e∈es,e.n=""->e.man=""
 M:Mn es
 O:sW es ks
 B:X7 es wd
structure Wp (W:Wo) (ls:List Str) (j:Nat) (wd:Int):Prop where
 E:Eo W.es W.ks ls j wd
 hv:∀ p∈W.hs,∃ k z,p=(Sum.inr k,V.str z)/\PyData.strOk z=true
 hl:W.hs.length<=j
 dl:W.dd.length<=j
 nd:W.gone.Nodup
theorem Eo.up {es:List aN}{k:Nat} (E:Eo es ks ls j wd) (h:j<=k):Eo es ks ls k wd:=⟨E.P.up h,E.cr,E.M,E.O,E.B⟩
theorem X8 {es:List aN}{y:aN}{cO:Rw} (c:∀ e∈es,e.n=""->e.man="") (hst:gQ es ks y cO) (hok:cO.Ok ls) (hls:∀ n∈ls,n≠""/\PyData.strOk n=true):∀ e∈stp y es t1 t2 b1 b2 cO,e.n=""->e.man="":=by
 intro z hz hn;cases cO with
 | grant e n m a s =>
  rcases A0x.mp hz with q | q
  ·obtain ⟨y0,h0,rfl⟩:=dB q
   by_cases e1:y0.n=y.n
   ·rw [A0i e1] at hn ⊢;exact c y0 h0 hn
   ·rw [A0e e1] at hn ⊢;exact c y0 h0 hn
  ·rw [A0c.mp q] at hn;exact absurd hn (hls n hok.1).1
 | convey e m =>
  obtain ⟨y0,h0,rfl⟩:=dB hz
  by_cases e1:y0.n=y.n
  ·rw [A0i e1] at hn;exact absurd (show e="" by rw [<- hst.2,<- e1];exact hn) hok
  ·rw [A0e e1] at hn ⊢;exact c y0 h0 hn
 | lW e =>
  obtain ⟨y0,h0,rfl⟩:=A0j.mp hz;exact c y0 (A0J.mp h0).1 hn
theorem Eo.step {es:List aN}{y:aN}{cO:Rw} (E:Eo es ks ls j wd) (hst:gQ es ks y cO) (hok:cO.Ok ls) (tx:cO.Tx) (hls:∀ n∈ls,n≠""/\PyData.strOk n=true):Eo 0x43 (stK ks cO) ls (j+1) wd :=
 ⟨E.P.step hst hok hls,X8 E.cr hst hok hls,E.M.step tx,Nx E.O E.P hst hok hls,E.B.step hst hok⟩
theorem Eo.die {es:List aN}{y:aN} (E:Eo es ks ls j wd) (hy:y∈es) (hn:y.n≠"") (tr:∀ h,r=some h->PyData.strOk h=true) (hls:∀ n∈ls,n≠""/\PyData.strOk n=true):Eo (stp y es 0 0 0 0 (vf r y.n)) ks ls j wd:=by
 have S:gQ es ks y (vf r y.n):=by cases r <;> exact ⟨hy,rfl⟩
 have O:(vf r y.n).Ok ls:=by cases r <;> exact hn
 have T:(vf r y.n).Tx:=by
  cases r with
  | none=>exact E.P.W.ok y hy
  | some h=>exact ⟨E.P.W.ok y hy,tr h rfl⟩
 have E1:=E.step (t1:=0) (t2:=0) (b1:=0) (b2:=0) S O T hls;have ek:stK ks (vf r y.n)=ks:=by cases r <;> rfl
 rw [ek] at E1;refine ⟨⟨E1.P.W,fun z hz=>?_,E1.P.kn,?_,E.P.lk,E1.P.nl,E1.P.tot⟩,E1.cr,E1.M,E1.O,E1.B⟩
 ·cases r with
  | none =>
   obtain ⟨y0,h0,rfl⟩:=A0j.mp hz;exact E.P.bd y0 (A0J.mp h0).1
  | some h =>
   obtain ⟨y0,h0,rfl⟩:=dB hz;have:=E.P.bd y0 h0
   split <;> exact this
 ·have:=E.P.ln;cases r with
  | none =>
   show (List.map _ (List.filter _ es)).length<=_
   rw [bV];exact A0O (A0K _ _) this
  | some h =>
   show (List.map _ es).length<=_
   rw [bV];exact this
theorem Fo.eo {es es':List aN} (E:Eo es ks ls j wd) (tr:∀ h,r=some h->PyData.strOk h=true) (hls:∀ n∈ls,n≠""/\PyData.strOk n=true) (f:Fo r es ss es'):Eo es' ks ls j wd:=by
 induction f with
 | nil=>exact E
 | snoc _ hy hn ih=>exact ih.die hy hn tr hls
theorem nU {m:Str} (h:∀ p∈hs,∃ k z,p=(Sum.inr k,V.str z)/\PyData.strOk z=true) (e:YX hs m=some z):PyData.strOk z=true:=by
 unfold YX bH at e;cases q:hs.find? fun kv=>decide (kv.1=.inr m) with
 | none=>rw [q] at e;cases e
 | some p =>
  obtain ⟨k,z',rfl,ok⟩:=h p (List.mem_of_find?_eq_some q);rw [q] at e;injection e with e;rw [<- e];exact ok
theorem Tv (h:∀ p∈hs,∃ k z,p=(Sum.inr k,V.str z)/\PyData.strOk z=true):HV hs (YX hs):=fun m=>by
 unfold YX bH;cases q:hs.find? fun kv=>decide (kv.1=.inr m) with
 | none=>rfl
 | some p =>
  obtain ⟨k,z',rfl,ok⟩:=h p (List.mem_of_find?_eq_some q);rfl
theorem Tk.ok {gv:Str->Bool}{Pr:Str->Prop} (hp:∀ m z,hv m=some z->Pr z) {c:Option Str} (t:Tk hv gv l c r):(∀ z,c=some z->Pr z)->∀ z,r=some z->Pr z:=by
 induction t with
 | none=>intro _ z e;cases e
 | met _=>intro _ z e;cases e
 | alive _ _=>intro h z e;exact h z e
 | step _ _ _ ih=>intro _;exact ih fun z e=>hp _ z e
theorem Xa {k:Key}{Pr:Key×V->Prop} (h:∀ p∈hs,Pr p) (hv:Pr (k,v)):∀ p∈putK hs k v,Pr p:=by
 intro p hp;unfold putK at hp
 split at hp
 ·obtain ⟨p0,h0,rfl⟩:=A0j.mp hp
  by_cases c:p0.1=k
  ·rw [A0i c,c];exact hv
  ·rw [A0e c];exact h p0 h0
 ·rcases A0x.mp hp with q | q
  ·exact h p q
  ·rw [A0c.mp q];exact hv
theorem Jo.wp {W W':Wo}{ro:Ro}{w:Str} (J:Jo W dy ro w W') (R:Wp W ls j wd) (ok:ro.Ok ls) (tx:ro.Tx) (hls:∀ n∈ls,n≠""/\PyData.strOk n=true):Wp W' ls (j+1) wd:=by
 have up:Wp W ls (j+1) wd:=⟨R.E.up 0x2,R.hv,by have:=R.hl;lia,by have:=R.dl;lia,R.nd⟩;cases J with
 | no _=>exact up
 | tk _ _=>exact up
 | de _ _ _=>exact up
 | ac _ _ _ _ _=>exact up
 | hd _=>exact up
 | dx _=>exact up
 | gr t b hy he hn hm ha=>exact ⟨R.E.step (t2:=0) (b2:=0) (cO:=.grant _ _ _ _ _) ⟨hy,he,hn,ha⟩ ok tx hls,R.hv,up.hl,up.dl,R.nd⟩
 | hr hm=>exact ⟨up.E,Xa R.hv ⟨_,_,rfl,tx.2⟩,A0O (fO _ _ _) (Nat.succ_le_succ R.hl),up.dl,R.nd⟩
 | di hm hk hh hf =>
  refine ⟨(hf.eo R.E (fun h e=>Tk.ok (Pr:=fun z=>PyData.strOk z=true) (fun _ _=>nU R.hv) hk (fun z e=>nU R.hv e) h e) hls).up 0x2,R.hv,up.hl,?_,?_⟩
  ·rw [iw];have:=R.dl;simp;lia
  ·show ((W.dd++[_]).map _).Nodup
   rw [jw];exact v8 R.nd hm
end M
namespace L2
open PySem
theorem qD:bootBuiltins "dict"=some (.type "dict"):=by decide +kernel
end L2
namespace M
open PySem L2 PyProof.Rows
inductive zO (C:Addr) (vs:List V) (H:Hp) (Q:VK) (cD:XK):Prop
 | mk (x dx a1 a2 a3 a4 a5:Addr) (lo ho ow se br:List 0x18) (y dy b1 b2 b3 b4 b5:Addr) (lo' ho' ow' se' br':List 0x18) (D1 D2 D3 D4 E1 E2 E3 E4:List (Prod L2.Key PySem.PyData)) (_:vs=[.ref x,.ref y]) (_:cg C H x dx a1 a2 a3 a4 a5 lo ho ow se br) (_:cg C H y dy b1 b2 b3 b4 b5 lo' ho' ow' se' br') (_:wA H lo D1) (_:wA H ho D2) (_:wA H ow D3) (_:wA H se D4) (_:wA H lo' E1) (_:wA H ho' E2) (_:wA H ow' E3) (_:wA H se' E4) (_:Q (.bl (gR D1 E1&&(gR D2 E2&&(gR D3 E3&&gR D4 E4)))) H):zO C vs H Q cD
inductive oJ (C:Addr) (vs:List V) (H:Hp) (Q:VK) (cD:XK):Prop
 | mk (x dx a1 a2 a3 a4 a5:Addr) (lo ho ow se br:List 0x18) (n:Int) (_:vs=[.ref x]) (_:cg C H x dx a1 a2 a3 a4 a5 lo ho ow se br) (_:bH br (.inr "")=some (.int n)) (_:1<=n) (_:n<=9999) (_:∀ y dy b1 b2 b3 b4 b5 H',Same H H'->cg C H' y dy b1 b2 b3 b4 b5 lo ho ow se br->H y=none->H b1=none->H b2=none->H b3=none->H b4=none->H b5=none->QK b1 b2 b3 b4 b5->Q (.ref y) H'):oJ C vs H Q cD
theorem u64 {k:Nat} (r:cM k A):A.units+64<cLine:=by have:=r.un;lia
theorem Xb:aO ["self", "other"] ["self", "other"] (aH Gf):=0x0
theorem Tw (T:dX K C) (F:fK K "same" "Land.same" Gf f fd):aJ P w K mg base bM 1 f fd ["self", "other"] (zO C):=by
 refine F.ok Xb 0x1 0x3;obtain ⟨x,dx,a1,a2,a3,a4,a5,lo,ho,ow,se,br,y,dy,b1,b2,b3,b4,b5,lo',ho',ow',se',br',D1,D2,D3,D4,E1,E2,E3,E4,rfl,L,L',d1,d2,d3,d4,e1,e2,e3,e4,k⟩:=h;refine ⟨_,aG (aV (nj (je (zK (u64 hr)) 0xD (bA 0xF rfl) 0x61) (nj (je (zK (u64 hr)) 0xD (bA 0xF rfl) 0x61) (nj (je (zK (u64 hr)) 0xD (bA 0xF rfl) 0x61) (um (je (zK (u64 hr)) 0xD (bA 0xF rfl) 0x61)))))),?_⟩;refine ⟨_,rfl,x,C,dx,_,_,rfl,L.o,T.cl,T.n1,rfl,_,rfl,y,C,dy,_,_,rfl,L'.o,T.cl,T.n1,rfl,a1,b1,_,_,D1,E1,rfl,rfl,L.l1,L'.l1,d1,e1,_,rfl,?_⟩;cases h1:gR D1 E1 with
 | false=>rw [h1] at k;exact k
 | true =>
  rw [h1] at k;refine ⟨_,rfl,x,C,dx,_,_,rfl,L.o,T.cl,T.n2,rfl,_,rfl,y,C,dy,_,_,rfl,L'.o,T.cl,T.n2,rfl,a2,b2,_,_,D2,E2,rfl,rfl,L.l2,L'.l2,d2,e2,_,rfl,?_⟩;cases h2:gR D2 E2 with
  | false=>rw [h2] at k;exact k
  | true =>
   rw [h2] at k;refine ⟨_,rfl,x,C,dx,_,_,rfl,L.o,T.cl,T.n3,rfl,_,rfl,y,C,dy,_,_,rfl,L'.o,T.cl,T.n3,rfl,a3,b3,_,_,D3,E3,rfl,rfl,L.l3,L'.l3,d3,e3,_,rfl,?_⟩;cases h3:gR D3 E3 with
   | false=>rw [h3] at k;exact k
   | true =>
    rw [h3] at k;exact ⟨_,rfl,x,C,dx,_,_,rfl,L.o,T.cl,T.n4,rfl,_,rfl,y,C,dy,_,_,rfl,L'.o,T.cl,T.n4,rfl,a4,b4,_,_,D4,E4,rfl,rfl,L.l4,L'.l4,d4,e4,k⟩
theorem Kr:aO ["self", "other"] A5S (aH QJ):=0x0
theorem Tz (T:dX K C) (F:fK K "twin" "Land.twin" QJ f fd) (mo:Ws K w.params mg) (md:mg "dict"=none)  (G1:aJ P w K mg base bM 3 g1 d1 A5V (zu C)) (MK1:Mk K C g1) (mR:mg "Land"=some 0x87) (b1:Binds K d1 A5V []):aJ P w K mg base bM 5 f fd A5S (oJ C):=by
 obtain ⟨tc,mC⟩:=mo.crown;refine F.ok Kr 0x1 0x3;obtain ⟨x,dx,a1,a2,a3,a4,a5,lo,ho,ow,se,br,n,rfl,L,hb,n1,n2,k⟩:=h;have hr4:cM 4 _:=hr.mono 0x5;refine ⟨_,aq (aR (i:=1) Kr.nd rfl 0x7 (sY (CX:=bM) (E:=E0) MK1 G1 hr4 rfl mR b1 .nil aX (aj (bf 0x17 0xD 0x2F 0x4) aC)))
  (aq (dM 0xF (fU jO rfl md qD (aj 0xD aC)) rfl)
  (aq (dM 0xF (fU jO rfl md qD (aj 0xD aC)) rfl)
  (aq (dM 0xF (fU jO rfl md qD (aj 0xD aC)) rfl)
  (aq (dM 0xF (fU jO rfl md qD (aj 0xD aC)) rfl)
  (aq (dM 0xF (fU jO rfl md qD (aj 0xD aC)) rfl)
  (aG (aV 0xF))))))),?_⟩
 refine ⟨_,rfl,x,C,dx,_,_,rfl,L.o,T.cl,T.n5,rfl,a5,_,rfl,gZ L.l5 hb,fun y dy hy0 hdy0 hne=>?_⟩;refine ⟨y,dy,n,rfl,ao,n1,n2,fun c1 c2 c3 c4 c5 t0 H0 kx LA _ _ _ _ _ _ _ _=>⟨rfl,?_⟩⟩;have s0:Same H H0:=fun c o hc=>kx c o 0x83 (by
  rw [ak 0x83,ak (fun z=>by rw [z,hdy0] at hc;cases hc)];exact hc)
 clear kx;have y0:=LA.o;clear LA;refine ⟨_,rfl,x,C,dx,_,_,rfl,(L.same s0).o,T.cl,T.n1,rfl,a1,_,rfl,(L.same s0).l1,fun p1 hp1=>?_⟩;have w1:y≠p1:=au y0 hp1;refine ⟨_,rfl,y,C,dy,_,rfl,by rw [ak w1];exact y0,T.cl,T.n1,A0w rfl,?_⟩;have z1:H p1=none:=s0.free hp1;generalize hH:upd _ y _=H1;have y1:H1 y=some (.ins C dy (F5 p1 c2 c3 c4 c5)):=by rw [<- hH,ao];rfl
 have s1:Same H H1:=fun c o hc=>by rw [<- hH,ak 0x83,ak (fun z=>by rw [z,z1] at hc;cases hc)];exact s0 _ _ hc
 have e11:H1 p1=some (.dK lo):=by rw [<- hH,ak (A0m w1),ao]
 clear hH;refine ⟨_,rfl,x,C,dx,_,_,rfl,(L.same s1).o,T.cl,T.n2,rfl,a2,_,rfl,(L.same s1).l2,fun p2 hp2=>?_⟩;have w2:y≠p2:=au y1 hp2;refine ⟨_,rfl,y,C,dy,_,rfl,by rw [ak w2];exact y1,T.cl,T.n2,A0w rfl,?_⟩;have z2:H p2=none:=s1.free hp2;generalize hH:upd _ y _=H2;have y2:H2 y=some (.ins C dy (F5 p1 p2 c3 c4 c5)):=by rw [<- hH,ao];rfl
 have s2:Same H H2:=fun c o hc=>by rw [<- hH,ak 0x83,ak (fun z=>by rw [z,z2] at hc;cases hc)];exact s1 _ _ hc
 have e22:H2 p2=some (.dK ho):=by rw [<- hH,ak (A0m w2),ao]
 have n12:=au e11 hp2;have e12:H2 p1=some (.dK lo):=by rw [<- hH,ak (A0m w1),ak n12];exact e11
 clear hH;refine ⟨_,rfl,x,C,dx,_,_,rfl,(L.same s2).o,T.cl,T.n3,rfl,a3,_,rfl,(L.same s2).l3,fun p3 hp3=>?_⟩;have w3:y≠p3:=au y2 hp3;refine ⟨_,rfl,y,C,dy,_,rfl,by rw [ak w3];exact y2,T.cl,T.n3,A0w rfl,?_⟩;have z3:H p3=none:=s2.free hp3;generalize hH:upd _ y _=H3;have y3:H3 y=some (.ins C dy (F5 p1 p2 p3 c4 c5)):=by rw [<- hH,ao];rfl
 have s3:Same H H3:=fun c o hc=>by rw [<- hH,ak 0x83,ak (fun z=>by rw [z,z3] at hc;cases hc)];exact s2 _ _ hc
 have e33:H3 p3=some (.dK ow):=by rw [<- hH,ak (A0m w3),ao]
 have n13:=au e12 hp3;have e13:H3 p1=some (.dK lo):=by rw [<- hH,ak (A0m w1),ak n13];exact e12
 have n23:=au e22 hp3;have e23:H3 p2=some (.dK ho):=by rw [<- hH,ak (A0m w2),ak n23];exact e22
 clear hH;refine ⟨_,rfl,x,C,dx,_,_,rfl,(L.same s3).o,T.cl,T.n4,rfl,a4,_,rfl,(L.same s3).l4,fun p4 Xc=>?_⟩;have w4:y≠p4:=au y3 Xc;refine ⟨_,rfl,y,C,dy,_,rfl,by rw [ak w4];exact y3,T.cl,T.n4,A0w rfl,?_⟩;have z4:H p4=none:=s3.free Xc;generalize hH:upd _ y _=H4;have y4:H4 y=some (.ins C dy (F5 p1 p2 p3 p4 c5)):=by rw [<- hH,ao];rfl
 have s4:Same H H4:=fun c o hc=>by rw [<- hH,ak 0x83,ak (fun z=>by rw [z,z4] at hc;cases hc)];exact s3 _ _ hc
 have e44:H4 p4=some (.dK se):=by rw [<- hH,ak (A0m w4),ao]
 have n14:=au e13 Xc;have e14:H4 p1=some (.dK lo):=by rw [<- hH,ak (A0m w1),ak n14];exact e13
 have n24:=au e23 Xc;have e24:H4 p2=some (.dK ho):=by rw [<- hH,ak (A0m w2),ak n24];exact e23
 have n34:=au e33 Xc;have e34:H4 p3=some (.dK ow):=by rw [<- hH,ak (A0m w3),ak n34];exact e33
 clear hH;refine ⟨_,rfl,x,C,dx,_,_,rfl,(L.same s4).o,T.cl,T.n5,rfl,a5,_,rfl,(L.same s4).l5,fun p5 Vr=>?_⟩;have w5:y≠p5:=au y4 Vr;refine ⟨_,rfl,y,C,dy,_,rfl,by rw [ak w5];exact y4,T.cl,T.n5,A0w rfl,?_⟩;have z5:H p5=none:=s4.free Vr;generalize hH:upd _ y _=H5;have y5:H5 y=some (.ins C dy (F5 p1 p2 p3 p4 p5)):=by rw [<- hH,ao];rfl
 have s5:Same H H5:=fun c o hc=>by rw [<- hH,ak 0x83,ak (fun z=>by rw [z,z5] at hc;cases hc)];exact s4 _ _ hc
 have e55:H5 p5=some (.dK br):=by rw [<- hH,ak (A0m w5),ao]
 have n15:=au e14 Vr;have e15:H5 p1=some (.dK lo):=by rw [<- hH,ak (A0m w1),ak n15];exact e14
 have n25:=au e24 Vr;have e25:H5 p2=some (.dK ho):=by rw [<- hH,ak (A0m w2),ak n25];exact e24
 have n35:=au e34 Vr;have e35:H5 p3=some (.dK ow):=by rw [<- hH,ak (A0m w3),ak n35];exact e34
 have n45:=au e44 Vr;have e45:H5 p4=some (.dK se):=by rw [<- hH,ak (A0m w4),ak n45];exact e44
 clear hH;exact ⟨_,rfl,k y dy p1 p2 p3 p4 p5 H5 s5 ⟨y5,e15,e25,e35,e45,e55⟩ hy0 z1 z2 z3 z4 z5 ⟨n12,n13,n14,n15,n23,n24,n25,n34,n35,n45⟩⟩
end M
namespace L2
open PySem PySem.Spec PyProof.Rows
inductive DP (SP:Addr->Sp->Prop) (E:XK) (t:TA) (σ:L2.St) (Q:VK) (v:V) (H1:Hp):Prop
 | mk (f:Addr) (sp:Sp) (_:v=.ref f) (_:SP f sp) (_:t σ H1 fun vs H2=>sp vs H2 Q E):DP SP E t σ Q v H1
def a0R (SP:Addr->Sp->Prop) (E:XK) (tn:TE) (t:TA):TE:=fun σ H Q=>tn σ H fun v H1=>DP SP E t σ Q v H1
theorem DQ {E:XK}{SP:Addr->Sp->Prop}{x:Str}{p:Pos}{tn:TE}{es:List Expr}{t:TA} (hn:PE X (.Name x p) tn)
  (hS:∀ f sp,SP f sp->∃ (k:Nat) (fd:FuncData) (ps:List Str),aJ X.prog X.w X.K X.mg X.base CX k f fd ps sp/\cM k X.A/\PySem.W.keepIn X.K 0x4E=true/\Binds X.K fd ps []) (hx:Passes CX X E)
  (ha:PA X (e::es) t) (he:starEach (e::es) X.env=0x3E::starEach es X.env:=by rfl) (hpl:(0x4D).any (·.1)=false:=by rfl) :
  PE X (.Call (.Name x p) (e::es) [] pos) (a0R SP E tn t):=by
 intro pins s σ H Q I h;refine A1V (cH (hn pins s σ H _ I h) fun u s0 zq=>?_);obtain ⟨v,H0,I0,r0,f,sp,ev,hsp,q0⟩:=zq;subst ev;cases r0;obtain ⟨k,fd,ps,F,hr,hk,hb⟩:=hS f sp hsp;refine A3O (h₀:=X.base) I0.ok.mod.kin hk (cH (ha pos pins s0 σ H0 _ I0 q0) fun us s1 ⟨vs,H1,I1,r,q⟩=>⟨I1.oO,?_⟩) he hpl;refine uE F hr hb .nil hx I1 r ?_;rw [A1u];exact q
inductive DW (ty tx:TE) (σ:L2.St) (Q:VK) (x:V) (H1:Hp):Prop
 | mk (a:Addr) (_:x=.ref a) (_:IsD H1 a) (_:ty σ H1 fun y H2=>tx σ H2 fun z H3=>∃ kvs k,H3 a=some 0x15/\y=kV k/\kvs.length<sizeLine/\(∀ v,bH kvs k=some v->Q v H3)/\(bH kvs k=none->Q z (upd H3 a (.dK (putK kvs k z))))):DW ty tx σ Q x H1
def a0S (td ty tx:TE):TE:=fun σ H Q=>td σ H fun x H1=>DW ty tx σ Q x H1
section
variable {k:Key}
theorem TF {z:V}{r:Value} (I:Inv X pins σ H s) (e:H a=some 0x15) (ry:RelV (kV k) u) (rz:RelV z r) (lt:kvs.length<sizeLine)
  (h1:∀ v w' s',bH kvs k=some v->Inv X pins σ H s'->RelV v w'->Q w' s') (h2:∀ s',bH kvs k=none->Inv X pins σ (upd H a (.dK (putK kvs k z))) s'->Q r s') :
  wpAny 0x9 A (call (.builtin "dict.setdefault") [.ref a,u,r]) Q E s:=by
 obtain ⟨zz,hd,vs,rel,dd⟩:=oU I.hok e;refine A2w A4r dd.typeIs PySem.F.entry_dict_setdefault (PySem.F.args_dict_setdefault_3 _ _ _) (kt_meets_setdefault 0x36 a (nO ry) hd r)
  ⟨vs,dd,by rw [<- rel.length];exact zz,fun w' hw=>?_,fun hn h' sI hs=>?_⟩
 ·have:=rel.val k;rw [hw] at this;cases l:bH kvs k with
  | none=>rw [l] at this;exact False.elim this
  | some v=>rw [l] at this;exact h1 v w' _ l (I.tok _) this
 ·have:=rel.val k;rw [hn] at this;have l:bH kvs k=none:=by
   cases l:bH kvs k with
   | none=>rfl
   | some v=>rw [l] at this;exact False.elim this
  refine h2 _ l ?_;have he:∃ q,h'.get? a=some q:=let ⟨q,_,_,hq,_⟩:=sI;⟨q,hq⟩
  have hl:(putK kvs k z).length<=sizeLine:=by have:=fO kvs k z;lia
  exact jf I 0x57 hs he (uK hl hd (rel.put k rz) sI)
end
section
variable {o f:Expr}{tx:TE}
theorem TJ (ho:PE X o td) (he:PE X e ty) (hf:PE X f tx) (m:M2 X o "setdefault" apos e f cpos):PE X (.Call (.Attribute o "setdefault" apos) [e,f] [] cpos) (a0S td ty tx):=by
 intro pins s σ H Q I h;refine A3p m.base m.few m.line A1L A4r PySem.F.type_dict_setdefault (cH 0x5E fun u s1 zq=>?_);obtain ⟨x,H1,I1,rx,a,ex,d,q1⟩:=zq;subst ex;obtain rfl:u=Value.ref a:=rx;obtain ⟨t1,t2,_⟩:=yS I1 d;refine ⟨t1,t2,?_⟩;rw [m.trees];refine A1k rfl (A2n (A1U (cH (he pins s1 σ H1 _ I1 q1) fun iv s2 ⟨y,H2,I2,ry,q2⟩ =>
  A1U (cH (hf pins s2 σ H2 _ I2 q2) fun fv s3 ⟨z,H3,I3,rz,kvs,k,ea,ey,lt,q3,q4⟩=>A2N ?_))))
 subst ey;exact TF I3 ea ry rz lt (fun v w' s4 l I4 cO=>⟨v,H3,I4,cO,q3 v l⟩) fun s4 l I4=>⟨z,_,I4,rz,q4 l⟩
end
end L2
namespace M
open PySem L2 PyProof.Rows
abbrev zP:Stmt:=inClass (top 26) 0
abbrev vq:Stmt:=top 27
abbrev sWN:Stmt:=top 28
abbrev sWL:Stmt:=top 31
abbrev sDH:Stmt:=top 34
abbrev sDG:Stmt:=top 35
abbrev sDD:Stmt:=top 40
structure mO (K:PySem.W.Frag) (CR:Addr):Prop where
 cl:Cls K CR
 n1:dJ K CR "ground"
 n2:dJ K CR "kin"
 n3:dJ K CR "used"
 n4:dJ K CR "lieges"
 n5:dJ K CR "deaths"
abbrev FRm (g k u li de:Addr):List 0x81:=[("ground",.ref g),("kin",.ref k),("used",.ref u),("lieges",.ref li),("deaths",.ref de)]
def Vs {α:Type} (g:α->Str) (f:α->V) (l:List α):List 0x2C:=l.map fun a=>(Sum.inr (g a),f a)
theorem TQ {α:Type}{g:α->Str}{f:α->V}{n:Str} (l:List α):(bH (Vs g f l) 0x29).isSome=decide (n∈l.map g):=by
 unfold Vs bH
 induction l with
 | nil=>rfl
 | cons a r ih =>
  rw [A0h]
  by_cases h:g a=n
  ·rw [A1O (by simp [h]),<- h];simp
  ·rw [A1z (by simp;exact h),ih];simp [A0m h]
theorem zQ {α:Type}{g:α->Str}{f:α->V}{a:α}{l:List α} (h:g a∉l.map g):putK (Vs g f l) (.inr (g a)) (f a)=Vs g f (l++[a]):=by
 have hf:(Vs g f l).any (fun kv=>decide (kv.1=(Sum.inr (g a):Key)))=false:=by
  rw [A3T];intro kv hkv;obtain ⟨b,hb,rfl⟩:=A0j.mp hkv;simp only [A2a];exact fun z=>h (by injection z with z;rw [<- z];exact A0j.mpr ⟨b,hb,rfl⟩)
 unfold putK;rw [A0e (by rw [hf];exact A0o)];unfold Vs;rw [jw];rfl
theorem zR {α:Type}{g:α->Str}{f:α->V} (l:List α):(Vs g f l).length=l.length:=bV ..
abbrev usL (ks:List Str):=Vs id (fun _=>V.bl true) ks
abbrev TX (dd:List (Str×Int)):=Vs (·.1) (fun _=>V.bl true) dd
abbrev Xd (dd:List (Str×Int)):=Vs (·.1) (fun p=>V.int p.2) dd
structure Rm where
 z:Addr
 dz:Addr
 k:Addr
 dk:Addr
 hh:Addr
 gg:Addr
 u:Addr
 li:Addr
 de:Addr
structure eF (CR CK C:Addr) (H:Hp) (m:Rm) (q:Ad) (W:Wo):Prop where
 o:H m.z=some (.ins CR m.dz (FRm q.x m.k m.u m.li m.de))
 K:oW CK H m.k m.dk m.hh m.gg W.hs (TX W.dd)
 U:H m.u=some (.dK (usL W.ks))
 D:H m.de=some (.dK (Xd W.dd))
 L:Ln C q H W.es
theorem eF.same {CR:Addr}{m:Rm}{q:Ad}{W:Wo} (a:eF CR CK C H m q W) (s:Same H H'):eF CR CK C H' m q W:=⟨s _ _ a.o,a.K.same s,s _ _ a.U,s _ _ a.D,a.L.same s⟩
theorem eF.dead {CR:Addr}{m:Rm}{q:Ad}{W:Wo} (a:eF CR CK C H m q W) (z:Str):(bH (TX W.dd) (.inr z)).isSome=decide (z∈W.gone):=TQ _
def St (W:Wo):Ro->Prop
 | .grant e n m a _=>∃ y∈W.es,y.n=e/\n∉W.ks/\m∉W.gone/\a<=y.own
 | .heir m _=>m∉W.gone
 | .death m=>m∉W.gone
def Wd2 (W:Wo) (dy:Int) (ro:Ro) (w:Str):Prop:=(w≠"stands"/\Jo W dy ro w W)\/(w="stands"/\St W ro)
inductive nW (CR CK C:Addr) (ok:Ro->Bool) (vs:List V) (H:Hp) (Q:VK) (cD:XK):Prop
 | mk (m:Rm) (q:Ad) (W:M.Wo) (r:Addr) (ro:M.Ro) (dy:Int) (_:vs=[.ref m.z,.ref r]) (_:eF CR CK C H m q W) (_:(nms W.es).Nodup) (_:H r=some (.tup (Ro.vs dy ro))) (_:ok ro=true) (_:∀ (w:Str) (H':Hp),Same H H'->Wd2 W dy ro w->Q (.str w) H'):nW CR CK C ok vs H Q cD
def Hj:Ro->Bool
 | .grant ..=>true
 | _=>false
def Ny:Ro->Bool
 | .heir ..=>true
 | _=>false
def NK:Ro->Bool
 | .death ..=>true
 | _=>false
section
variable {CR:Addr}
theorem TY:aO ["realm", "row", "estate", "new", "man", "acres"] A5I (aH sWN):=0x0
theorem a2p (T:dX K C) (TK:wB K CK) (TR:mO K CR) (F:fK K "word_of_new" "word_of_new" sWN f fd)  (mS:mg "STANDS"=some (.str "stands" tS)) 
  (G1:aJ P w K mg base bM 1 g1 d1 A5y (ql C)) (m1:Meth K C "there" g1) (b1:Binds K d1 A5y [])
  (G2:aJ P w K mg base bM 1 g2 d2 A5K (v9 CK)) (m2:Meth K CK "is_dead" g2) (b2:Binds K d2 A5K [])
  (G3:aJ P w K mg base bM 3 g3 d3 A5y (JR C)) (m3:Meth K C "own" g3) (b3:Binds K d3 A5y []) :
  aJ P w K mg base bM 4 f fd A5I (nW CR CK C Hj):=by
 refine F.ok TY 0x1 0x3;obtain ⟨m,q,W,r,ro,dy,rfl,R,nd,hx,hk,k⟩:=h;have hr1:cM 1 _:=hr.mono 0x5;refine ⟨_,aq (yG (fj JG 0xF (cF aA) (cF aA)) (nu rfl (bT (bC (i:=2) TY.nd rfl 0x7) (bT (bC (i:=3) TY.nd rfl 0x7) (bT (bC (i:=4) TY.nd rfl 0x7) (bT (bC (i:=5) TY.nd rfl 0x7) gM))))))
  (aq (bN (gP (dY (bU (CX:=bM) (E:=E0) 0xD T.cl m1 G1 hr1 b1 .nil aX 0x33))) (aG (aV aK)) aU)
  (aq (bN (yF (yR 0x17 0x5D 0xD) 0x11) (aG (aV aK)) aU)
  (aq (bN (dY (bU (CX:=bM) (E:=E0) 0xD TK.cl m2 G2 hr1 b2 .nil aX (aj (pv 4) aC))) (aG (aV aK)) aU)
  (aq (bN (aQ ux (bU (CX:=bM) (E:=E0) 0xD T.cl m3 G3 hr b3 .nil aX 0x33) (pv 5) 0x61) (aG (aV aK)) aU)
  (aG (aV (cR rfl mS ⟨_,rfl⟩ (v:=.str "stands")))))))),?_⟩
 cases ro with
 | heir _ _=>cases hk
 | death _=>cases hk
 | grant e n mn a s =>
 refine ⟨_,rfl,_,rfl,_,rfl,r,_,rfl,cj.of hx,fun p H1 ho=>?_⟩;obtain ⟨hp,s1⟩:=uM ho;refine ⟨p,[.str e,.str n,.str mn,.int a],rfl,hp,rfl,_,_,rfl,_,_,rfl,_,_,rfl,_,_,rfl,rfl,?_⟩;have R1:=R.same s1;clear ho hp;refine ⟨_,rfl,m.z,CR,m.dz,_,_,rfl,R1.o,TR.cl,TR.n1,rfl,q.x,q.dx,_,rfl,R1.L.o,rfl,_,rfl,?_⟩;refine ⟨q.x,q.dx,q.a1,q.a2,q.a3,q.a4,q.a5,_,_,_,_,_,_,rfl,R1.L,?_⟩;rw [nQ];refine ⟨_,rfl,?_⟩
 by_cases he:e∈nms W.es
 rotate_left
 ·rw [A0p he];exact dU (k _ _ s1 (.inl ⟨by decide +kernel,.no he⟩))
 rw [A0k he];refine cu ?_;refine ⟨_,rfl,_,rfl,m.z,CR,m.dz,_,_,rfl,R1.o,TR.cl,TR.n3,rfl,m.u,_,rfl,dW.k (k:=.inr n) R1.U,_,rfl,?_⟩;rw [TQ,List.map_id]
 by_cases hn:n∈W.ks
 ·rw [A0k hn];exact dU (k _ _ s1 (.inl ⟨by decide +kernel,.tk he hn⟩))
 rw [A0p hn];refine cu ?_;refine ⟨_,rfl,m.z,CR,m.dz,_,_,rfl,R1.o,TR.cl,TR.n2,rfl,m.k,m.dk,_,rfl,R1.K.o,rfl,_,rfl,m.k,m.dk,m.hh,m.gg,_,_,_,rfl,R1.K,_,rfl,?_⟩;rw [R1.dead]
 by_cases hd:mn∈W.gone
 ·rw [A0k hd];exact dU (k _ _ s1 (.inl ⟨by decide +kernel,.de he hn hd⟩))
 rw [A0p hd];refine cu ?_;obtain ⟨y,hy,YW⟩:=eZ he;refine ⟨_,rfl,m.z,CR,m.dz,_,_,rfl,R1.o,TR.cl,TR.n1,rfl,q.x,q.dx,_,rfl,R1.L.o,rfl,_,rfl,?_⟩;refine ⟨q.x,q.dx,q.a1,q.a2,q.a3,q.a4,q.a5,_,_,_,_,_,_,_,rfl,R1.L,by rw [nQ];exact A0k he,by rw [<- YW];exact cX nd hy,_,rfl,_,_,rfl,rfl,_,rfl,iU 0x45 0x45⟩
 ·have h:=c;simp only [A2a] at h;exact k _ _ s1 (.inl ⟨by decide +kernel,.ac hy YW hn hd h⟩)
 ·have h:=c;simp only [A2a] at h;exact k _ _ s1 (.inr ⟨rfl,y,hy,YW,hn,hd,by lia⟩)
theorem scWL:aO A5I A5I (aH sWL):=0x0
theorem a2q (TK:wB K CK) (TR:mO K CR) (F:fK K "word_of_living" "word_of_living" sWL f fd)  (mS:mg "STANDS"=some (.str "stands" tS)) 
  (G2:aJ P w K mg base bM 1 g2 d2 A5K (v9 CK)) (m2:Meth K CK "is_dead" g2) (b2:Binds K d2 A5K []) :
  aJ P w K mg base bM 4 f fd A5I (nW CR CK C fun ro=>Ny ro||NK ro):=by
 refine F.ok scWL 0x1 0x3;obtain ⟨m,q,W,r,ro,dy,rfl,R,nd,hx,hk,k⟩:=h;have hr1:cM 1 _:=hr.mono 0x5;refine ⟨_,aq (bN (dY (bU (CX:=bM) (E:=E0) 0xD TK.cl m2 G2 hr1 b2 .nil aX (aj 0x19 aC))) (aG (aV aK)) aU)
  (aG (aV (cR rfl mS ⟨_,rfl⟩ (v:=.str "stands")))),?_⟩
 obtain ⟨z,hz,hv,hs⟩:∃ z,(Ro.vs dy ro)[2]?=some (.str z)/\(z∈W.gone->Jo W dy ro "dead" W)/\(z∉W.gone->St W ro):=by
  cases ro with
  | grant _ _ _ _ _=>cases hk
  | heir a b=>exact ⟨a,rfl,.hd,id⟩
  | death a=>exact ⟨a,rfl,.dx,id⟩
 refine ⟨_,rfl,m.z,CR,m.dz,_,_,rfl,R.o,TR.cl,TR.n2,rfl,m.k,m.dk,_,rfl,R.K.o,rfl,_,rfl,r,_,_,_,rfl,rfl,cj.of hx,aL (j:=2) hz,m.k,m.dk,m.hh,m.gg,_,_,_,rfl,R.K,_,rfl,?_⟩;rw [R.dead]
 by_cases hd:z∈W.gone
 ·rw [A0k hd];exact dU (k _ _ 0x5C (.inl ⟨by decide +kernel,hv hd⟩))
 ·rw [A0p hd];exact cu (k _ _ 0x5C (.inr ⟨rfl,hs hd⟩))
end
def jV (m:Rm) (q:Ad):List Addr:=[q.a1,q.a2,q.a3,q.a4,q.a5,m.u,m.hh,m.gg,m.de]
def Sep (m:Rm) (q:Ad):Prop:=(jV m q).Nodup
def iV (m:Rm) (q:Ad) (H H':Hp):Prop:=∀ c u,c∉jV m q->H c=some u->H' c=some u
theorem Sep.a5 {m:Rm}{q:Ad} (S:Sep m q):QK q.a1 q.a2 q.a3 q.a4 q.a5:=⟨bW S 0 1 rfl rfl 0x5,bW S 0 2 rfl rfl 0x5,bW S 0 3 rfl rfl 0x5,bW S 0 4 rfl rfl 0x5,bW S 1 2 rfl rfl 0x5,bW S 1 3 rfl rfl 0x5,bW S 1 4 rfl rfl 0x5,bW S 2 3 rfl rfl 0x5,bW S 2 4 rfl rfl 0x5,bW S 3 4 rfl rfl 0x5⟩
theorem iV.trans {m:Rm}{q:Ad} (a:iV m q H H1) (b:iV m q H1 H2):iV m q H H2:=fun c u h e=>b c u h (a c u h e)
theorem iV.same {m:Rm}{q:Ad} (s:Same H H'):iV m q H H':=fun c u _ e=>s c u e
theorem iV.put {m:Rm}{q:Ad} (h:a∈jV m q):iV m q H (upd H a o):=fun c u hc e=>by rw [ak fun z=>hc (by rw [z];exact h)];exact e
theorem Nr.Hl {m:Rm}{q:Ad} (o:Nr q H H'):iV m q H H':=fun c u h e=>by
 simp only [jV,A0d,A0u,A1m,A5c] at h;exact o c u h.1 h.2.1 h.2.2.1 h.2.2.2.1 h.2.2.2.2.1 e
theorem eF.out {CR:Addr}{m:Rm}{q:Ad}{W:Wo} (a:eF CR CK C H m q W) (o:iV m q H H') {u:HO} (hn:∀ kvs,u≠.dK kvs) (hc:H c=some u):H' c=some u:=by
 have ne:∀ {b:Addr}{kvs:List 0x2C},H b=some 0x15->c≠b:=fun hb=>aZ hc hb (hn _);refine o c u ?_ hc;simp only [jV,A0d,A0u,A1m,A5c];exact ⟨ne a.L.l1,ne a.L.l2,ne a.L.l3,ne a.L.l4,ne a.L.l5,ne a.U,ne a.K.h,ne a.K.g,ne a.D⟩
theorem eF.a0T {CR:Addr}{m:Rm}{q:Ad}{W:Wo}{es':List aN} (a:eF CR CK C H m q W) (S:Sep m q) (o:Nr q H H') (L:Ln C q H' es'):eF CR CK C H' m q { W with es:=es' }:=by
 have i:=fun {c D d:Addr}{fs:List (Str×V)} (h:H c=some (.ins D d fs))=>a.out o.Hl 0x21 h;have g:=fun {c:Addr}{u:HO} (j:Nat) (hj:(jV m q)[j]?=some c) (h5:4<j) (h:H c=some u)=>o c u (bW S j 0 hj rfl 0x2) (bW S j 1 hj rfl 0x2) (bW S j 2 hj rfl 0x2) (bW S j 3 hj rfl 0x2) (bW S j 4 hj rfl 0x2) h;exact ⟨i a.o,⟨i a.K.o,g 6 rfl 0x5 a.K.h,g 7 rfl 0x5 a.K.g⟩,g 5 rfl 0x5 a.U,g 8 rfl 0x5 a.D,L⟩
section
variable {CR:Addr}{m:Rm}{q:Ad}{W:Wo}
theorem eF.kept (a:eF CR CK C H m q W) (S:Sep m q)  (i:Nat) (hi:(jV m q)[i]?=some c) {kv0:List 0x2C} (h0:H c=some (.dK kv0)):(∀ {b D d:Addr}{fs:List 0x81},H b=some (.ins D d fs)->(upd H c o) b=some (.ins D d fs))/\∀ (j:Nat) {b:Addr}{u:HO},(jV m q)[j]?=some b->j≠i->H b=some u->(upd H c o) b=some u :=
 ⟨fun h=>by rw [ak (aZ h h0 0x6)];exact h,fun j b u hj hn h=>by rw [ak (bW S j i hj hi hn)];exact h⟩
theorem eF.used (a:eF CR CK C H m q W) (S:Sep m q):eF CR CK C (upd H m.u (.dK (usL ks'))) m q { W with ks:=ks' }:=by
 obtain ⟨i,g⟩:=a.kept S (o:=.dK (usL ks')) 5 rfl a.U;exact ⟨i a.o,⟨i a.K.o,g 6 rfl 0x5 a.K.h,g 7 rfl 0x5 a.K.g⟩,ao,g 8 rfl 0x5 a.D,i a.L.o,g 0 rfl 0x5 a.L.l1,g 1 rfl 0x5 a.L.l2,g 2 rfl 0x5 a.L.l3,g 3 rfl 0x5 a.L.l4,g 4 rfl 0x5 a.L.l5⟩
theorem eF.heirs {hs':List 0x2C} (a:eF CR CK C H m q W) (S:Sep m q):eF CR CK C (upd H m.hh (.dK hs')) m q { W with hs:=hs' }:=by
 obtain ⟨i,g⟩:=a.kept S (o:=.dK hs') 6 rfl a.K.h;exact ⟨i a.o,⟨i a.K.o,ao,g 7 rfl 0x5 a.K.g⟩,g 5 rfl 0x5 a.U,g 8 rfl 0x5 a.D,i a.L.o,g 0 rfl 0x5 a.L.l1,g 1 rfl 0x5 a.L.l2,g 2 rfl 0x5 a.L.l3,g 3 rfl 0x5 a.L.l4,g 4 rfl 0x5 a.L.l5⟩
theorem eF.died {sI:List (Str×Int)} (a:eF CR CK C H m q W) (S:Sep m q):eF CR CK C (upd (upd H m.gg (.dK (TX sI))) m.de (.dK (Xd sI))) m q { W with dd:=sI }:=by
 obtain ⟨i,g⟩:=a.kept S (o:=.dK (TX sI)) 7 rfl a.K.g;have n:=fun (j:Nat) {b:Addr} (hj:(jV m q)[j]?=some b) (h:j≠8)=>bW S j 8 hj rfl h;have d0:=g 8 rfl 0x5 a.D;have i2:=fun {b D d:Addr}{fs:List (Str×V)} (h:H b=some (.ins D d fs))=>(show (upd (upd H m.gg (.dK (TX sI))) m.de (.dK (Xd sI))) b=some (.ins D d fs) by rw [ak (aZ (i h) d0 0x6)];exact i h)
 have g2:=fun (j:Nat) {b:Addr}{u:HO} (hj:(jV m q)[j]?=some b) (h7:j≠7) (h8:j≠8) (h:H b=some u)=>(show (upd (upd H m.gg (.dK (TX sI))) m.de (.dK (Xd sI))) b=some u by rw [ak (n j hj h8)];exact g j hj h7 h)
 exact ⟨i2 a.o,⟨i2 a.K.o,g2 6 rfl 0x5 0x5 a.K.h,by rw [ak (n 7 rfl 0x5),ao]⟩,g2 5 rfl 0x5 0x5 a.U,ao,i2 a.L.o,g2 0 rfl 0x5 0x5 a.L.l1,g2 1 rfl 0x5 0x5 a.L.l2,g2 2 rfl 0x5 0x5 a.L.l3,g2 3 rfl 0x5 0x5 a.L.l4,g2 4 rfl 0x5 0x5 a.L.l5⟩
end
def a2r (CR CK C:Addr) (m:Rm) (q:Ad) (H:Hp) (W:Wo) (dy:Int) (ro:Ro) (Q:VK):Prop :=
 ∀ W' H',Jo W dy ro "stands" W'->eF CR CK C H' m q W'->(∀ e∈W'.es,jF H' e.ta e.due.1 e.due.2)->iV m q H H'->Q .non H'
inductive jP (CR CK C:Addr) (ok:Ro->Bool) (vs:List V) (H:Hp) (Q:VK) (cD:XK):Prop
 | mk (m:Rm) (q:Ad) (W:M.Wo) (ls:List Str) (j:Nat) (r:Addr) (ro:M.Ro) (dy wd:Int) (_:vs=[.ref m.z,.ref r]) (_:eF CR CK C H m q W) (_:Sep m q) (_:Wp W ls j wd) (_:(∀ e∈W.es,jF H e.ta e.due.1 e.due.2)) (_:St W ro) (_:Ro.Ok ls ro) (_:Ro.Tx ro) (_:0x8F) (_:j<=60) (_:H r=some (.tup (Ro.vs dy ro))) (_:ok ro=true) (_:a2r CR CK C m q H W dy ro Q):jP CR CK C ok vs H Q cD
section
variable {CR:Addr}
theorem NP:aO ["realm", "row", "estate", "new", "man", "acres", "service"] A5I (aH sDG):=0x0
theorem a2s (T:dX K C) (TR:mO K CR) (F:fK K "do_grant" "do_grant" sDG f fd) 
  (G1:aJ P w K mg base bM 4 g1 d1 A5Q (tG C)) (m1:Meth K C "grant" g1) (b1:Binds K d1 A5Q []) :
  aJ P w K mg base bM 5 f fd A5I (jP CR CK C Hj):=by
 refine F.ok NP 0x1 0x3;obtain ⟨m,q,W,ls,j,r,ro,dy,wd,rfl,R,S,WP,fr,hst,hok,htx,hls,hj,hx,hk,k⟩:=h;refine ⟨_,aq (yG (fj JG 0xF (cF aA) fY) (nu rfl (bT (bC (i:=2) NP.nd rfl 0x7) (bT (bC (i:=3) NP.nd rfl 0x7) (bT (bC (i:=4) NP.nd rfl 0x7) (bT (bC (i:=5) NP.nd rfl 0x7) (bT (bC (i:=6) NP.nd rfl 0x7) gM)))))))
  (aq (bL (bU (CX:=bM) (E:=E0) 0xD T.cl m1 G1 hr b1 .nil aX (aj 0x2B (aj 0x5D (aj (pv 4) (aj (pv 5) (aj (pv 6) aC)))))))
  (aG (dR 0x17 0xD 0x5D Bt rfl))),?_⟩
 cases ro with
 | heir _ _=>cases hk
 | death _=>cases hk
 | grant e n mn a s =>
 refine ⟨_,rfl,_,rfl,r,_,rfl,cj.of hx,fun p H1 ho=>?_⟩;obtain ⟨hp,s1⟩:=uM ho;refine ⟨p,[.str e,.str n,.str mn,.int a,.int s],rfl,hp,rfl,_,_,rfl,_,_,rfl,_,_,rfl,_,_,rfl,_,_,rfl,rfl,?_⟩;have R1:=R.same s1;clear ho hp;obtain ⟨y,hy,he,hn,hm,ha⟩:=hst;have PU:=WP.E.P;have hst:gQ W.es W.ks y (.grant e n mn a s):=⟨hy,he,hn,ha⟩;refine ⟨_,rfl,m.z,CR,m.dz,_,_,rfl,R1.o,TR.cl,TR.n1,rfl,q.x,q.dx,_,rfl,R1.L.o,rfl,_,rfl,_,rfl,_,rfl,_,rfl,_,rfl,?_⟩;dsimp only [nH,List.cons_append,List.nil_append];refine Tf (E:=E0) PU R1.L S.a5 (fun e he=>s1 _ _ (fr e he)) hst hok hls hj fun t1 t2 H2 hL fN o=>?_;have R2:=R1.a0T S o (hL 0 0);have hU:H2 m.u=some (.dK (usL W.ks)):=R2.U;have eU:putK (usL W.ks) 0x29 (.bl true)=usL (W.ks++[n]):=zQ (g:=id) (a:=n) (by rw [List.map_id];exact hn);refine ⟨_,rfl,m.z,CR,m.dz,_,_,rfl,R2.o,TR.cl,TR.n3,rfl,_,rfl,m.u,_,rfl,jc.k (k:=.inr n) hU (bR (by rw [zR];have:=PU.lk;lia)),?_⟩;rw [eU];have o2:=(iV.same s1).trans ((Nr.Hl (m:=m) o).trans (iV.put (a:=m.u) (o:=.dK (usL (W.ks++[n]))) (by simp [jV])));refine k _ _ (.gr t1 0 hy he hn hm ha) ((R1.a0T S o (hL 0 0)).used S) ?_ o2;refine qC (u1:=t1) (u2:=t2) (t1:=t1) (t2:=0) (b1:=0) (b2:=0) (·.ta) PU.W.nd hst (fun e he=>R.out o2 0x21 (fr e he)) ?_ 0x4 0x4 (fun _ _ _ _=>rfl) (fun _ _ _ _ _=>rfl);exact R2.out (iV.put (by simp [jV])) 0x21 fN
theorem scDH:aO A5I A5I (aH sDH):=0x0
theorem a2t (TK:wB K CK) (TR:mO K CR) (F:fK K "do_heir" "do_heir" sDH f fd) 
  (G1:aJ P w K mg base bM 4 g1 d1 ["self", "man", "heir"] (Hi CK)) (m1:Meth K CK "name_heir" g1) (b1:Binds K d1 ["self", "man", "heir"] []) :
  aJ P w K mg base bM 5 f fd A5I (jP CR CK C Ny):=by
 refine F.ok scDH 0x1 0x3;obtain ⟨m,q,W,ls,j,r,ro,dy,wd,rfl,R,S,WP,fr,hst,hok,htx,hls,hj,hx,hk,k⟩:=h;refine ⟨_,aG (bL (bU (CX:=bM) (E:=E0) 0xD TK.cl m1 G1 hr b1 .nil aX (aj 0x19 (aj 0x19 aC)))),?_⟩;cases ro with
 | grant _ _ _ _ _=>cases hk
 | death _=>cases hk
 | heir a b =>
 have o2:iV m q H (upd H m.hh (.dK (putK W.hs (.inr a) (.str b)))):=iV.put (by simp [jV]);exact ⟨_,rfl,m.z,CR,m.dz,_,_,rfl,R.o,TR.cl,TR.n2,rfl,m.k,m.dk,_,rfl,R.K.o,rfl,_,rfl,r,_,_,_,rfl,rfl,cj.of hx,aL (j:=2) rfl,_,rfl,r,_,_,_,rfl,rfl,cj.of hx,aL (j:=3) rfl,m.k,m.dk,m.hh,m.gg,_,_,a,b,rfl,R.K,hok,by have:=WP.hl;lia,k _ _ (.hr hst) (R.heirs S) (fun e he=>R.out o2 0x21 (fr e he)) o2⟩
theorem Fo.keep {es e1:List aN}{n:Str} (f:Fo r es ss e1) (h:n∈nms es):n∉ss->n∈nms e1:=by
 induction f with
 | nil=>intro _;exact h
 | @snoc ss e1 y f hy hn ih =>
  intro hs;obtain ⟨x,hx,hxn⟩:=eZ (ih fun z=>hs (A1l _ z));have ne:x.n≠y.n:=fun z=>hs (A0y _ (by rw [<- hxn,z];exact A0c.mpr rfl));cases r with
  | none=>exact A0j.mpr ⟨_,A0j.mpr ⟨x,A0J.mpr ⟨hx,A0k ne⟩,rfl⟩,hxn⟩
  | some h =>
   show n∈nms (mod y.n (n6 h) e1)
   rw [qz (g:=n6 h) 0x10];exact A0j.mpr ⟨x,hx,hxn⟩
theorem Ho {es:List aN}{m:Str} (hb:vm es m ss) (nd:(0x55).Nodup):ss.Nodup/\∀ n∈ss,∃ y∈es,y.n=n/\y.man=m :=
 ⟨hb.1.nodup_iff.mpr ((A4u.map _).nodup nd),fun n hn=>by
  obtain ⟨y,hy,rfl⟩:=A0j.mp (hb.1.mem_iff.mp hn);exact ⟨y,(A0J.mp hy).1,rfl,rT (A0J.mp hy).2⟩⟩
theorem Fo.next {es e1:List aN}{m n:Str} (hb:vm es m ss) (nd:(0x55).Nodup) (cr:∀ e∈es,e.n=""->e.man="") (hm:m≠"") (f:Fo r es (ss.take i) e1) (hi:ss[i]?=some n):n≠""/\∃ y∈e1,y.n=n:=by
 obtain ⟨nds,hall⟩:=Ho hb nd;obtain ⟨y0,h0,hn0,hm0⟩:=hall n (vY hi);refine ⟨fun z=>hm (by rw [<- hm0];exact cr y0 h0 (hn0.trans z)),?_⟩;have hnot:n∉ss.take i:=fun hq=>by
  obtain ⟨k,hk⟩:=List.mem_iff_getElem?.mp hq;have hki:k<i:=by
   have:=(A0l.mp hk).1;rw [A0G] at this;lia
  rw [List.getElem?_take_of_lt hki] at hk;have:=(List.getElem?_inj (A0l.mp hk).1 nds).mp (hk.trans hi.symm);lia
 exact eZ (f.keep (by rw [<- hn0];exact A0j.mpr ⟨y0,h0,rfl⟩) hnot)
theorem FrN.die {y:aN}{n:Str}:FrN y 0 0 H (vf r n):=by cases r <;> exact True.intro
theorem Ks {es:List aN}{y:aN} (hy:y∈es):gQ es ks y (vf r y.n):=by cases r <;> exact ⟨hy,rfl⟩
theorem DX (r:Option Str):decide (rJ r=V.non)=r.isNone:=by cases r <;> rfl
theorem Xe:aO ["realm", "row", "man", "heir", "estate"] A5I (aH sDD):=0x0
theorem a2u (T:dX K C) (TK:wB K CK) (TR:mO K CR) (F:fK K "do_death" "do_death" sDD f fd) 
  (G1:aJ P w K mg base bM 1 g1 d1 A5K (Tr CK)) (m1:Meth K CK "die" g1) (b1:Binds K d1 A5K [])
  (G2:aJ P w K mg base bM 2 g2 d2 A5K (zN CK)) (m2:Meth K CK "taker" g2) (b2:Binds K d2 A5K [])
  (G3:aJ P w K mg base bM 1 g3 d3 A5K (za C)) (m3:Meth K C "held" g3) (b3:Binds K d3 A5K [])
  (G4:aJ P w K mg base bM 4 g4 d4 A5y (zf C)) (m4:Meth K C "fall_back" g4) (b4:Binds K d4 A5y [])
  (G5:aJ P w K mg base bM 4 g5 d5 ["self", "estate", "man"] (qm C)) (m5:Meth K C "convey" g5) (b5:Binds K d5 ["self", "estate", "man"] []) :
  aJ P w K mg base bM 5 f fd A5I (jP CR CK C NK):=by
 refine F.ok Xe 0x1 0x3;obtain ⟨m,q,W,ls,j,r,ro,dy,wd,rfl,R,S,WP,fr,hst,hok,htx,hls,hj,hx,hk,k⟩:=h;have hr1:cM 1 _:=hr.mono 0x5;have hr2:cM 2 _:=hr.mono 0x5;refine ⟨_,aq (aR (i:=2) Xe.nd rfl 0x7 0x19)
  (aq (bL (bU (CX:=bM) (E:=E0) 0xD TK.cl m1 G1 hr1 b1 .nil aX 0x33))
  (aq (dR 0x17 0xD 0x2B 0x19 rfl)
  (aq (aR (i:=3) Xe.nd rfl 0x7 (bU (CX:=bM) (E:=E0) 0xD TK.cl m2 G2 hr2 b2 .nil aX 0x33))
  (aG (gJ A0U rfl (eY (bU (CX:=bM) (E:=E0) 0xD T.cl m3 G3 hr1 b3 .nil aX 0x33)) (bC (i:=4) Xe.nd rfl 0x7)
   (aG (bN (aQ Pj 0x5D lZ 0x61) (aG (bL (bU (CX:=bM) (E:=E0) 0xD T.cl m4 G4 hr b4 .nil aX (aj (pv 4) aC)))) (aG (bL (bU (CX:=bM) (E:=E0) 0xD T.cl m5 G5 hr b5 .nil aX (aj (pv 4) (aj 0x5D aC)))))))))))),?_⟩
 cases ro with
 | grant _ _ _ _ _=>cases hk
 | heir _ _=>cases hk
 | death a =>
 have dl:=WP.dl;refine ⟨_,rfl,r,_,_,_,rfl,rfl,cj.of hx,aL (j:=2) rfl,?_⟩;refine ⟨_,rfl,m.z,CR,m.dz,_,_,rfl,R.o,TR.cl,TR.n2,rfl,m.k,m.dk,_,rfl,R.K.o,rfl,_,rfl,m.k,m.dk,m.hh,m.gg,_,_,a,rfl,R.K,hok,by rw [zR];lia,?_⟩;have eg:putK (TX W.dd) (.inr a) (.bl true)=TX 0x6B:=zQ (g:=fun p:Str×Int=>p.1) (f:=fun _=>V.bl true) (a:=(a,dy)) hst;have ed:putK (Xd W.dd) (.inr a) (.int dy)=Xd 0x6B:=zQ (g:=fun p:Str×Int=>p.1) (f:=fun p=>V.int p.2) (a:=(a,dy)) hst;rw [eg];have o1:iV m q H (upd H m.gg (.dK (TX 0x6B))):=iV.put (by simp [jV]);have z1:=R.out o1 0x21 R.o;have x1:=R.out o1 0x21 hx;have D1:(upd H m.gg (.dK (TX 0x6B))) m.de=some (.dK (Xd W.dd)):=by rw [ak (bW S 8 7 rfl rfl 0x5)];exact R.D
 refine ⟨_,rfl,r,_,_,_,rfl,rfl,cj.of x1,aL (j:=1) rfl,_,rfl,m.z,CR,m.dz,_,_,rfl,z1,TR.cl,TR.n5,rfl,_,rfl,m.de,_,rfl,jc.k (k:=.inr a) D1 (bR (by rw [zR];lia)),?_⟩;rw [ed];have R2:=R.died (sI:=W.dd++[(a,dy)]) S;have o2:iV m q H _:=o1.trans (iV.put (a:=m.de) (o:=.dK (Xd 0x6B)) (by simp [jV]));clear z1 x1 D1 eg ed o1;generalize upd (upd H m.gg (.dK (TX 0x6B))) m.de (.dK (Xd 0x6B))=H2 at R2 o2 ⊢;refine ⟨_,rfl,m.z,CR,m.dz,_,_,rfl,R2.o,TR.cl,TR.n2,rfl,m.k,m.dk,_,rfl,R2.K.o,rfl,_,rfl,m.k,m.dk,m.hh,m.gg,_,_,YX W.hs,(fun z=>decide (z∈W.gone++[a])),a,rfl,R2.K,Tv WP.hv,(fun z=>?_),by have:=WP.hl;show W.hs.length<=900;lia,fun t H3 s3 tk=>?_⟩
 ·rw [R2.dead]
  show decide (z∈(0x6B).map _)=_
  rw [jw];rfl
 have R3:=R2.same s3;have W0:=WP.E.P.W;have ln:=WP.E.P.ln;refine ⟨_,rfl,m.z,CR,m.dz,_,_,rfl,R3.o,TR.cl,TR.n1,rfl,q.x,q.dx,_,rfl,R3.L.o,rfl,_,rfl,q.x,q.dx,q.a1,q.a2,q.a3,q.a4,q.a5,_,_,_,_,_,a,rfl,R3.L,Dt,YM,by rw [iJ];show W.es.length<64;lia,fun D ss H4 s4 qR hD hp hs=>?_⟩
 have hb:vm W.es a ss:=by
  refine ⟨?_,hs⟩;rw [tL] at hp;have ef:(W.es.filter fun e=>decide (V.str e.man=V.str a))=W.es.filter fun y=>decide (y.man=a):=A2r fun y _=>gC;rw [<- ef];exact hp
 have s34:=s3.trans s4;have tr:∀ h,t=some h->PyData.strOk h=true:=fun h e=>Tk.ok (Pr:=fun z=>PyData.strOk z=true) (fun _ _=>nU WP.hv) tk (fun z e=>nU WP.hv e) h e;refine ⟨D,rfl,⟨_,bO.of hD⟩,gq (K:=K) (a:=D) (xs:=ss.map V.str) (fun i σ Hx=>∃ (u4:Option V) (e1:List aN),σ=[some (.ref m.z),some 0x71,some (.str a),some (rJ t),u4]/\Hx D=some 0x23/\eF CR CK C Hx m q ⟨e1,W.ks,W.hs,W.dd++[(a,dy)]⟩/\Fo t W.es (ss.take i) e1/\(∀ e∈e1,jF Hx e.ta e.due.1 e.due.2)/\iV m q H Hx)
  ⟨none,W.es,rfl,hD,R3.same s4,.nil,fun e he=>s34 _ _ (R.out o2 0x21 (fr e he)),o2.trans (iV.same s34)⟩ (fun i σ Hx _ h=>by obtain ⟨_,_,_,h,_⟩:=h;exact bO.of h) ?_ ?_⟩
 ·rintro i v σ Hx hv ⟨u4,e1,rfl,zT,Rx,fo,fx,ox⟩;rw [jW] at hv;obtain ⟨n,hn,rfl⟩:=A0v.mp hv;obtain ⟨hne,y,hy,rfl⟩:=Fo.next hb W0.nd WP.E.cr hok fo hn;have PU:=(fo.eo WP.E tr hls).P;have tk':ss.take (i+1)=ss.take i++[y.n]:=by rw [A1f,hn];rfl
  have fin:∀ H',Ln C q H' (stp y e1 0 0 0 0 (vf t y.n))->Nr q Hx H'->∃ (u4:Option V) (e2:List aN),[some (.ref m.z),some 0x71,some (.str a),some (rJ t),some (V.str y.n)]=[some (V.ref m.z),some 0x71,some (.str a),some (rJ t),u4]/\H' D=some 0x23/\eF CR CK C H' m q ⟨e2,W.ks,W.hs,W.dd++[(a,dy)]⟩/\Fo t W.es (ss.take (i+1)) e2/\(∀ e∈e2,jF H' e.ta e.due.1 e.due.2)/\iV m q H H':=fun H' L' o'=>by
   refine ⟨_,_,rfl,Rx.out o'.Hl 0x21 zT,Rx.a0T S o' L',by rw [tk'];exact .snoc fo hy hne,?_,ox.trans o'.Hl⟩;exact qC (u1:=0) (u2:=0) (·.ta) PU.W.nd (Ks (ks:=W.ks) hy) (fun e he=>Rx.out o'.Hl 0x21 (fx e he)) FrN.die 0x4 0x4 (fun _ _ _ _=>rfl) fun _ _ _ _ _=>by cases t <;> rfl
  refine ⟨_,rfl,rfl,_,rfl,?_⟩;rw [DX];cases t with
  | none =>
   refine dU ?_;refine ⟨_,rfl,m.z,CR,m.dz,_,_,rfl,Rx.o,TR.cl,TR.n1,rfl,q.x,q.dx,_,rfl,Rx.L.o,rfl,_,rfl,?_⟩;dsimp only [nH,List.cons_append,List.nil_append];refine X3 (E:=E0) PU Rx.L S.a5 fx ⟨hy,rfl⟩ hne hls hj fun t1 t2 H' hL _ o'=>?_;exact fin H' (hL 0 0) o'
  | some h =>
   refine cu ?_;refine ⟨_,rfl,m.z,CR,m.dz,_,_,rfl,Rx.o,TR.cl,TR.n1,rfl,q.x,q.dx,_,rfl,Rx.L.o,rfl,_,rfl,_,rfl,?_⟩;dsimp only [nH,List.cons_append,List.nil_append,rJ];refine Nt (E:=E0) PU Rx.L S.a5 fx ⟨hy,rfl⟩ hne hls hj fun t1 t2 H' hL _ o'=>?_;exact fin H' (hL 0 0) o'
 ·rintro σ Hx ⟨u4,e1,rfl,zT,Rx,fo,fx,ox⟩;rw [bV,A1d] at fo;exact k _ _ (.di hst tk hb fo) Rx fx ox
inductive zU (CR CK C:Addr) (vs:List V) (H:Hp) (Q:VK) (cD:XK):Prop
 | mk (m:Rm) (q:Ad) (W:M.Wo) (ls:List Str) (j:Nat) (r:Addr) (ro:M.Ro) (dy wd:Int) (_:vs=[.ref m.z,.ref r]) (_:eF CR CK C H m q W) (_:Sep m q) (_:Wp W ls j wd) (_:(∀ e∈W.es,jF H e.ta e.due.1 e.due.2)) (_:Ro.Ok ls ro) (_:Ro.Tx ro) (_:0x8F) (_:j<=60) (_:H r=some (.tup (Ro.vs dy ro))) (_:∀ w W' H',Jo W dy ro w W'->eF CR CK C H' m q W'->(∀ e∈W'.es,jF H' e.ta e.due.1 e.due.2)->iV m q H H'->Q (.str w) H'):zU CR CK C vs H Q cD
def SPw (CR CK C fN fL:Addr) (f:Addr) (sp:Sp):Prop:=(f=fN/\sp=nW CR CK C Hj)\/(f=fL/\sp=nW CR CK C fun ro=>Ny ro||NK ro)
def SPd (CR CK C fG fH fD:Addr) (f:Addr) (sp:Sp):Prop:=(f=fG/\sp=jP CR CK C Hj)\/(f=fH/\sp=jP CR CK C Ny)\/(f=fD/\sp=jP CR CK C NK)
theorem Ku {h l:Str}{A:Prop} (h1:h=l->A) (h2:h≠l->B):if decide (V.str h=V.str l)=true then A else B:=by
 refine iU (fun c=>h1 ?_) fun c=>h2 fun z=>c (A0k (by rw [z]));have:=rT c;injection this
theorem tW:aO ["realm", "row", "asked", "word", "deed"] A5I (aH vq):=0x0
structure Tabs (K:PySem.W.Frag) (P:Params) (mg:Str->Option Value) (wN wL dG dH dD:Addr):Prop where
 words:∃ a u1 u2 u3 u4,mg "WORDS"=some 0x3C/\KD K P a [("heir",.ref wL),("grant",.ref wN),("part",.ref u1),("convey",.ref u2),("liege",.ref u3),("surrender",.ref u4),("death",.ref wL)]
 a2v:∃ a u1 u2 u3 u4,mg "DEEDS"=some 0x3C/\KD K P a [("heir",.ref dH),("grant",.ref dG),("part",.ref u1),("convey",.ref u2),("liege",.ref u3),("surrender",.ref u4),("death",.ref dD)]
theorem U0 {f0:Addr} (F:fK K "judge" "judge" vq f0 fd)  (mS:mg "STANDS"=some (.str "stands" tS)) {h1 h2 h3:Addr}{e1 e2 e3:FuncData} (TB:Tabs K w.params mg g1 g2 h1 h2 h3)
  (G1:aJ P w K mg base bM 4 g1 d1 A5I (nW CR CK C Hj)) (M1:Ms K mg "word_of_new" g1 d1 A5I)
  (G2:aJ P w K mg base bM 4 g2 d2 A5I (nW CR CK C fun ro=>Ny ro||NK ro)) (M2:Ms K mg "word_of_living" g2 d2 A5I)
  (D1:aJ P w K mg base bM 5 h1 e1 A5I (jP CR CK C Hj)) (N1:Ms K mg "do_grant" h1 e1 A5I)
  (D2:aJ P w K mg base bM 5 h2 e2 A5I (jP CR CK C Ny)) (N2:Ms K mg "do_heir" h2 e2 A5I)
  (D3:aJ P w K mg base bM 5 h3 e3 A5I (jP CR CK C NK)) (N3:Ms K mg "do_death" h3 e3 A5I) :
  aJ P w K mg base bM 6 f0 fd A5I (zU CR CK C):=by
 obtain ⟨aW,w1,w2,w3,w4,mW,kW⟩:=TB.words;obtain ⟨aD,v1,v2,v3,v4,mD,kD⟩:=TB.a2v;refine F.ok tW 0x1 0x3;obtain ⟨m,q,W,ls,j,r,ro,dy,wd,rfl,R,S,WP,fr,hok,htx,hls,hj,hx,k⟩:=h;have hr4:cM 4 _:=hr.mono 0x5;have hS1:∀ f sp,SPw CR CK C g1 g2 f sp->∃ (k:Nat) (fd:FuncData) (ps:List Str),aJ P w K mg base bM k f fd ps sp/\cM k (A.deeper (envOfC "judge" (aH vq) s.heap.objs.size f0 cdv))/\PySem.W.keepIn K 0x4E=true/\L2.Binds K fd ps []:=by
  rintro f sp (⟨rfl,rfl⟩ | ⟨rfl,rfl⟩)
  ·exact ⟨4,d1,_,G1,hr4,M1.k,M1.b⟩
  ·exact ⟨4,d2,_,G2,hr4,M2.k,M2.b⟩
 have hS2:∀ f sp,SPd CR CK C h1 h2 h3 f sp->∃ (k:Nat) (fd:FuncData) (ps:List Str),aJ P w K mg base bM k f fd ps sp/\cM k (A.deeper (envOfC "judge" (aH vq) s.heap.objs.size f0 cdv))/\PySem.W.keepIn K 0x4E=true/\L2.Binds K fd ps []:=by
  rintro f sp (⟨rfl,rfl⟩ | ⟨rfl,rfl⟩ | ⟨rfl,rfl⟩)
  ·exact ⟨5,e1,_,D1,hr,N1.k,N1.b⟩
  ·exact ⟨5,e2,_,D2,hr,N2.k,N2.b⟩
  ·exact ⟨5,e3,_,D3,hr,N3.k,N3.b⟩
 refine ⟨_,aq (aR (i:=2) tW.nd rfl 0x7 (aP JF (cR rfl mW rfl (v:=.ref aW)) 0x19 0x4))
  (aq (aR (i:=3) tW.nd rfl 0x7 (DQ (CX:=bM) (E:=E0) 0x2B hS1 aX 0x89))
  (aq (bN (aQ dI 0x5D (cR rfl mS ⟨_,rfl⟩ (v:=.str "stands")) 0x61)
   (aq (aR (i:=4) tW.nd rfl 0x7 (aP JF (cR rfl mD rfl (v:=.ref aD)) 0x19 0x4))
   (aG (bL (DQ (CX:=bM) (E:=E0) (pv 4) hS2 aX 0x89)))) aU)
  (aG (aV 0x5D)))),?_⟩
 obtain ⟨key,fw,fe,okw,okd,h0,lw,sw,o1,le,sd,o2⟩:∃ (key:Str) (fw fe:Addr) (okw okd:Ro->Bool),(Ro.vs dy ro)[0]?=some (.str key)/\List.lookup key [(("heir" : Str),V.ref g2),("grant",.ref g1),("part",.ref w1),("convey",.ref w2),("liege",.ref w3),("surrender",.ref w4),("death",.ref g2)]=some (.ref fw)/\SPw CR CK C g1 g2 fw (nW CR CK C okw)/\okw ro=true /\
   List.lookup key [(("heir" : Str),V.ref h2),("grant",.ref h1),("part",.ref v1),("convey",.ref v2),("liege",.ref v3),("surrender",.ref v4),("death",.ref h3)]=some (.ref fe)/\SPd CR CK C h1 h2 h3 fe (jP CR CK C okd)/\okd ro=true:=by
  cases ro with
  | grant e n mn a s=>exact ⟨_,_,_,_,_,rfl,rfl,.inl ⟨rfl,rfl⟩,rfl,rfl,.inl ⟨rfl,rfl⟩,rfl⟩
  | heir a b=>exact ⟨_,_,_,_,_,rfl,rfl,.inr ⟨rfl,rfl⟩,rfl,rfl,.inr (.inl ⟨rfl,rfl⟩),rfl⟩
  | death a=>exact ⟨_,_,_,_,_,rfl,rfl,.inr ⟨rfl,rfl⟩,rfl,rfl,.inr (.inr ⟨rfl,rfl⟩),rfl⟩
 refine ⟨_,rfl,r,_,_,_,rfl,rfl,cj.of hx,aL (j:=0) h0,aW,_,_,_,rfl,rfl,kW,lw,?_⟩;refine ⟨_,rfl,fw,_,rfl,sw,_,rfl,_,rfl,m,q,W,r,ro,dy,rfl,R,WP.E.P.W.nd,hx,o1,fun z H1 s1 hw=>?_⟩;have R1:=R.same s1;refine ⟨_,rfl,rfl,_,rfl,Ku (fun e=>?_) (fun ne=>⟨_,rfl,?_⟩)⟩
 rotate_left
 ·rcases hw with ⟨_,hw⟩ | ⟨e,_⟩
  ·exact k _ _ _ hw R1 (fun e he=>s1 _ _ (fr e he)) (iV.same s1)
  ·exact absurd e ne
 subst e;rcases hw with ⟨ne,_⟩ | ⟨_,hst⟩
 ·exact absurd rfl ne
 refine ⟨_,rfl,r,_,_,_,rfl,rfl,cj.of (s1 _ _ hx),aL (j:=0) h0,aD,_,_,_,rfl,rfl,kD,le,?_⟩;exact ⟨_,rfl,fe,_,rfl,sd,_,rfl,_,rfl,m,q,W,ls,j,r,ro,dy,wd,rfl,R1,S,WP,fun e he=>s1 _ _ (fr e he),hst,hok,htx,hls,hj,s1 _ _ hx,o2,fun W' H2 J R2 f2 o=>⟨_,rfl,k _ _ _ J R2 f2 ((iV.same s1).trans o)⟩⟩
inductive Hq (CK:Addr) (vs:List V) (H:Hp) (Q:VK) (cD:XK):Prop
 | mk (k dk:Addr) (_:vs=[.ref k]) (_:H k=some (.ins CK dk [])) (_:∀ hh gg H',(∀ c o,c≠k->H c=some o->H' c=some o)->oW CK H' k dk hh gg [] []->H hh=none->H gg=none->hh≠gg->Q .non H'):Hq CK vs H Q cD
def Fd (n:Int) (t:Addr):aN:=⟨"",none, "",n,n,(0,1),t,0⟩
def adL (x dx a1 a2 a3 a4 a5:Addr) (n:Int):Ad:=⟨x,dx,a1,a2,a3,a4,a5,0,0,0,0,0,0,0,0,0,[],n⟩
def W0 (e:aN):Wo:=⟨[e],[],[],[]⟩
inductive vA (CR CK C:Addr) (vs:List V) (H:Hp) (Q:VK) (cD:XK):Prop
 | mk (z dz:Addr) (n:Int) (_:vs=[.ref z,.int n]) (_:H z=some (.ins CR dz [])) (_:1<=n) (_:n<=9999) (_:∀ (m:Rm) (q:Ad) (t:Addr) (H':Hp),m.z=z->m.dz=dz->q.wd=n->(∀ c o,c≠z->H c=some o->H' c=some o)->eF CR CK C H' m q (W0 (Fd n t))->Sep m q->(∀ a∈q.x::m.k::jV m q,H a=none)->jF H' t 0 1->Q .non H'):vA CR CK C vs H Q cD
theorem Xf {x:Addr}{o1 o2:HO} (h:(upd (upd H dx o1) x o2) c=none):H c=none:=by
 by_cases h1:c=x
 ·rw [h1,ao] at h;cases h
 by_cases h2:c=dx
 ·rw [ak h1,h2,ao] at h;cases h
 rw [ak h1,ak h2] at h;exact h
theorem back {z:Addr}{u:HO} (s:∀ c o,c≠z->H c=some o->H1 c=some o) (hz:H1 z=some u)  (h:H1 c=none):H c=none:=by
 cases hq:H c with
 | none=>rfl
 | some o =>
  by_cases e:c=z
  ·rw [e,hz] at h;cases h
  ·rw [s c o e hq] at h;cases h
theorem a0U:aO A5S A5S (aH Tq):=0x0
theorem Xg (T:wB K CK) (F:fK K "__init__" "Kin.__init__" Tq f fd):aJ P w K mg base bM 1 f fd A5S (Hq CK):=by
 refine F.ok a0U 0x1 0x3;obtain ⟨k,dk,rfl,hk,q⟩:=h;refine ⟨_,aq (dM 0x32 jk rfl) (aG (dM 0x32 jk rfl)),?_⟩;intro hh e1;have n1:k≠hh:=au hk e1;refine ⟨_,rfl,k,CK,dk,_,rfl,by rw [ak n1];exact hk,T.cl,T.n1,A0w rfl,?_⟩;generalize hH1:upd _ k _=H1;have x1:H1 k=some (.ins CK dk [("heir_of",.ref hh)]):=by rw [<- hH1,ao];rfl
 have p1:H1 hh=some (.dK []):=by rw [<- hH1,ak (A0m n1),ao]
 have f1:∀ c o,c≠k->H c=some o->H1 c=some o:=fun c o hc ho=>by rw [<- hH1,ak hc,ak (au ho e1)];exact ho
 have b1:∀ c,H1 c=none->H c=none:=fun c hc=>by
  cases hq:H c with
  | none=>rfl
  | some o =>
   by_cases z:c=k
   ·rw [z,x1] at hc;cases hc
   ·rw [f1 c o z hq] at hc;cases hc
 clear hH1;intro gg e2;have n2:k≠gg:=au x1 e2;have n3:hh≠gg:=au p1 e2;refine ⟨_,rfl,k,CK,dk,_,rfl,by rw [ak n2];exact x1,T.cl,T.n2,A0w rfl,?_⟩;refine q hh gg _ (fun c o hc ho=>?_) ⟨by rw [ao];rfl,by rw [ak (A0m n1),ak n3];exact p1,by rw [ak (A0m n2),ao]⟩ e1 (b1 _ e2) n3;rw [ak hc,ak (au (f1 c o hc ho) e2)];exact f1 c o hc ho
theorem U3:aO A5V A5V (aH zP):=0x0
theorem NQ (T:dX K C) (TR:mO K CR) (F:fK K "__init__" "Realm.__init__" zP f fd) 
  (G1:aJ P w K mg base bM 3 g1 d1 A5V (zu C)) (MK1:Mk K C g1) (mL:mg "Land"=some 0x87) (b1:Binds K d1 A5V [])
  (G2:aJ P w K mg base bM 1 g2 d2 A5S (Hq CK)) (MK2:Mk K CK g2) (mK:mg "Kin"=some (.ref CK)) (b2:Binds K d2 A5S []) :
  aJ P w K mg base bM 5 f fd A5V (vA CR CK C):=by
 refine F.ok U3 0x1 0x3;obtain ⟨z,dz,n,rfl,hz,n1,n2,q⟩:=h;have hr4:cM 4 _:=hr.mono 0x5;have hr2:cM 2 _:=hr.mono 0x5;refine ⟨_,aq (dM 0x32 (sY (CX:=bM) (E:=E0) MK1 G1 hr4 rfl mL b1 .nil aX 0x38) rfl)
  (aq (dM 0x32 (PJ (CX:=bM) (E:=E0) MK2 G2 hr2 rfl mK b2 .nil aX) rfl)
  (aq (dM 0x32 jk rfl) (aq (dM 0x32 jk rfl) (aG (dM 0x32 jk rfl))))),?_⟩
 refine ⟨_,rfl,fun x dx hx0 hdx0 hne=>?_⟩;refine ⟨x,dx,n,rfl,ao,n1,n2,fun a1 a2 a3 a4 a5 t H0 kx LA ap e1 e2 e3 e4 e5 et fr=>⟨rfl,?_⟩⟩;have s0:Same H H0:=fun c o hc=>kx c o (au hc hx0) (by rw [ak (au hc hx0),ak (au hc hdx0)];exact hc);have nz:∀ {c:Addr},H c=none->c≠z:=fun h e=>by rw [e,hz] at h;cases h
 replace e1:=Xf e1
 replace e2:=Xf e2
 replace e3:=Xf e3
 replace e4:=Xf e4
 replace e5:=Xf e5
 replace et:=Xf et
 clear kx;refine ⟨_,rfl,z,CR,dz,_,rfl,s0 _ _ hz,TR.cl,TR.n1,A0w rfl,?_⟩;generalize hH1:upd _ z _=H1;have z1:H1 z=some (.ins CR dz [("ground",.ref x)]):=by rw [<- hH1,ao];rfl
 have o1:∀ c o,c≠z->H0 c=some o->H1 c=some o:=fun c o h1 h2=>by rw [<- hH1,ak h1];exact h2
 have L1:cg C H1 x dx a1 a2 a3 a4 a5 _ _ _ _ _:=⟨o1 _ _ (nz hx0) LA.o,o1 _ _ (nz e1) LA.l1,o1 _ _ (nz e2) LA.l2,o1 _ _ (nz e3) LA.l3,o1 _ _ (nz e4) LA.l4,o1 _ _ (nz e5) LA.l5⟩;have t1:jF H1 t 0 1:=o1 _ _ (nz et) fr;have s1:∀ c o,c≠z->H c=some o->H1 c=some o:=fun c o h1 h2=>o1 c o h1 (s0 c o h2);clear hH1 o1 LA fr s0;refine fun k dk hk0 hdk0 hnk=>⟨k,dk,rfl,ao,fun hh gg H2 kx2 KA eh eg nhg=>⟨rfl,?_⟩⟩;have s2:Same H1 H2:=fun c o hc=>kx2 c o (au hc hk0) (by rw [ak (au hc hk0),ak (au hc hdk0)];exact hc)
 replace eh:=Xf eh
 replace eg:=Xf eg
 clear kx2;have nz2:∀ {c:Addr},H1 c=none->c≠z:=fun h e=>by rw [e,z1] at h;cases h
 refine ⟨_,rfl,z,CR,dz,_,rfl,s2 _ _ z1,TR.cl,TR.n2,A0w rfl,?_⟩;generalize Oo:upd _ z _=H3;have z3:H3 z=some (.ins CR dz [("ground",.ref x),("kin",.ref k)]):=by rw [<- Oo,ao];rfl
 have o3:∀ c o,c≠z->H2 c=some o->H3 c=some o:=fun c o h1 h2=>by rw [<- Oo,ak h1];exact h2
 have s3:∀ c o,c≠z->H1 c=some o->H3 c=some o:=fun c o h1 h2=>o3 c o h1 (s2 c o h2);have K3:oW CK H3 k dk hh gg [] []:=⟨o3 _ _ (nz2 hk0) KA.o,o3 _ _ (nz2 eh) KA.h,o3 _ _ (nz2 eg) KA.g⟩;clear Oo o3 KA;intro u eu;have wu:z≠u:=au z3 eu;refine ⟨_,rfl,z,CR,dz,_,rfl,by rw [ak wu];exact z3,TR.cl,TR.n3,A0w rfl,?_⟩;generalize xM:upd _ z _=H4;have z4:H4 z=some (.ins CR dz [("ground",.ref x),("kin",.ref k),("used",.ref u)]):=by rw [<- xM,ao];rfl
 have s4:∀ c o,c≠z->H3 c=some o->H4 c=some o:=fun c o h1 h2=>by rw [<- xM,ak h1,ak (au h2 eu)];exact h2
 have u4:H4 u=some (.dK []):=by rw [<- xM,ak (A0m wu),ao]
 clear xM;intro li eli;have wli:z≠li:=au z4 eli;refine ⟨_,rfl,z,CR,dz,_,rfl,by rw [ak wli];exact z4,TR.cl,TR.n4,A0w rfl,?_⟩;generalize YK:upd _ z _=H5;have z5:H5 z=some (.ins CR dz [("ground",.ref x),("kin",.ref k),("used",.ref u),("lieges",.ref li)]):=by rw [<- YK,ao];rfl
 have s5:∀ c o,c≠z->H4 c=some o->H5 c=some o:=fun c o h1 h2=>by rw [<- YK,ak h1,ak (au h2 eli)];exact h2
 clear YK;intro de ede;have wde:z≠de:=au z5 ede;refine ⟨_,rfl,z,CR,dz,_,rfl,by rw [ak wde];exact z5,TR.cl,TR.n5,A0w rfl,?_⟩;generalize Xh:upd _ z _=H6;have z6:H6 z=some (.ins CR dz [("ground",.ref x),("kin",.ref k),("used",.ref u),("lieges",.ref li),("deaths",.ref de)]):=by rw [<- Xh,ao];rfl
 have d6:H6 de=some (.dK []):=by rw [<- Xh,ak (A0m wde),ao]
 have s6:∀ c o,c≠z->H5 c=some o->H6 c=some o:=fun c o h1 h2=>by rw [<- Xh,ak h1,ak (au h2 ede)];exact h2
 clear Xh;have YZ:∀ c o,c≠z->H1 c=some o->H6 c=some o:=fun c o h1 h2=>s6 c o h1 (s5 c o h1 (s4 c o h1 (s3 c o h1 h2)));have s36:∀ c o,c≠z->H3 c=some o->H6 c=some o:=fun c o h1 h2=>s6 c o h1 (s5 c o h1 (s4 c o h1 h2));have s35:∀ c o,c≠z->H3 c=some o->H5 c=some o:=fun c o h1 h2=>s5 c o h1 (s4 c o h1 h2);have c1:=s3 _ _ (nz e1) L1.l1;have c2:=s3 _ _ (nz e2) L1.l2;have c3:=s3 _ _ (nz e3) L1.l3;have c4:=s3 _ _ (nz e4) L1.l4;have c5:=s3 _ _ (nz e5) L1.l5;have nh:=nz2 eh;have ng:=nz2 eg;have lu:=fun {c:Addr}{o:HO} (h:H3 c=some o)=>au h eu;have ld:=fun {c:Addr}{o:HO} (hz:c≠z) (h:H3 c=some o)=>au (s35 c o hz h) ede;have l1:=fun {c d:Addr}{o:HO} (h1:H1 d=none) (h2:H1 c=some o)=>au h2 h1;refine q ⟨z,dz,k,dk,hh,gg,u,li,de⟩ (adL x dx a1 a2 a3 a4 a5 n) t H6 rfl rfl rfl (fun c o h1 h2=>YZ c o h1 (s1 c o h1 h2)) ⟨z6,⟨s36 _ _ (nz2 hk0) K3.o,s36 _ _ nh K3.h,s36 _ _ ng K3.g⟩,s6 _ _ (A0m wu) (s5 _ _ (A0m wu) u4),d6,
  ⟨YZ _ _ (nz hx0) L1.o,YZ _ _ (nz e1) L1.l1,YZ _ _ (nz e2) L1.l2,YZ _ _ (nz e3) L1.l3,YZ _ _ (nz e4) L1.l4,YZ _ _ (nz e5) L1.l5⟩⟩ ?_ ?_ (YZ _ _ (nz et) t1)
 ·show [a1,a2,a3,a4,a5,u,hh,gg,de].Nodup
  simp only [A0M,A0d,A0u,A1m,A5c,A3Y,and_true,A4Y];exact ⟨⟨ap.n12,ap.n13,ap.n14,ap.n15,lu c1,l1 eh L1.l1,l1 eg L1.l1,ld (nz e1) c1⟩,⟨ap.n23,ap.n24,ap.n25,lu c2,l1 eh L1.l2,l1 eg L1.l2,ld (nz e2) c2⟩,⟨ap.n34,ap.n35,lu c3,l1 eh L1.l3,l1 eg L1.l3,ld (nz e3) c3⟩,⟨ap.n45,lu c4,l1 eh L1.l4,l1 eg L1.l4,ld (nz e4) c4⟩,⟨lu c5,l1 eh L1.l5,l1 eg L1.l5,ld (nz e5) c5⟩,⟨A0m (lu K3.h),A0m (lu K3.g),au (s5 _ _ (A0m wu) u4) ede⟩,⟨nhg,ld nh K3.h⟩,ld ng K3.g⟩
 ·intro a ha;simp only [jV,adL,A0d,A0u,A1m] at ha;have b1:=fun {c:Addr} (h:H1 c=none)=>back s1 z1 h;have b3:=fun {c:Addr} (h:H3 c=none)=>b1 (back s3 z3 h);have b5:=fun {c:Addr} (h:H5 c=none)=>b3 (back s35 z5 h);rcases ha with h | h | h | h | h | h | h | h | h | h | h <;> rw [h]
  ·exact hx0
  ·exact b1 hk0
  ·exact e1
  ·exact e2
  ·exact e3
  ·exact e4
  ·exact e5
  ·exact b3 eu
  ·exact b1 eh
  ·exact b1 eg
  ·exact b5 ede
end
end M
namespace L2
open PySem
open AutoSeq1 (wpAny_loadPart')
open PySem.Spec PyProof.Rows PySem.W
section
variable {M:Model}
end
def ig:V->Bool
 | .int _=>true
 | .str x=>PyData.strOk x
 | _=>false
def gG:V->PyData
 | .int i=>.int i
 | .str x=>.str x
 | _=>.none
theorem jQ:∀ xs:List V,xs.all ig=true->dg H xs (xs.map gG)
 | [],_=>.nil
 | x::xs,h=>by
  rw [A2x,A0Y] at h;refine .cons ?_ (jQ xs h.2);cases x with
  | int i=>exact .int i
  | str z=>exact .str z
  | _=>cases h.1
theorem U4 {a b:V} (ha:ig a=true) (hb:ig b=true):PyData.eqv (gG a) (gG b)=decide (a=b):=by
 cases a with
 | int i =>
  cases b with
  | int j =>
   show (i==j)=decide (V.int i=V.int j)
   rw [A1n];simp
  | str z=>exact (A0p (show ¬ V.int i=V.str z from fun e=>by cases e)).symm
  | _=>cases hb
 | str x =>
  cases b with
  | int j=>exact (A0p (show ¬ V.str x=V.int j from fun e=>by cases e)).symm
  | str z =>
   show (x==z)=decide (V.str x=V.str z)
   rw [A1n];simp
  | _=>cases hb
 | _=>cases ha
theorem kJ:∀ xs ys:List V,xs.all ig=true->ys.all ig=true->PyData.eqvAll (xs.map gG) (ys.map gG)=decide (xs=ys)
 | [],[],_,_=>rfl
 | [],_::_,_,_=>(A0p (fun e=>by cases e)).symm
 | _::_,[],_,_=>(A0p (fun e=>by cases e)).symm
 | x::xs,y::ys,hx,hy=>by
  rw [A2x,A0Y] at hx hy
  show (PyData.eqv (gG x) (gG y)&&PyData.eqvAll (xs.map gG) (ys.map gG))=_
  rw [U4 hx.1 hy.1,kJ xs ys hx.2 hy.2,A1n];simp
theorem jq:∀ xs:List V,xs.all ig=true->PyData.canLayAll0 (xs.map gG)=true
 | [],_=>rfl
 | x::xs,h=>by
  rw [A2x,A0Y] at h;rw [A0h,PyData.canLayAll0,jq xs h.2];cases x with
  | int i=>rfl
  | str z =>
   show (PyData.strOk z&&true)=true
   rw [show PyData.strOk z=true from h.1];rfl
  | _=>cases h.1
theorem nY:∀ xs:List V,PyData.depthAll (xs.map gG)<=1
 | []=>by decide
 | x::xs=>by
  rw [A0h,PyData.depthAll];have:=nY xs;have e:PyData.depth (gG x)<=1:=by cases x <;> exact A1h rfl
  lia
def iM (H:Hp):List Addr->List (List V)->Prop:=Paired fun a r=>H a=some (.tup r)
theorem zV:∀ {as:List Addr}{us:List Value},Vals (as.map V.ref) us->us=as.map Value.ref
 | [],_,r=>by cases r;rfl
 | a::as,_,r=>by
  rw [A0h] at r;cases r with
  | cons r1 r2=>cases r1;rw [zV r2];rfl
theorem any_rows {r:List V}:∀ {as:List Addr}{rows:List (List V)},iM H as rows->(as.map Value.ref).any (fun u=>match u with | .ref a=>(match H a with | some (.tup q)=>decide (q=r) | _=>false) | _=>false)=rows.any fun q=>decide (q=r)
 | _,_,.nil=>rfl
 | a::as,q::rows,.cons h t=>by
  rw [A0h,A2y,A2y,any_rows t]
  show ((match H a with | some (.tup q)=>decide (q=r) | _=>false)||_)=_
  rw [h]
theorem vB:∀ {as:List Addr}{rows:List (List V)},iM H as rows->∀ a∈as,∃ q∈rows,H a=some (.tup q)
 | _,_,.nil,a,h=>nomatch h
 | _::_,q::_,.cons h t,a,ha=>by
  rcases A0d.mp ha with rfl | ha
  ·exact ⟨q,A0g,h⟩
  ·obtain ⟨q',m,e⟩:=vB t a ha;exact ⟨q',iT _ m,e⟩
theorem Kv {M:Model}{body:Value->PUnit->Sem (ForInStep PUnit)} (J:List Value->Shared->Prop) (hb:∀ x r s,J (x::r) s->wpAny M A (body x ⟨⟩) (fun q s'=>q=.yield ⟨⟩/\J r s') E s) :
  ∀ (r:List Value) (s:Shared),J r s->wpAny M A (forIn r PUnit.unit body) (fun _ s'=>J [] s') E s
 | [],s,h=>by rw [List.forIn_nil];exact wpAny_pure h
 | x::r,s,h=>by
  rw [A4m];refine A0a (A1b (hb x r s h) (fun q s' hq=>?_) fun _ _ x=>x);obtain ⟨rfl,h2⟩:=hq
  show wpAny M A (forIn r PUnit.unit body) _ E s'
  exact Kv J hb r s' h2
def pJ (H:Hp) (kd:Addr->List V) (ks ps:List Addr):Prop:=ks.length=ps.length/\∀ (i:Nat) (q p:Addr),ks[i]?=some q->ps[i]?=some p->H q=some (.tup (kd p))
theorem pJ.snoc {kd:Addr->List V}{ks ps:List Addr}{q:Addr} (h:pJ H kd ks ps) (s:Same H H') (hq:H' q=some (.tup (kd p))):pJ H' kd (ks++[q]) (ps++[p]):=by
 refine ⟨by rw [iw,iw,h.1];rfl,fun i a b ha hb=>?_⟩
 by_cases hi:i<ks.length
 ·rw [A1q hi] at ha;rw [A1q (by rw [<- h.1];exact hi)] at hb;exact s _ _ (h.2 i a b ha hb)
 ·have hl:i<(ks++[q]).length:=(A0l.mp ha).1;have e:i=ks.length:=by rw [iw,A0r] at hl;lia
  subst e;rw [A0W 0x2D,A3w] at ha;rw [h.1,A0W 0x2D,A3w] at hb;have ea:q=a:=by simpa using ha
  have eb:p=b:=by simpa using hb
  subst ea eb;exact hq
theorem Xi {k:Nat}{vs:List V}{Q:VK}{E:XK} (F:aJ X.prog X.w X.K X.mg X.base bM k f fd ps sp) (hr:cM (k+2) X.A) (hb:Binds X.K fd ps []) (I:Inv X pins σ H s) (r:Vals vs us) (h:sp vs H Q E) :
  wpAny 0x9 X.A.in1.in1 (call 0x4E us) 0x37 0x63 s:=by
 have r2:Vals vs (us++[]):=by rw [A1u];exact r
 have hl:(us++[]).length=ps.length:=by rw [<- r2.length];exact F.len _ _ _ _ h
 have hr2:cM k X.A.in1.in1:=cM.in1 (cM.in1 hr);refine wpAny_call (A3t (F.run X.A.in1.in1 X.stack s H ⟨us,[]⟩ (us++[]) vs Q E hr2 I.env0.in1.in1 (hb s us I.oO hl) r2 h) fun r s' hq=>?_);cases r with
 | error e=>exact hq.elim
 | ok fl =>
  cases fl with
  | ret u=>exact I.after hq
  | next=>exact False.elim hq
  | brk=>exact False.elim hq
  | cont=>exact False.elim hq
theorem rK (as:List Addr) (i:Nat) (hi:i<as.length):(as.map Value.ref).getD i Value.none=Value.ref as[i]:=by
 rw [qQ,jW,ju hi];rfl
theorem Hr {k:Nat}{n0:Nat}{all:List Addr}{kd:Addr->List V}{lt:Nat->Nat->Bool}{κ:SortKind}{P:PySem.Fin->Shared->Prop}
  (F:aJ X.prog X.w X.K X.mg X.base bM k f fd ps sp) (hr:cM (k+2) X.A) (hb:Binds X.K fd ps []) (I:Inv X pins σ H s) (fa:j8 X pins H a) (ho:s.heap.get? a=some (seqObj "list" (0x27).toArray n0)) (h64:all.length<64) (O:Ord all.length lt)
  (hcall:∀ p∈all,∀ H',Same H H'->∀ Q:VK,(∀ q Ot,Same H' Ot->Ot q=some (.tup (kd p))->Q (.ref q) Ot)->sp [.ref p] H' Q (fun _ _ _=>False))
  (hk:2<=all.length->∀ ks H' (s':Shared) (Q:SortKind->Shared->Prop),oE X.prog X.w H' s'.heap->Same H H'->pJ H' kd ks all->Q κ s'->wpAny 0x9 X.A.in1.in1 (keyKind' (0x44).toArray) Q 0x63 s')
  (hl:∀ ks H' (s':Shared) (i j:Nat) (C:Bool->Shared->Prop),Inv X pins σ H' s'->Same H H'->pJ H' kd ks all->i<all.length->j<all.length->i≠j->(∀ tk,C (lt i j) { s' with toks:=tk }) ->
   wpAny 0x9 X.A.in1.in1 (keyLt' κ ((0x44).getD i Value.none) ((0x44).getD j Value.none)) C 0x63 s')
  (h:∀ (p:Array Nat) (s':Shared) (H':Hp) (e:Nat),Pm all.length p->Up lt p all.length->Inv X pins σ H' s'->j8 X pins H' a->Same H H'->s'.heap.get? a=some (seqObj "list" (p.toList.map fun i=>(all.map Value.ref).getD i Value.none).toArray e)->P (.done (.ret .none)) s') :
  wpAny 0x9 X.A.in1.in1 (ksk_tree a 0x4E false) P E s:=by
 have ha:a<s.heap.objs.size:=A0t ho;have zl:(0x27).toArray.size=all.length:=by simp
 obtain ⟨e1,ho1⟩:∃ e1,(s.heap.update a (Obj.mapSeq fun _=>(#[]:Array Value))).get? a=some (seqObj "list" #[] e1):=⟨_,A4q ho fun _=>#[]⟩;have hkS:((s.heap.update a (Obj.mapSeq fun _=>(#[]:Array Value))).push (seqObj "tuple" (0x27).toArray 0)).objs.size=s.heap.objs.size+1:=by rw [size_push',Heap.size_update]
 unfold ksk_tree;refine A0a (listItems_at ho rfl ?_);refine A0a (A3m ho rfl ?_ (by rw [zl,A1e];lia) (A0X _));refine A0a (A4Z ho1 rfl ?_);refine A0a (A4M ?_ (by show (0x27).length<=_;rw [bV,A1e];lia))
 refine A0a (A5d ?_ (A0X _));refine A1T ?_;generalize hs1:(({ s with heap:=((s.heap.update a (Obj.mapSeq fun _=>(#[]:Array Value))).push (seqObj "tuple" (0x27).toArray 0)).push (seqObj "list" #[] 0) }:Shared))=s1;have I1:Inv X pins σ H s1:=by
  rw [<- hs1];refine I.sZ (fp:=[a]) (t':=s.toks) (fun b hb'=>by rw [A0c.mp hb'];exact fa) fun b o hb' q=>?_;have hne:b≠a:=fun z=>hb' (by simp [z]);exact A0b _ (A0b _ ((A1p _ _ _ _ hne).trans q))
 have a1:s1.heap.get? a=some (seqObj "list" #[] e1):=by rw [<- hs1];exact A0b _ (A0b _ ho1)
 have k1:s1.heap.get? 0x12=some (seqObj "list" #[] 0):=by rw [<- hs1,<- hkS];exact A0n _ rfl
 have fk:j8 X pins H 0x12:=I.ur (A2d _) (I.hok.fresh (A2d _));have nak:a≠s.heap.objs.size+1:=A0I (A2q ha);rw [hkS];generalize s.heap.objs.size+1=kS at k1 fk nak ⊢;clear hs1 ho1 hkS ha ho I;unfold ksk_rest;refine A0a (A3q ?_);rw [List.forIn_toArray];refine A0a (A1b (Kv (fun r s'=>∃ (done rest ks:List Addr) (H':Hp) (e:Nat),done++rest=all/\r=rest.map Value.ref/\Inv X pins σ H' s'/\Same H H'/\pJ H' kd ks done/\(∀ b∈[a,kS],j8 X pins H' b) /\
   s'.heap.get? a=some (seqObj "list" #[] e1)/\s'.heap.get? kS=some (seqObj "list" (0x44).toArray e)) ?_ 0x27 s1 ⟨[],all,[],H,0,rfl,rfl,I1,Same.refl _,⟨rfl,fun i q p z=>by simp at z⟩,fun b hb'=>?_,a1,k1⟩) (fun _ s' hJ=>?_) fun _ _ x=>x)
 ·rintro x r s' ⟨done,rest,ks,H',e,hd,hx,I',sm,KA,hf,ga,gk⟩;cases rest with
  | nil=>simp at hx
  | cons p rest' =>
   rw [A0h] at hx;obtain ⟨rfl,rfl⟩:=List.cons.inj hx;have hp:p∈all:=by rw [<- hd];simp
   have hkl:ks.length<64:=by
    have h1:(done++p::rest').length=all.length:=by rw [hd]
    rw [iw,oX] at h1;rw [KA.1];lia
   have I2:=I'.pinned hf fun b hb'=>by
    simp only [A0d,A0u,A1m] at hb';rcases hb' with rfl | rfl
    ·exact ⟨_,ga,fun v z=>by cases z⟩
    ·exact ⟨_,gk,fun v z=>by cases z⟩
   refine A0a (A2U (A1b (Xi F hr hb I2 (us:=[.ref p]) (vs:=[.ref p]) (.cons rfl .nil) (hcall p hp H' sm (fun v Ot=>∃ q,v=.ref q/\Same H' Ot/\Ot q=some (.tup (kd p))) fun q Ot s2 hq=>⟨q,rfl,s2,hq⟩)) (fun kv s'' hk'=>?_) fun _ _ hF=>hF.elim));obtain ⟨v,Ot,I3,rv,q,rfl,s2,hq⟩:=hk';cases rv;have pa:=I3.pin (a,_) (A0y _ (A0y _ (gj 0xA ga)));have pk:=I3.pin (kS,_) (A0y _ (A0y _ (gj 0xA gk)));have hf'':∀ b∈[a,kS],j8 X pins Ot b:=fun b hb'=>by
    obtain ⟨_,f2,f3,f4,f5,f6⟩:=hf b hb';simp only [A0d,A0u,A1m] at hb';rcases hb' with rfl | rfl
    ·exact ⟨pa.2.1,f2,f3,f4,f5,f6⟩
    ·exact ⟨pk.2.1,f2,f3,f4,f5,f6⟩
   have ea:(0x44).toArray.push (.ref q)=((ks++[q]).map Value.ref).toArray:=by simp
   obtain ⟨c2,hc2⟩:∃ c2,(s''.heap.update kS (Obj.mapSeq (·.push (.ref q)))).get? kS=some (seqObj "list" ((ks++[q]).map Value.ref).toArray c2):=⟨_,by rw [<- ea];exact A4q pk.1 (·.push (.ref q))⟩;dsimp only;refine A0a (A3m pk.1 rfl ?_ (by simp;rw [A1e];lia) (by simp;rw [A1e];lia));refine wpAny_pure ⟨rfl,done++[p],rest',ks++[q],Ot,c2,by rw [A2P];exact hd,rfl,?_,sm.trans s2,KA.snoc s2 hq,hf'',?_,hc2⟩
   ·exact I3.lJ.sZ (t':=s''.toks) hf'' fun b o hb' g=>by
     rw [A1p _ _ _ _ (fun z=>hb' (by simp [z]))];exact g
   ·show (s''.heap.update kS _).get? a=_
    rw [A1p _ _ _ _ nak];exact pa.1
 ·simp only [A0d,A0u,A1m] at hb';rcases hb' with rfl | rfl
  ·exact fa
  ·exact fk
 obtain ⟨done,rest,ks,H',e,hd,hx,I',sm,KA,hf,ga,gk⟩:=hJ;obtain rfl:rest=[]:=by cases rest with
  | nil=>rfl
  | cons _ _=>simp at hx
 rw [A1u] at hd;subst hd;refine A0a (listItems_at gk rfl ?_);have tail:∀ (st:SortSt) (p:Array Nat) (tk:Nat),Pm done.length p->Up lt p done.length->(arrOf st).map (·.2)=(p.toList.map fun i=>(done.map Value.ref).getD i Value.none).toArray->failedOf st=none ->
   wpAny 0x9 X.A.in1.in1 (ksk_tail a false e1 (.ref kS) st) P E { s' with toks:=tk }:=fun st p tk hP hU hout hfl=>by
  have lp:p.toList.length=done.length:=by rw [A0L];exact hP.size
  have ga2:(s'.heap.update kS (Obj.mapSeq fun _=>(#[]:Array Value))).get? a=some (seqObj "list" #[] e1):=by rw [A1p _ _ _ _ nak];exact ga
  obtain ⟨c3,hc3⟩:∃ c3,((s'.heap.update kS (Obj.mapSeq fun _=>(#[]:Array Value))).update a (Obj.mapSeq fun _=>(p.toList.map fun i=>(done.map Value.ref).getD i Value.none).toArray)).get? a=some (seqObj "list" (p.toList.map fun i=>(done.map Value.ref).getD i Value.none).toArray c3):=⟨_,A4q ga2 fun _=>_⟩;unfold ksk_tail;dsimp only;simp only [A1s,A2O];rw [hout];refine A0a (A3m gk rfl ?_ (by simp;rw [KA.1,A1e];lia) (A0X _));refine A0a (A5q ?_);refine A0a (A4Z ga2 rfl ?_);refine A0a (A3m ga2 rfl ?_ (A0X _) (by rw [A0s,bV,lp,A1e];lia));rw [hfl];simp only [A3Z,A1s,A2O];refine wpAny_pure (h p _ H' c3 hP hU ?_ (hf a 0xA) sm hc3);exact I'.sZ (t':=tk) hf fun b o hb' g=>by
   have n1:b≠a:=fun z=>hb' (by simp [z]);have n2:b≠kS:=fun z=>hb' (by simp [z]);rw [A1p _ _ _ _ n1,A1p _ _ _ _ n2];exact g
 have lk:(0x44).length=(done.map Value.ref).length:=by rw [bV,bV,KA.1]
 unfold ksk_end;dsimp only;simp only [A1s,A2O]
 by_cases h2:(done.map Value.ref).toArray.size<2
 ·rw [A0i h2,A0i h2];refine A0a 0x13;rw [StateT.run_pure];refine A0a 0x13;dsimp only;refine tail _ (List.range done.length).toArray s'.toks (A5m _) (fun i j hij hj=>by rw [zl] at h2;lia) ?_ rfl;have eo:(arrOf (SortSt.mk' general' ((0x44).toArray.zip (done.map Value.ref).toArray) #[] 7 none)).map (·.2)=(done.map Value.ref).toArray :=
   Array.map_snd_zip (as:=(0x44).toArray) (bs:=(done.map Value.ref).toArray) (by simp;exact Nat.le_of_eq KA.1.symm)
  rw [eo];have ro:=rF (done.map Value.ref);rw [bV] at ro;rw [ro]
 ·rw [A0e h2,A0e h2];have h2':2<=done.length:=by rw [zl] at h2;lia
  refine A0a (A1b (hk h2' ks H' s' (fun κ' s2=>κ'=κ/\s2=s') I'.hok sm KA ⟨rfl,rfl⟩) (fun κ' s2 hκ=>?_) fun _ _ x=>x.elim);obtain ⟨rfl,rfl⟩:=hκ;refine A0a (A1b (kat_run (κ:=κ') (ks:=ks.map Value.ref) (vs:=done.map Value.ref) (Q:=fun st' s3=>∃ (p:Array Nat) (tk:Nat),Pm done.length p/\Up lt p done.length/\arrOf st'=p.map (kas_item ((0x44).toArray.zip (done.map Value.ref).toArray))/\failedOf st'=none/\s3={ s2 with toks:=tk })
   (G:=fun p s3=>∃ tk:Nat,Pm done.length p/\Up lt p done.length/\s3={ s2 with toks:=tk })
   lk (by rw [bV];exact h2') (by rw [bV];exact h64) (fun p st' s3 _ b2 b3 ⟨tk,c1,c2,c3⟩=>⟨p,tk,c1,c2,b2,b3,c3⟩) ?_) ?_ fun _ _ e=>e)
  ·rw [bV];refine K4 (J:=fun s3=>∃ tk:Nat,s3={ s2 with toks:=tk }) O (fun i j C s3 hi hj hij hJ hC=>?_) h2' ⟨s2.toks,rfl⟩ fun p' s3 hP hU ⟨tk,e⟩=>⟨tk,hP,hU,e⟩;obtain ⟨tk,rfl⟩:=hJ;exact hl ks H' _ i j C (I'.tok tk) sm KA hi hj hij fun tk'=>hC _ ⟨tk',rfl⟩
  ·rintro ⟨⟨⟩,st'⟩ s3 ⟨p,tk,hP,hU,har,hfl,rfl⟩;dsimp only;exact tail st' p tk hP hU (kat_snds lk har) hfl
end L2
namespace PySem.SeqAt
open PySem PySem.MeetsSeq PySem.Calls PyProof.Rows
theorem Hs (l b:Addr) (items items2:Array Value) (n n2:Nat) (dd dd2:Option Addr) (sl sl2:Array (Option Value)) (e:Nat->Bool) (r:Bool) (j:Nat) (g1:j<items.size) (g2:j<items2.size) (hit:e j=false) (pre:∀ i,i<j->e i=true) :
  Meets (Builtin.«tuple.__lt__» ⟨[.ref l,.ref b],[]⟩)
   (fun A R s=>s.heap.get? l=some { cls:=.type "tuple",dict:=dd,data:=.seq items n,slots:=sl }/\s.heap.get? b=some { cls:=.type "tuple",dict:=dd2,data:=.seq items2 n2,slots:=sl2 } /\
    (∀ j (h1:j<items.size) (h2:j<items2.size),EqAt A.in1 s items[j] items2[j] (e j))/\(∀ (prog:Program) (w:World) (E:Value->Shared->Prop) (Q:Value->Shared->Prop),Q (.bool r) s->wpAny 0xC A.in1 (richCompare .Lt items[j] items2[j]) Q E s) /\
    R (.ok (.ret (.bool r))) s) :=
 .of_wp fun prog w A R s h=>by
  obtain ⟨hp,g,d,tk,os⟩:=s;obtain ⟨hl,hb,he,hc,h⟩:=h;have f2:=AutoSeq1.sub_tuple_tuple;have hZ:(items.toList.zip items2.toList).length=min items.size items2.size:=by simp
  wp_walk using A4l hl,A4l hb,wpAny_forIn_list _ (fun rest b s'=>b.1=none/\s'=⟨hp,g,d,tk,os⟩/\∃ i,i<=j/\rest=(items.toList.zip items2.toList).drop i) _
  case turn =>
   rintro ⟨y,x⟩ rest b s' ⟨hb',rfl,i,hij,hz⟩;have hlt:i<(items.toList.zip items2.toList).length:=by
    rcases Nat.lt_or_ge i (items.toList.zip items2.toList).length with h' | h'
    ·exact h'
    ·rw [List.drop_of_length_le h'] at hz;cases hz
   have hm:i<min items.size items2.size:=hZ ▸ hlt;have h1:i<items.size:=A0q hm (Nat.min_le_left _ _);have h2:i<items2.size:=A0q hm (Nat.min_le_right _ _);rw [List.drop_eq_getElem_cons hlt] at hz;injection hz with hyx hrest;have hy:y=items[i]:=by have:=A1G Prod.fst hyx;simpa using this
   have hx:x=items2[i]:=by have:=A1G Prod.snd hyx;simpa using this
   subst hy hx;refine A0a (he i h1 h2 prog w _ _ ?_)
   by_cases hi:i=j
   ·subst hi;rw [hit]
    wp_walk using hc prog w
    exact ⟨_,rfl,h⟩
   ·rw [pre i 0x2]
    wp_walk
    exact ⟨rfl,rfl,i+1,by lia,hrest⟩
  case fin =>
   rintro ⟨b1,b2⟩ s' ⟨hb',rfl,i,hij,hz⟩
   exfalso
   rcases Nat.lt_or_ge i (items.toList.zip items2.toList).length with h' | h'
   ·rw [List.drop_eq_getElem_cons h'] at hz;cases hz
   ·rw [hZ] at h';lia
  case h =>
   exact ⟨rfl,rfl,0,A0X _,rfl⟩
end PySem.SeqAt
namespace L2
open PySem PySem.Spec PyProof.Rows PySem.W
theorem Inv.track (I:Inv X pins σ H s) (hf:j8 X pins H D) (new:cJ X.prog X.w (upd H D o) s.heap D o):Inv X pins σ (upd H D o) s:=by
 have hn:H D=none:=hf.1;have g:=I.step (h':=s.heap) (H':=upd H D o) (g':=s.gens) (t':=s.toks) (d':=s.drawn) (ch:=[D]) (fun b hb=>by rw [A0c.mp hb];exact ⟨hf.2.2.2.1,hf.2.1,hf.2.2.2.2.1,hf.2.2.2.2.2⟩) (fun b o _ _ _ e _=>e) (fun b o _ _ _ e _=>⟨o.slots,e⟩)
  (fun b o hb e n=>by rw [ak (fun z=>hb (by simp [z]))];exact n)
  (fun b o _ e=>⟨o,e⟩) (fun b xs e=>by rw [ak (au e hn)];exact e) (fun b u xs e=>by rw [ak (au e hn)];exact e) (fun b ps e=>⟨#[],by rw [ak (au e hn),e];simp⟩) (fun m hm=>hm) (fun b u e=>?_) I.bare
 ·exact g
 ·by_cases hb:b=D
  ·subst hb;rw [ao] at e;cases e;exact new
  ·rw [ak hb] at e;refine (I.hok b u e).stay (fun c v hc q=>q) (fun c q=>?_) fun c xs q=>?_
   ·first
     | (rw [ak (au q hn)];exact q)
     | exact q
   ·first
     | (rw [ak (au q hn)];exact q)
     | exact q
theorem Kw:∀ {xs:List V}{us:List Value},xs.length=us.length->(∀ (j:Nat) (x:V) (u:Value),xs[j]?=some x->us[j]?=some u->RelV x u)->Vals xs us
 | [],[],_,_=>.nil
 | [],_::_,h,_=>by simp at h
 | _::_,[],h,_=>by simp at h
 | x::xs,u::us,h,k=>.cons (k 0 x u 0xA 0xA) (Kw (by simpa using h) fun j y w h1 h2=>k (j+1) y w (by simpa using h1) (by simpa using h2))
theorem gF.pairs:∀ {es:List DictEntry}{kvs:List 0x81},gF w.params es kvs->∃ kvs':List 0x73,Pairs 0x20 es kvs'/\kvs'.map (·.1)=kvs.map (·.1)
 | [],[],_=>⟨[],.nil,rfl⟩
 | e::r,(k,v)::q,⟨⟨⟨t,h1⟩,h2,h3⟩,h⟩=>by
  have ih:∃ kvs':List 0x73,Pairs 0x20 r kvs'/\kvs'.map (·.1)=q.map (·.1):=gF.pairs h;obtain ⟨l,p,el⟩:=ih;exact ⟨(k,e.val)::l,.cons (by rw [h1];exact A2V prog w k t) rfl p,by rw [A0h,A0h,el]⟩
theorem KD.dictAt {kvs:List 0x81} (d:KD K w.params a kvs)  (X:K.In h) (nd:(kvs.map (·.1)).Nodup):∃ (kvs':List 0x73) (ep:Nat),h.DictAt 0x20 a kvs' ep/\kvs'.map (·.1)=kvs.map (·.1):=by
 obtain ⟨es,n,hl,he⟩:=d.ex;obtain ⟨l,p,el⟩:=he.pairs (prog:=prog);refine ⟨l,n,⟨_,es,X _ _ hl,⟨rfl,rfl,rfl⟩,rfl,fun e hm=>?_,p,by rw [el];exact nd⟩,el⟩;obtain ⟨x,t,e1,e2⟩:=he.lit.all e (Array.mem_toList_iff.mpr hm);exact ⟨x,by rw [e1];exact A2V prog w x t,e2⟩
inductive Ky (K:W.Frag) (P:Params) (xs:List V) (H:Hp) (Q:VK):Prop
 | mk (a:Addr) (kvs:List (Prod Str V)) (_:xs=[.ref a]) (_:KD K P a kvs) (_:(kvs.map (·.1)).Nodup) (_:kvs.length<=1000) (_:∀ p,H p=none->Q 0x48 (upd H p (.lst (kvs.map fun e=>.str e.1)))):Ky K P xs H Q
theorem DY (hin:X.A.handled=none):iy X (.type "list") (Ky X.K X.w.params):=by
 intro pins s σ H xs us Q I r h;obtain ⟨a,kvs,rfl,d,nd,hz,q⟩:=h;obtain ⟨u,rfl,ru⟩:=vals1 r;cases ru;obtain ⟨kvs',ep,hd,ek⟩:=d.dictAt (prog:=X.prog) I.oO nd;have hlen:kvs'.length=kvs.length:=by have:=A1G List.length ek;simpa using this
 refine kdl_call (kdl_dict (knd:=strKind X.prog X.w) (kvs:=kvs') (ep:=ep) d.lo) hin hd (by rw [hlen,A1e];lia) fun h' tk acc c hk hS hI=>?_;have hv:Vals (kvs.map fun e=>V.str e.1) acc.toList:=by
  have ln:acc.toList.length=kvs.length:=by rw [A0L,hI.1,hlen]
  have key:∀ (j:Nat) (w:Value),acc.toList[j]?=some w->∃ e,kvs[j]?=some e/\∃ t,w=.str e.1 t:=fun j w hj=>by
   obtain ⟨k,x,e1,e2⟩:=hI.2 j w (by simpa using hj);have hj':j<kvs.length:=by rw [<- hlen];exact (A0l.mp e1).1
   refine ⟨kvs[j],ju hj',?_⟩;have e3:(kvs'.map (·.1))[j]?=(kvs.map (·.1))[j]?:=by rw [ek]
   rw [jW,jW,e1,ju hj'] at e3;have e4:k=kvs[j].1:=by simpa using e3
   rw [<- e4];exact A2X e2
  refine Kw (by rw [bV,ln]) fun j x u hx hu=>?_;obtain ⟨e,he,t,rfl⟩:=key j u hu;rw [jW,he] at hx;have:V.str e.1=x:=by simpa using hx
  subst this;exact ⟨t,rfl⟩
 have hl:(kvs.map fun e=>V.str e.1).length<=sizeLine:=by rw [bV,A1e];lia
 exact ⟨.ref s.heap.objs.size,_,I.laid (o:=.lst (kvs.map fun e=>.str e.1)) (t':=tk) hk 0x2D ⟨hl,acc.toList,c,hv,hS⟩,rfl,q _ 0x3D⟩
inductive Kz (K:W.Frag) (x:V) (vs:List V) (H:Hp) (Q:VK):Prop
 | mk (l:Addr) (zs:List Str) (z:Str) (j:Nat) (_:x=.ref l) (_:vs=[.str z]) (_:bO K H l 0x8C) (_:zs[j]?=some z) (_:(∀ i,i<j->zs[i]?≠some z)) (_:j<1000) (_:Q (.int ((j:Nat):Int)) H):Kz K x vs H Q
theorem KC:∀ {zs:List Str}{us:List Value},Vals 0x8C us->∀ (j:Nat) (u:Value),us[j]?=some u->∃ z t,zs[j]?=some z/\u=.str z t
 | [],_,r,j,u,h=>by rw [A3V] at r;cases r;simp at h
 | z::zs,_,r,j,u,h=>by
  rw [A0h] at r;cases r with
  | cons r1 r2 =>
   obtain ⟨t,e⟩:=r1;cases j with
   | zero=>simp at h;subst h;exact ⟨z,t,by simp,e⟩
   | succ j=>obtain ⟨z',t',a,b⟩:=KC r2 j u (by simpa using h);exact ⟨z',t',by simpa using a,b⟩
theorem rM:MtR X "list.index" (Kz X.K):=by
 intro pins s σ H x vs v us Q I rx rv h;obtain ⟨l,zs,z,j,rfl,rfl,hq,hj,hno,hjs,q⟩:=h;cases rx;obtain ⟨u,rfl,ru⟩:=rv.one;obtain ⟨tz,rfl⟩:=ru;obtain ⟨its,rv',pl,hz⟩:=I.list hq;have hlen:zs.length=its.length:=by have:=rv'.length;simpa using this
 have hjl:j<zs.length:=(A0l.mp hj).1;have at_:∀ (m:Nat) (hm:m<its.toArray.size),∃ y t,zs[m]?=some y/\its.toArray[m]=.str y t:=fun m hm=>KC rv' m _ 0xA;obtain ⟨⟨oc,od,oda,osl⟩,n,ho,hc,hdn,hdd⟩:=pl;dsimp only at hc hdn hdd;subst hc hdn hdd;have hjs':j<its.toArray.size:=by rw [A0s];lia
 have ev:∀ (m:Nat) (hm:m<its.toArray.size) (y:Str),zs[m]?=some y->(match its.toArray[m] with | .str a _=>a==z | _=>false)=(y==z):=fun m hm y hy=>by
  obtain ⟨y',t,e1,e2⟩:=at_ m hm;rw [hy] at e1;cases e1;rw [e2]
 refine call_meets A3d ⟨_,ho,rfl⟩ PySem.F.entry_list_index (PySem.F.args_list_index_2 _ _)
  (SeqAt.list_indexAt l its.toArray n none osl (.str z tz) (fun u=>match u with | .str a _=>a==z | _=>false) j hjs' 0x2 (by rw [ev j hjs' z hj];exact A3c z) (fun m hm hlt=>?_)) ⟨?_,fun y hy=>?_,?_⟩
 ·obtain ⟨y,t,e1,e2⟩:=at_ m hm;rw [ev m hm y e1,A1J];intro e;exact hno m hlt (by rw [e1,e])
 ·exact ho
 ·obtain ⟨m,hm,rfl⟩:=Array.mem_iff_getElem.mp hy;obtain ⟨y,t,e1,e2⟩:=at_ m hm;rw [ev m hm y e1,e2];exact A4K y t z tz
 ·exact ⟨.int ((j:Nat):Int),H,I.tok _,⟨_,rfl⟩,q⟩
inductive KH (x:V) (vs:List V) (H:Hp) (Q:VK):Prop
 | mk (l:Addr) (xs:List V) (i:Nat) (y:V) (_:x=.ref l) (_:vs=[.int ((i:Nat):Int),y]) (_:H l=some 0x67) (_:i<=xs.length) (_:xs.length<1000) (_:Q .non (upd H l (.lst (xs.take i++y::xs.drop i)))):KH x vs H Q
theorem NT:MtR X "list.insert" KH:=by
 intro pins s σ H x vs v us Q I rx rv h;obtain ⟨l,xs,i,y,rfl,rfl,hH,hi,hz,q⟩:=h;cases rx;obtain ⟨u,u',rfl,⟨t,rfl⟩,ru⟩:=vals2 rv;obtain ⟨z,its,n,r,hl,e⟩:=I.Q8 hH;have fit:Builtin.List.listFitsIndex ((i:Nat):Int)=true:=by
  unfold Builtin.List.listFitsIndex;simp;lia
 have hsz:its.toArray.size<=sizeLine:=by rw [A0s,<- hl];exact z
 generalize hx:((i:Nat):Int)=x at fit rv ⊢;have fit':¬(!Builtin.List.listFitsIndex x)=true:=by simp [fit]
 have g:=PySem.AutoSeq1.list_insert_list_int_val_1 l its.toArray n x t u' fit' hsz;refine call_meets PySem.F.slot_list_insert ⟨_,e,rfl⟩ PySem.F.entry_list_insert (PySem.F.args_list_insert_3 _ _ _) g ⟨e,?_⟩;refine ⟨.non,_,I.ZG (its':=its.take i++u'::its.drop i) hH e ?_ ((r.take i).append (.cons ru (r.drop i))) ?_,rfl,q⟩
 ·subst hx
  show (its.toArray.extract 0 (if ((i:Nat):Int)<0 then (((i:Nat):Int)+(its.toArray.size:Int)).toNat else min ((i:Nat):Int).toNat its.toArray.size)).push u'++its.toArray.extract (if ((i:Nat):Int)<0 then (((i:Nat):Int)+(its.toArray.size:Int)).toNat else min ((i:Nat):Int).toNat its.toArray.size)=_
  have e0:¬ ((i:Nat):Int)<0:=Int.not_lt.mpr (Int.natCast_nonneg i);rw [A0e e0];have em:min ((i:Nat):Int).toNat its.toArray.size=i:=by rw [A0s,A1Z];lia
  rw [em,kl_ins_eq]
 ·refine A0O (m:=1000) ?_ (by rw [A1e];decide);rw [iw,oX,A0G,A1H];lia
def ltV:V->V->Bool
 | .int a,.int b=>decide (a<b)
 | .str a,.str b=>decide (a.cps.toList<b.cps.toList)
 | _,_=>false
def mY:List V->List V->Bool
 | x::xs,y::ys=>if x=y then mY xs ys else ltV x y
 | [],_::_=>true
 | _,_=>false
def U5:V->V->Bool
 | .int _,.int _=>true
 | .str _,.str _=>true
 | _,_=>false
def qF:List V->List V->Prop
 | x::xs,y::ys=>U5 x y=true/\qF xs ys
 | [],[]=>True
 | _,_=>False
theorem yg {x z:V} (h:ltV x y=true) (g:ltV y z=true):ltV x z=true:=by
 cases x with
 | int a=>cases y with
  | int b=>cases z with
   | int c=>exact A0k (Int.lt_trans (rT h) (rT g))
   | _=>cases g
  | _=>cases h
 | str a=>cases y with
  | str b=>cases z with
   | str c=>exact A0k (List.lt_trans (rT h) (rT g))
   | _=>cases g
  | _=>cases h
 | _=>cases h
theorem Ht {x:V}:ltV x x=false:=by
 cases x <;> first | rfl | skip
 ·exact A0p (Int.lt_irrefl _)
 ·exact A0p (List.lt_irrefl _)
theorem NZ {x:V} (t:U5 x y=true) (hne:x≠y) (h:ltV x y=false):ltV y x=true:=by
 cases x <;> cases y <;> first | cases t | skip
 ·rename_i a b
  have h':=A3i h;have:a≠b:=fun e=>hne (by rw [e]);exact A0k 0x2
 ·rename_i a b
  have h':=A3i h;have ne:a.cps.toList≠b.cps.toList:=fun e=>hne (by rw [pY e]);refine A0k ?_;have le:b.cps.toList<=a.cps.toList:=List.not_lt.mp h';rcases List.le_iff_lt_or_eq.mp le with z | z
  ·exact z
  ·exact absurd z.symm ne
theorem vC:∀ {xs ys zs:List V},qF xs ys->qF ys zs->mY xs ys=true->mY ys zs=true->mY xs zs=true
 | [],[],_,_,_,h,_=>by cases h
 | [],_::_,_,t,_,_,_=>t.elim
 | _::_,[],_,t,_,_,_=>t.elim
 | _::_,_::_,[],_,t,_,_=>t.elim
 | x::xs,y::ys,z::zs,t,u,h,g=>by
  unfold mY at h g ⊢
  by_cases e:x=y
  ·subst e;rw [A0i rfl] at h
   by_cases e2:x=z
   ·subst e2;rw [A0i rfl] at g ⊢;exact vC t.2 u.2 h g
   ·rw [A0e e2] at g ⊢;exact g
  ·rw [A0e e] at h
   by_cases e2:y=z
   ·subst e2;rw [A0e e];exact h
   ·rw [A0e e2] at g;have hx:x≠z:=fun e3=>by
     subst e3;have:=yg h g;rw [Ht] at this;cases this
    rw [A0e hx];exact yg h g
theorem vD:∀ {xs ys:List V},qF xs ys->xs≠ys->mY xs ys=false->mY ys xs=true
 | [],[],_,h,_=>absurd rfl h
 | [],_::_,t,_,_=>t.elim
 | _::_,[],t,_,_=>t.elim
 | x::xs,y::ys,t,hne,h=>by
  unfold mY at h ⊢
  by_cases e:x=y
  ·subst e;rw [A0i rfl] at h ⊢;exact vD t.2 (fun z=>hne (by rw [z])) h
  ·rw [A0e e] at h;rw [A0e (A0m e)];exact NZ t.1 e h
theorem yh:∀ {xs ys:List V},qF xs ys->xs≠ys->∃ (j:Nat) (x y:V),xs[j]?=some x/\ys[j]?=some y/\x≠y/\U5 x y=true/\(∀ i,i<j->xs[i]?=ys[i]?)/\mY xs ys=ltV x y
 | [],[],_,h=>absurd rfl h
 | [],_::_,t,_=>t.elim
 | _::_,[],t,_=>t.elim
 | x::xs,y::ys,t,hne=>by
  by_cases e:x=y
  ·subst e;obtain ⟨j,a,b,h1,h2,h3,h4,h5,h6⟩:=yh t.2 (fun z=>hne (by rw [z]));refine ⟨j+1,a,b,by simpa using h1,by simpa using h2,h3,h4,fun i hi=>?_,by unfold mY;rw [A0i rfl];exact h6⟩;cases i with
   | zero=>simp
   | succ i=>simpa using h5 i 0x2
  ·exact ⟨0,x,y,by simp,by simp,e,t.1,fun i hi=>absurd hi (A5l _),by unfold mY;rw [A0e e]⟩
theorem O1 {x:V}{w:Value} (hu:A.units+8<cLine) (rx:RelV x u) (ry:RelV y w) (hx:ig x=true) (hy:ig y=true):SeqAt.EqAt A s u w (decide (x=y)):=by
 cases x with
 | int a =>
  obtain ⟨t,rfl⟩:=rx;cases y with
  | int b =>
   obtain ⟨t',rfl⟩:=ry;have e:decide (V.int a=V.int b)=(a==b):=by rw [A1n];simp
   rw [e];exact SeqAt.EqAt.int_int a t b t'
  | str z =>
   obtain ⟨t',rfl⟩:=ry;rw [A0p (show ¬ V.int a=V.str z from fun e=>by cases e)]
   exact A4z a t z t'
  | _=>cases hy
 | str a =>
  obtain ⟨t,rfl⟩:=rx;cases y with
  | int b =>
   obtain ⟨t',rfl⟩:=ry;rw [A0p (show ¬ V.str a=V.int b from fun e=>by cases e)]
   exact A4G a t b t'
  | str z =>
   obtain ⟨t',rfl⟩:=ry;have e:decide (V.str a=V.str z)=(a==z):=by rw [A1n];simp
   rw [e];exact A4K a t z t'
  | _=>cases hy
 | _=>cases hx
theorem KJ {q:Addr} (hu:A.units+9<cLine) (hk:oE X.prog X.w H s.heap) (hp:H p=some 0x35) (hq:H q=some (.tup ys)) (hx:xs.all ig=true) (hy:ys.all ig=true) (t:qF xs ys) (hne:xs≠ys)
  (h:Q (.bool (mY xs ys)) s):wpAny 0x9 A (compareOp .Lt 0x48 (.ref q)) Q E s:=by
 obtain ⟨z1,its,r1,⟨⟨oc,od,oda,osl⟩,ho,hc,n,hd⟩⟩:=hk p _ hp;obtain ⟨z2,its2,r2,⟨⟨oc2,od2,oda2,osl2⟩,ho2,hc2,n2,hd2⟩⟩:=hk q _ hq;dsimp only at hc hd hc2 hd2;subst hc hd hc2 hd2;obtain ⟨j,x,y,h1,h2,h3,h4,h5,h6⟩:=yh t hne;obtain ⟨u,hu1,ru⟩:=r1.get h1;obtain ⟨w,hw1,cO⟩:=r2.get h2;have l1:=r1.length;have l2:=r2.length;have g1:j<its.toArray.size:=by rw [A0s];exact (A0l.mp hu1).1
 have g2:j<its2.toArray.size:=by rw [A0s];exact (A0l.mp hw1).1
 have eu:its.toArray[j]=u:=by have:=(A0l.mp hu1).2;simpa using this
 have ew:its2.toArray[j]=w:=by have:=(A0l.mp hw1).2;simpa using this
 refine cmp_ofLt (richCompare_meets_room (op:=.Lt) ⟨_,ho,rfl⟩ ⟨_,ho2,rfl⟩ PySem.F.slot_tuple_lt PySem.F.entry_tuple_lt (PySem.F.args_tuple_lt_2 _ _)
  (SeqAt.Hs p q its.toArray its2.toArray n n2 _ _ _ _ (fun i=>decide (xs.getD i .non=ys.getD i .non)) (mY xs ys) j g1 g2 ?_ fun i hi=>?_) ⟨ho,ho2,fun i a1 a2=>?_,fun prog w E Q hQ=>?_,?_⟩ 0x2)
 ·refine A0p ?_;rw [qQ,qQ,h1,h2];exact h3
 ·refine A0k ?_;rw [qQ,qQ,h5 i hi]
 ·rw [A0s] at a1 a2;have b1:i<xs.length:=by lia
  have b2:i<ys.length:=by lia
  obtain ⟨u',c1,c2⟩:=r1.get (ju b1);obtain ⟨w',d1,d2⟩:=r2.get (ju b2);have e1:its.toArray[i]=u':=by have:=(A0l.mp c1).2;simpa using this
  have e2:its2.toArray[i]=w':=by have:=(A0l.mp d1).2;simpa using this
  rw [e1,e2,qQ,qQ,ju b1,ju b2];exact O1 (by show A.units+1+8<_;lia) c2 d2 (A1I.mp hx _ (A0P b1)) (A1I.mp hy _ (A0P b2))
 ·rw [eu,ew];rw [h6] at hQ;cases x with
  | int a =>
   cases y with
   | int b =>
    obtain ⟨t1,rfl⟩:=ru;obtain ⟨t2,rfl⟩:=cO;exact lt_int hQ
   | _=>cases h4
  | str a =>
   cases y with
   | str b =>
    obtain ⟨t1,rfl⟩:=ru;obtain ⟨t2,rfl⟩:=cO;exact lt_str hQ
   | _=>cases h4
  | _=>cases h4
 ·exact ⟨(fun z=>by cases z),h⟩
inductive rLtR (x y:V) (H:Hp) (Q:VK):Prop
 | mk (p q:Addr) (xs ys:List V) (_:x=.ref p) (_:y=.ref q) (_:H p=some 0x35) (_:H q=some (.tup ys)) (_:xs.all ig=true) (_:ys.all ig=true) (_:qF xs ys) (_:xs≠ys) (_:Q (.bl (mY xs ys)) H):rLtR x y H Q
theorem a0V (hu:X.A.units+64<cLine):nA X (compareOp .Lt) rLtR:=by
 intro pins s σ H x y v u Q I rx ry h;obtain ⟨p,q,xs,ys,rfl,rfl,hp,hq,hx,hy,t,hne,k⟩:=h;cases rx;cases ry;exact KJ 0x2 I.hok hp hq hx hy t hne ⟨.bl _,H,I,rfl,k⟩
end L2
namespace M
open PySem L2 PyProof.Rows
abbrev zW:Stmt:=top 13
abbrev Hu:Stmt:=top 14
abbrev Hv:Stmt:=top 63
abbrev zX:Stmt:=top 64
abbrev HJ:Stmt:=top 65
abbrev HN:Stmt:=top 71
def HS.num:HS->Bool
 | .d=>true | .n=>false | .c=>false | .a=>true | .s=>true
def forms:List (Str×List HS):=[("heir",[.d,.n,.n]),("grant",[.d,.c,.n,.n,.a,.s]),("part",[.d,.n,.n,.n,.a]),("convey",[.d,.n,.n]),("liege",[.d,.n,.c]),("surrender",[.d,.n]),("death",[.d,.n])]
def form (k:Str):Option (List HS):=forms.lookup k
def isI:V->Bool
 | .int _=>true
 | _=>false
def KN (l:List HS) (rest:List V):Prop:=∀ (i:Nat) (s:HS) (v:V),l[i]?=some s->rest[i]?=some v->isI v=s.num
theorem HX {k:Str}{l:List HS} (h:form k=some l):(k,l)∈forms:=by
 unfold form at h
 revert h
 generalize forms=fs
 induction fs with
 | nil=>intro h;cases h
 | cons p r ih =>
  obtain ⟨k',l'⟩:=p;intro h;rw [A1a] at h
  by_cases e:k=k'
  ·subst e;simp at h;subst h;exact A0g
  ·have e':(k==k')=false:=by simpa using e
   rw [e'] at h;exact iT _ (ih h)
def U6:List V:=[.str "heir",.str "grant",.str "part",.str "convey",.str "liege",.str "surrender",.str "death"]
def KQ:Sp:=fun vs H Q _=>vs=[]/\∀ p,H p=none->Q 0x48 (upd H p (.lst U6))
theorem Xj:aO [] [] (aH Hv):=0x0
theorem U7 (F:fK K "_law_kinds" "_law_kinds" Hv f fd):aJ P w K mg base bM 1 f fd [] KQ:=by
 refine F.ok Xj 0x1 0x3;obtain ⟨rfl,k⟩:=h;refine ⟨_,aG (aV (dN (aj aK (aj aK (aj aK (aj aK (aj aK (aj aK (aj aK aC))))))))),?_⟩;exact ⟨small 0xA,k⟩
open PySem.Spec PySem.W
def cL:List Str:=["heir", "grant", "part", "convey", "liege", "surrender", "death"]
def cY (k:Str):Nat:=cL.idxOf k
structure RowD (r:List V) (k:Str) (d:Int) (rest:List V) (l:List HS):Prop where
 e:r=.str k::.int d::rest
 f:form k=some l
 len:(V.int d::rest).length=l.length
 kept:KN l (.int d::rest)
 flat:r.all ig=true
inductive gA (r:List V):Prop
 | mk (k:Str) (d:Int) (rest:List V) (l:List HS) (_:RowD r k d rest l):gA r
def iu:List V->Int
 | _::.int d::_=>d
 | _=>0
def fJ:List V->Str
 | .str k::_=>k
 | _=>""
def eV (r s:List V):Bool:=if iu r≠iu s then decide (iu r<iu s) else if cY (fJ r)≠cY (fJ s) then decide (cY (fJ r)<cY (fJ s)) else mY r s
theorem Ea:∀ {l:List HS}{xs ys:List V},xs.length=l.length->ys.length=l.length->KN l xs->KN l ys->xs.all ig=true->ys.all ig=true->qF xs ys
 | [],[],[],_,_,_,_,_,_=>trivial
 | [],_::_,_,h,_,_,_,_,_=>by simp at h
 | [],[],_::_,_,h,_,_,_,_=>by simp at h
 | _::_,[],_,h,_,_,_,_,_=>by simp at h
 | _::_,_::_,[],_,h,_,_,_,_=>by simp at h
 | s::l,x::xs,y::ys,h1,h2,k1,k2,f1,f2=>by
  rw [A2x,A0Y] at f1 f2;refine ⟨?_,Ea (by simpa using h1) (by simpa using h2) (fun i t v a b=>k1 (i+1) t v 0x6E (by simpa using b)) (fun i t v a b=>k2 (i+1) t v 0x6E (by simpa using b)) f1.2 f2.2⟩;have a1:=k1 0 s x 0xA 0xA;have a2:=k2 0 s y 0xA 0xA;rw [<- a2] at a1;cases x <;> cases y <;> first | rfl | (cases a1;done) | (cases f1.1;done) | (cases f2.1;done)
theorem mQ {k:Str}{l:List HS} (h:form k=some l):k∈cL:=by
 have:=HX h;have e:cL=forms.map (·.1):=by decide +kernel
 rw [e];exact A0j.mpr ⟨(k,l),this,rfl⟩
theorem Eb {k k':Str} (h:k∈cL) (h':k'∈cL) (e:cY k=cY k'):k=k':=by
 have a:cL.idxOf k<cL.length:=A3J.mpr h;have b:cL.idxOf k'<cL.length:=A3J.mpr h';have e1:cL[cL.idxOf k]=k:=A3P a;have e2:cL[cL.idxOf k']=k':=A3P b;unfold cY at e;rw [<- e1,<- e2];simp only [e]
theorem gA.same {r s:List V} (hr:gA r) (hs:gA s) (e:cY (fJ r)=cY (fJ s)):qF r s:=by
 obtain ⟨k,d,rest,l,R⟩:=hr;obtain ⟨k',d',rest',l',S⟩:=hs;have e1:=R.e;have e2:=S.e;subst e1 e2;have ek:k=k':=Eb (mQ R.f) (mQ S.f) e;subst ek;have el:l=l':=by have:=R.f;rw [S.f] at this;exact (A0T this).symm
 subst el;have f1:=R.flat;have f2:=S.flat;rw [A2x,A0Y] at f1 f2;exact ⟨rfl,Ea R.len S.len R.kept S.kept f1.2 f2.2⟩
theorem kO {r s t:List V} (hr:gA r) (hs:gA s) (ht:gA t) (h:eV r s=true) (g:eV s t=true):eV r t=true:=by
 unfold eV at h g ⊢
 by_cases a:iu r=iu s
 ·rw [A0e 0x6E] at h
  by_cases b:iu s=iu t
  ·rw [A0e (by simpa using b)] at g;rw [A0e (by simpa using a.trans b)]
   by_cases c:cY (fJ r)=cY (fJ s)
   ·rw [A0e 0x3F] at h
    by_cases d:cY (fJ s)=cY (fJ t)
    ·rw [A0e (by simpa using d)] at g;rw [A0e (by simpa using c.trans d)];exact vC (hr.same hs c) (hs.same ht d) h g
    ·rw [A0i (by simpa using d)] at g;rw [A0i (by rw [c];simpa using d),c];exact g
   ·rw [A0i 0x3F] at h;have h':=rT h
    by_cases d:cY (fJ s)=cY (fJ t)
    ·rw [<- d,A0i 0x3F];exact h
    ·rw [A0i (by simpa using d)] at g;have g':=rT g;rw [A0i 0x2];exact A0k 0x2
  ·rw [A0i (by simpa using b)] at g;rw [a,A0i (by simpa using b)];exact g
 ·rw [A0i 0x6E] at h;have h':=rT h
  by_cases b:iu s=iu t
  ·rw [<- b,A0i 0x6E];exact h
  ·rw [A0i (by simpa using b)] at g;have g':=rT g;rw [A0i 0x2];exact A0k 0x2
theorem sO {r s:List V} (hr:gA r) (hs:gA s) (hne:r≠s) (h:eV r s=false):eV s r=true:=by
 unfold eV at h ⊢
 by_cases a:iu r=iu s
 ·rw [A0e 0x6E] at h;rw [A0e (by simpa using a.symm)]
  by_cases c:cY (fJ r)=cY (fJ s)
  ·rw [A0e 0x3F] at h;rw [A0e (by simpa using c.symm)];exact vD (hr.same hs c) hne h
  ·rw [A0i 0x3F] at h;have h':=A3i h;rw [A0i (fun e=>c e.symm)];exact A0k 0x2
 ·rw [A0i 0x6E] at h;have h':=A3i h;rw [A0i (fun e=>a e.symm)];exact A0k 0x2
theorem Ec {r s:List V} (hr:gA r) (hs:gA s) (h:eV r s=true):eV s r=false:=by
 cases e:eV s r with
 | false=>rfl
 | true =>
  have:=kO hr hs hr h e;unfold eV at this;rw [A0e 0xA,A0e 0xA] at this
  exfalso
  have irr:∀ xs:List V,mY xs xs=false:=fun xs=>by
   induction xs with
   | nil=>rfl
   | cons x xs ih=>unfold mY;rw [A0i rfl];exact ih
  rw [irr] at this;cases this
end M
namespace L2
open PySem PySem.Spec PyProof.Rows PySem.W
section
variable {M:Model}
theorem zY {rest:List Expr}{kws:List Keyword}
  (h:wpAny M A (spliced (backTo pos (starEach (e::rest) env))) (fun vs s1=>wpAny M A (evalAll ((0x54).map (·.2))) (fun kvs s2=>wpAny M A (call (.builtin T) vs (((0x54).filterMap (·.1)).zip kvs)) Q E s2) E s1) E s)
  (he:backTo pos (starEach (e::rest) env)=(false,eval e env)::backTo pos (starEach rest env)) (hp:(backTo pos (starEach (e::rest) env)).any (·.1)=false)
  (ha:(0x54).all (·.1.isSome)=true) (hk:(0x54).any (·.1.isNone)=false) :
  wpAny M A (callWith pos (.builtin T) [] (backTo pos (starEach (e::rest) env)) 0x54) Q E s:=by
 have g:wpAny M A (evalArgs (.builtin T) true (backTo pos (starEach (e::rest) env)) 0x54) (fun a s1=>wpAny M A (call (.builtin T) ([]++a.pos) a.kw) Q E s1) E s:=by
  rw [he] at h ⊢;exact evalArgs_kwB ha h
 unfold callWith;refine A0a (A1T (A1b g (fun a s1 h1=>A0a (A2l ?_)) fun _ _ z=>z));simp only [hp,hk,Bool.or_false];exact A0a (wpAny_pure (A0a (A1b h1 (fun r s2 hr=>A0a (A1T (wpAny_point (wpAny_pure hr)))) fun _ _ z=>z)))
end
end L2
namespace M
open PySem PySem.Spec PyProof.Rows PySem.W L2
inductive tX (vs:List V) (H:Hp) (Q:VK) (cD:XK):Prop
 | mk (p:Addr) (r:List V) (k:Str) (d:Int) (rest:List V) (l:List HS) (_:vs=[.ref p]) (_:H p=some (.tup r)) (_:RowD r k d rest l) (_:∀ q H',Same H H'->H' q=some (.tup [.int d,.int ((cY k:Nat):Int),.ref p])->Q (.ref q) H'):tX vs H Q cD
inductive Forms (K:W.Frag) (P:Params) (mg:Str->Option Value):Prop
 | mk (aF:Addr) (kvs:List (Prod Str V)) (_:mg "FORMS"=some (.ref aF)) (_:KD K P aF kvs) (_:kvs.map (·.1)=cL):Forms K P mg
theorem zZ {k:Str} (h:k∈cL):cL[cY k]?=some k/\(∀ i,i<cY k->cL[i]?≠some k)/\cY k<7:=by
 have a:cL.idxOf k<cL.length:=A3J.mpr h;refine ⟨?_,fun i hi e=>?_,a⟩
 ·unfold cY;rw [ju a,A3P a]
 ·have hl:i<cL.length:=Nat.lt_trans hi a;rw [ju hl] at e;have e':=A0T e;have nd:cL.Nodup:=by decide +kernel
  have pw:=A1i.mp nd i (cL.idxOf k) hl a hi;exact pw (by rw [e',A3P a])
theorem Xk:aO ["row"] ["row"] (aH Hu):=0x0
theorem U8 (F:fK K "place_in_order" "place_in_order" Hu f fd) (mo:Forms K w.params mg) (ml:mg "list"=none):aJ P w K mg base bM 1 f fd ["row"] tX:=by
 obtain ⟨aF,kvs,mF,kF,hF⟩:=mo;refine F.ok Xk 0x1 0x3;obtain ⟨p,r,k,d,rest,l,rfl,hp,R,q⟩:=h;refine ⟨_,aG (aV (cP (aj (aP bI 0x32 aA 0x4) (aj (iz A0z A3d A3S rM (fU (DY hr.hd) rfl ml oG (aj (cR rfl mF rfl (v:=.ref aF)) aC)) (aj (aP bI 0x32 aA 0x4) aC)) 0x82)))),?_⟩;have e:=R.e;subst e;obtain ⟨i1,i2,i3⟩:=zZ (mQ R.f);have ek:(kvs.map fun e=>V.str e.1)=cL.map V.str:=by rw [<- hF,A0S];rfl
 have hl7:kvs.length=7:=by have:=A1G List.length hF;simpa [cL] using this
 refine ⟨_,rfl,p,_,_,_,rfl,rfl,cj.of hp,aL (j:=1) rfl,?_⟩;refine ⟨aF,kvs,rfl,kF,by rw [hF];decide +kernel,by lia,fun z hz=>?_⟩;rw [ek];have s1:=aM hz (.lst (cL.map V.str));refine ⟨.inl ⟨rfl,_,bO.of ao⟩,_,rfl,p,_,_,_,rfl,rfl,cj.of (s1 _ _ hp),aL (j:=0) rfl,z,cL,k,cY k,rfl,rfl,bO.of ao,i1,i2,by lia,?_⟩;refine ⟨_,rfl,small 0xA,fun t ht=>?_⟩;exact q t _ (s1.trans (aM ht _)) ao
def iQ (H:Hp) (all:List Addr) (dat:Addr->List V):Prop:=(∀ a∈all,H a=some (.tup (dat a))/\gA (dat a))/\(all.map dat).Nodup
def Fe (dat:Addr->List V) (out:List Addr):Prop:=out.Pairwise fun a b=>eV (dat a) (dat b)=true
inductive Ed (K:W.Frag) (l:Addr) (H:Hp) (Q:VK):Prop
 | mk (all:List Addr) (dat:Addr->List V) (_:bO K H l 0x2E) (_:all.length<64) (_:iQ H all dat) (_:∀ D out H',Same H H'->H D=none->H' D=some (.lst 0x58)->out.Perm all->Fe dat out->Q 0x60 H'):Ed K l H Q
inductive vG (K:W.Frag) (vs:List V) (H:Hp) (Q:VK) (cD:XK):Prop
 | mk (l:Addr) (_:vs=[.ref l]) (_:Ed K l H Q):vG K vs H Q cD
def a0W (dat:Addr->List V) (p:Addr):List V:=[.int (iu (dat p)),.int ((cY (fJ (dat p)):Nat):Int),.ref p]
theorem rN {all:List Addr} (h:iQ H all dat)  (hi:i<all.length) (hj:j<all.length) (hij:i≠j):dat all[i]≠dat all[j]:=by
 have pw:=A1i.mp h.2;intro e;have li:i<(all.map dat).length:=by rw [bV];exact hi
 have lj:j<(all.map dat).length:=by rw [bV];exact hj
 rcases A4P hij with g | g
 ·exact pw i j li lj g (by simpa using e)
 ·exact pw j i lj li g (by simpa using e.symm)
section
variable {k:Nat}
theorem a0X {all ks:List Addr}{C:Bool->Shared->Prop} (hu:X.A.units+64<cLine) (I:Inv X pins σ H' s') (hrow:∀ a∈all,H' a=some (.tup (dat a))/\gA (dat a)) (KA:pJ H' (a0W dat) ks all)
  (hi:i<all.length) (hj:j<all.length) (hne:dat all[i]≠dat all[j]) (hC:∀ tk,C (eV (dat all[i]) (dat all[j])) { s' with toks:=tk }) :
  wpAny 0x9 X.A.in1.in1 (keyLt' (tuples' true) ((0x44).getD i Value.none) ((0x44).getD j Value.none)) C 0x63 s':=by
 have hi':i<ks.length:=by rw [KA.1];exact hi
 have hj':j<ks.length:=by rw [KA.1];exact hj
 rw [rK ks i hi',rK ks j hj'];have ki:=KA.2 i ks[i] all[i] (ju hi') (ju hi);have kj:=KA.2 j ks[j] all[j] (ju hj') (ju hj);obtain ⟨_,it1,r1,⟨o1,ho1,hc1,n1,hd1⟩⟩:=I.hok _ _ ki;obtain ⟨_,it2,r2,⟨o2,ho2,hc2,n2,hd2⟩⟩:=I.hok _ _ kj;obtain ⟨u1,r1,rfl,⟨t1,rfl⟩,r1'⟩:∃ u us,it1=u::us/\RelV (.int (iu (dat all[i]))) u/\Vals [.int ((cY (fJ (dat all[i])):Nat):Int),.ref all[i]] us:=by cases r1 with | cons a b=>exact ⟨_,_,rfl,a,b⟩
 obtain ⟨u2,r2,rfl,⟨t2,rfl⟩,r2'⟩:∃ u us,it2=u::us/\RelV (.int (iu (dat all[j]))) u/\Vals [.int ((cY (fJ (dat all[j])):Nat):Int),.ref all[j]] us:=by cases r2 with | cons a b=>exact ⟨_,_,rfl,a,b⟩
 obtain ⟨v1,w1,rfl,⟨t3,rfl⟩,rfl⟩:=vals2 r1';obtain ⟨v2,w2,rfl,⟨t4,rfl⟩,rfl⟩:=vals2 r2';obtain ⟨hpi,U9⟩:=hrow all[i] (A0P hi);obtain ⟨hpj,Ua⟩:=hrow all[j] (A0P hj);have fl:∀ r,gA r->r.all ig=true:=fun r ⟨_,_,_,_,R⟩=>R.flat;have g:=hC s'.toks;generalize all[i]=pi at *
 generalize all[j]=pj at *
 unfold eV at g;refine kat_lt ho1 hd1 ho2 hd2 ?_;refine kat_cons (A5e ?_)
 by_cases a:iu (dat pi)=iu (dat pj)
 ·rw [A0e 0x6E] at g;rw [show (iu (dat pi)==iu (dat pj))=true by simpa using a]
  refine kat_yes (kat_cons (A5e ?_))
  by_cases c:cY (fJ (dat pi))=cY (fJ (dat pj))
  ·rw [A0e 0x3F] at g;rw [show ((((cY (fJ (dat pi)):Nat):Int))==((cY (fJ (dat pj)):Nat):Int))=true by rw [c];simp]
   have st:=U9.same Ua c;obtain ⟨bs,rb⟩:=cN.reads I (.tup hpi (jQ _ (fl _ U9))) (u:=.ref pi) rfl;obtain ⟨cs,rc⟩:=cN.reads I (.tup hpj (jQ _ (fl _ Ua))) (u:=.ref pj) rfl;have q:=A5h (.tuple ((dat pi).map gG)) (.tuple ((dat pj).map gG)) X.A.in1.in1 s' _ _ bs cs rb rc (jq _ (fl _ U9)) (jq _ (fl _ Ua)) (by
    have h1:=nY (dat pi);have h2:PyData.depth (.tuple ((dat pi).map gG))<=3:=by show PyData.depthAll ((dat pi).map gG)+1<=3;lia
    have h3:X.A.in1.in1.units<=X.A.units+32:=by show X.A.units+1+1<=X.A.units+32;lia
    lia)
   have e:PyData.eqv (.tuple ((dat pi).map gG)) (.tuple ((dat pj).map gG))=decide (dat pi=dat pj):=kJ _ _ (fl _ U9) (fl _ Ua);rw [e,A0p hne] at q;refine kat_yes (kat_cons (q _ _ _ _ (kat_no ?_)));exact kat_one _ _ (KJ (X:=X) (by show X.A.units+1+1+9<_;lia) I.hok hpi hpj (fl _ U9) (fl _ Ua) st hne g)
  ·rw [A0i 0x3F] at g;rw [show ((((cY (fJ (dat pi)):Nat):Int))==((cY (fJ (dat pj)):Nat):Int))=false by rw [A1J];lia]
   refine kat_no (kat_one _ _ (lt_int ?_));have e:decide (((cY (fJ (dat pi)):Nat):Int)<((cY (fJ (dat pj)):Nat):Int))=decide (cY (fJ (dat pi))<cY (fJ (dat pj))):=by rw [A1n];simp
   rw [e];exact g
 ·rw [A0i 0x6E] at g;rw [show (iu (dat pi)==iu (dat pj))=false by rw [A1J];exact a]
  exact kat_no (oneLt_int g)
end
end M
namespace L2
open PySem PySem.Spec PyProof.Rows PySem.W
theorem yj:∀ as:List Addr,Vals (as.map V.ref) (as.map Value.ref)
 | []=>.nil
 | _::r=>.cons rfl (yj r)
end L2
namespace M
open PySem PySem.Spec PyProof.Rows PySem.W PySem.Calls L2
theorem Z0:∀ as:List Addr,(∀ a∈as,∃ o xs n k t,h.get? a=some o/\o.cls=.type "tuple"/\o.data=.seq xs n/\xs[0]?=some (Value.int k t))->∃ fs,KatTups h (as.map Value.ref) fs/\fs.length=as.length/\∀ v∈fs,∃ k t,v=Value.int k t
 | [],_=>⟨[],.nil,rfl,fun v hv=>nomatch hv⟩
 | a::as,ha=>by
  obtain ⟨fs,t,hl,hf⟩:=Z0 as fun b hb=>ha b (iT _ hb);obtain ⟨o,xs,n,k,tk,e,hc,hd,hx⟩:=ha a A0g;exact ⟨.int k tk::fs,.cons e hc hd hx t,by rw [oX,hl,oX],fun v hv=>by
   rcases A0d.mp hv with rfl | hv
   ·exact ⟨k,tk,rfl⟩
   ·exact hf v hv⟩
theorem Xl {p:Array Nat} (h:Pm n p) {all:List Addr} (hn:all.length=n):(p.toList.map fun i=>all.getD i 0).Perm all:=by
 have h1:p.toList.Perm (List.range n):=by have:=A2L.mp h;simpa using this
 have h2:=h1.map fun i=>all.getD i 0;have e:(List.range n).map (fun i=>all.getD i 0)=all:=by
  apply A5g
  ·simp [hn]
  ·intro i a b;simp only [A3v,A4Q];rw [qQ,ju b];rfl
 rw [e] at h2;exact h2
theorem Ia {p:Array Nat} (h:Pm n p) {m:Nat} (hm:m<p.toList.length):p.toList[m]=pat p m/\pat p m<n:=by
 have hs:m<p.size:=by rw [<- A0L];exact hm
 refine ⟨?_,h.lt (by rw [<- h.size];exact hs)⟩;unfold pat;rw [Array.getD,A5k hs];simp
section
variable {k:Nat}
theorem Ub {ta:TA}{p kp kpos:Pos}{x:Str} (hg:Gl X "sorted") (hm:X.mg "sorted"=none) (ha:PA X [e] ta) (hgx:Gl X x) (hmx:X.mg x=some 0x4E) (F:aJ X.prog X.w X.K X.mg X.base bM k f fd ["row"] tX) (hr:cM (k+2) X.A) (hb:Binds X.K fd ["row"] [])
  (hdb:0x30=false:=by decide) (hs:starEach [e] X.env=[0x3E]:=by rfl) :
  PE X (.Call (.Name "sorted" p) [e] [⟨some (Str.ofString "key"),.Name x kp,kpos⟩] pos) (fun σ H Q=>ta σ H fun vs H1=>∃ l,vs=[.ref l]/\Ed X.K l H1 Q):=by
 intro pins s σ H Q I h;refine A1V (oY I hg hm fV (zY (cH 0x6C fun us s1 ⟨vs,H1,I1,r1,q1⟩=>cH (VG (cR hgx hmx rfl hdb (v:=.ref f)) Zx pos pins s1 σ H1 (fun zs H2=>zs=[.ref f]/\∃ l,vs=[.ref l]/\Ed X.K l H2 Q) I1 ⟨rfl,q1⟩) fun ws s2 ⟨zs,H2,I2,r2,q2⟩=>?_) (by rw [hs];rfl) (by rw [hs];rfl) (by rfl) (by rfl)));obtain ⟨rfl,l,rfl,all,dat,hq,h64,RO,q⟩:=q2;obtain ⟨u,rfl,ru⟩:=vals1 r1;cases ru;obtain ⟨w,rfl,cO⟩:=vals1 r2;cases cO;obtain ⟨its,rv,pl,hz⟩:=I2.list hq;have a0Y:=zV rv;subst a0Y
 show wpAny _ _ (call (.builtin "sorted") [.ref l] [(Str.ofString "key",.ref f)]) _ _ s2
 refine call_function_entry_kw kind_sorted plain_sorted entry_sorted (ksk_s1 _ _) ?_;unfold Builtin.«sorted»;refine A0a (m:=checkCount "sorted" 1 1 _) 0x13;refine A0a (collect_list pl.isList ?_ (by rw [bV,A1e];lia));refine A0a (A5d ?_ (by rw [bV,A1e];lia));have hsz:((s2.heap.push (seqObj "list" #[] 0)).update s2.heap.objs.size (Obj.mapSeq (·++(0x27).toArray))).objs.size=s2.heap.objs.size+1:=by
  rw [Heap.size_update,size_push']
 have hoL:(((s2.heap.push (seqObj "list" #[] 0)).update s2.heap.objs.size (Obj.mapSeq (·++(0x27).toArray))).push (seqObj "list" (0x27).toArray 0)).get? (s2.heap.objs.size+1)=some (seqObj "list" (0x27).toArray 0):=by
  rw [<- hsz];exact A0n _ rfl
 have keep:∀ b o,s2.heap.get? b=some o->(((s2.heap.push (seqObj "list" #[] 0)).update s2.heap.objs.size (Obj.mapSeq (·++(0x27).toArray))).push (seqObj "list" (0x27).toArray 0)).get? b=some o:=fun b o q=>by
  have hlt:b<s2.heap.objs.size:=A0t q;rw [Heap.get?_push_ne _ _ _ (by rw [hsz];exact A0I (A2q hlt)),A1p _ _ _ _ (A0I hlt),Heap.get?_push_ne _ _ _ (A0I hlt)];exact q
 show wpAny _ _ _ _ _ { s2 with heap:=((s2.heap.push (seqObj "list" #[] 0)).update s2.heap.objs.size (Obj.mapSeq (·++(0x27).toArray))).push (seqObj "list" (0x27).toArray 0) }
 rw [hsz];have I3:=I2.kept (t':=s2.toks) keep;have fa:j8 X pins H2 (s2.heap.objs.size+1):=I2.ur (A2d _) (I2.hok.fresh (A2d _));have hD:H2 (s2.heap.objs.size+1)=none:=I2.hok.fresh (A2d _);refine A0a (A1T (wpAny_call_entry_kw slot_list_sort ⟨_,hoL,rfl⟩ entry_list_sort ?body (ksk_l1 _ _)))
 case body =>
  show wpAny 0x9 X.A.in1.in1 (Builtin.«list.sort» ⟨[.ref (s2.heap.objs.size+1)],[(Str.ofString "key",.ref f)]⟩) _ _ _
  rw [ksk_t1];have gD:∀ i (hi:i<all.length),all.getD i 0=all[i]:=fun i hi=>by rw [qQ,ju hi];rfl
  refine Hr (kd:=a0W dat) (lt:=fun i j=>eV (dat (all.getD i 0)) (dat (all.getD j 0))) (κ:=tuples' true) F hr hb I3 fa hoL h64 ⟨fun i j k hi hj hk a b=>?_,fun i j hi hj hij c=>?_⟩ (fun p hp H' sm Q' kq=>?_) (fun h2 ks H' s' Q' hok sm KA hQ=>?_) (fun ks H' s' i j C I' sm KA hi hj hij hC=>?_) fun p s' H' e hP hU I' fa' sm hS=>?_
  ·rw [gD i hi,gD j hj] at a;rw [gD j hj,gD k hk] at b;rw [gD i hi,gD k hk];exact kO (RO.1 _ (A0P hi)).2 (RO.1 _ (A0P hj)).2 (RO.1 _ (A0P hk)).2 a b
  ·rw [gD i hi,gD j hj] at c;rw [gD i hi,gD j hj];exact sO (RO.1 _ (A0P hi)).2 (RO.1 _ (A0P hj)).2 (rN RO hi hj hij) c
  ·obtain ⟨hp1,kk,d,rest,ll,R⟩:=RO.1 p hp;refine ⟨p,dat p,kk,d,rest,ll,rfl,sm _ _ hp1,R,fun q' Ot s'' hq'=>kq q' Ot s'' ?_⟩;rw [hq'];unfold a0W;rw [R.e];rfl
  ·obtain ⟨fs,t,hlf,hf⟩:=Z0 (h:=s'.heap) ks fun b hb'=>by
    obtain ⟨m,hm⟩:=List.mem_iff_getElem?.mp hb';have hml:m<all.length:=by rw [<- KA.1];exact (A0l.mp hm).1
    obtain ⟨_,it1,r1,⟨o1,ho1,hc1,n1,hd1⟩⟩:=hok _ _ (KA.2 m b all[m] hm (ju hml));cases r1 with
    | cons a1 b1 =>
     obtain ⟨t1,rfl⟩:=a1;exact ⟨o1,_,n1,_,t1,ho1,hc1,hd1,rfl⟩
   have hz':0<fs.length:=by
    rw [hlf,KA.1];lia
   refine kat_kind (T:=Value.type "int") t hz' (fun w hw=>?_) (by rfl) ?_
   ·obtain ⟨k',tk',rfl⟩:=hf w hw;exact fun A Q E s _ q=>wpAny_pure q
   ·exact hQ
  ·rw [gD i hi,gD j hj] at hC;exact a0X hr.units I' (fun a ha'=>⟨sm _ _ (RO.1 a ha').1,(RO.1 a ha').2⟩) KA hi hj (rN RO hi hj hij) hC
  ·have lp:p.toList.length=all.length:=by rw [A0L];exact hP.size
   have hout:(p.toList.map fun i=>(all.map Value.ref).getD i Value.none)=(p.toList.map fun i=>all.getD i 0).map Value.ref:=by
    rw [A0S];refine A1K fun i hi=>?_;obtain ⟨m,hm,rfl⟩:=A1X.mp hi;obtain ⟨g1,g2⟩:=Ia hP hm;rw [g1]
    show (0x27).getD (pat p m) Value.none=Value.ref (all.getD (pat p m) 0)
    rw [rK all _ g2,gD _ g2]
   rw [hout] at hS;refine ⟨_,rfl,wpAny_pure ⟨_,rfl,.ref (s2.heap.objs.size+1),_,I'.track (o:=.lst ((p.toList.map fun i=>all.getD i 0).map V.ref)) fa' ⟨by rw [bV,bV,lp,A1e];lia,_,e,L2.yj _,hS⟩,rfl,?_⟩⟩;refine q _ (p.toList.map fun i=>all.getD i 0) _ (fun b o hb'=>?_) hD ao (Xl hP rfl) ?_
   ·rw [ak (au (sm _ _ hb') fa'.1)];exact sm _ _ hb'
   ·unfold Fe;rw [A1i];intro i j hi hj hij;rw [bV] at hi hj;simp only [A3v];obtain ⟨g1,g2⟩:=Ia hP hi;obtain ⟨g3,g4⟩:=Ia hP hj;rw [g1,g3];exact hU i j hij 0x2
end
theorem Uc:aO ["rows"] ["rows"] (aH zW):=0x0
theorem O2 (F:fK K "judged_order" "judged_order" zW f fd) (ms:mg "sorted"=none)  (G1:aJ P w K mg base bM 1 g1 d1 ["row"] tX) (M1:Ms K mg "place_in_order" g1 d1 ["row"]):aJ P w K mg base bM 4 f fd ["rows"] (vG K):=by
 refine F.ok Uc 0x1 0x3;obtain ⟨l,rfl,h⟩:=h;refine ⟨_,aG (aV (Ub rfl ms 0x82 rfl M1.m G1 hr M1.b)),?_⟩;exact ⟨_,rfl,l,rfl,h⟩
end M
namespace L2
open PySem PySem.Spec PyProof.Rows PySem.W
def idxV (n:Nat) (lo hi st:Option Int):List Nat:=sliceRange (sliceBounds lo hi st n).1 (sliceBounds lo hi st n).2.1 (sliceBounds lo hi st n).2.2
def nZ (xs:List V) (lo hi st:Option Int):List V:=(idxV xs.length lo hi st).filterMap (xs[·]?)
theorem rO (r:Vals xs us):∀ ix:List Nat,Vals (ix.filterMap (xs[·]?)) (ix.filterMap (us[·]?))
 | []=>.nil
 | i::ix=>by
  rw [A1P,A1P];cases e:xs[i]? with
  | none=>rw [r.none_of e];exact rO r ix
  | some x =>
   obtain ⟨u,eu,ru⟩:=r.get e;rw [eu];exact .cons ru (rO r ix)
inductive rSl3 (K:W.Frag) (x:V) (lo hi st:Option Int) (H:Hp) (Q:VK):Prop
 | mk (a:Addr) (xs:List V) (_:x=.ref a) (_:bO K H a xs) (_:st≠some 0) (_:(nZ xs lo hi st).length<=1000) (_:∀ p,H p=none->Q 0x48 (upd H p (.lst (nZ xs lo hi st)))):rSl3 K x lo hi st H Q
def tSl3 (K:PySem.W.Frag) (te:TE) (tl th ts:TO):TE:=fun σ H Q=>te σ H fun x H1=>tl σ H1 fun l H2=>th σ H2 fun u H3=>ts σ H3 fun o H4=>rSl3 K x l u o H4 Q
theorem oK {lo hi:Option Expr}{st:Expr}{tl th ts:TO}{p2:Pos} (he:PE X e te) (hl:PO X lo tl) (hu:PO X hi th) (ht:PO X (some st) ts):PE X (.Subscript e (.Slice lo hi (some st) p2) pos) (tSl3 X.K te tl th ts):=by
 intro pins s σ H Q I h;refine Subscript_ (cH 0x5F fun v s1 zq=>?_);obtain ⟨x,H1,I1,r1,q1⟩:=zq;refine wpAny_Slice (cH (hl pins s1 σ H1 _ I1 q1) fun vl s2 ⟨l,H2,I2,pl,q2⟩=>cH (hu pins s2 σ H2 _ I2 q2) fun vu s3 ⟨u,H3,I3,pu,q3⟩=>cH (ht pins s3 σ H3 _ I3 q3) fun vs s4 zq=>?_);obtain ⟨o,H4,I4,po,q4⟩:=zq;obtain ⟨a,xs,rfl,hx,h0,hz,q⟩:=q4;cases r1;have I5:Inv X pins σ H4 { s4 with heap:=s4.heap.push { cls:=.type "slice",data:=.fields #[vl,vu,vs] } }:=I4.kept (t':=s4.toks) fun b ob q=>A0b _ q;obtain ⟨its,r,pl',hz'⟩:=I5.list hx;have hlen:=r.length
 show wpAny 0x9 X.A (subscriptTail e (.Slice lo hi (some st) p2) 0x3C (.ref s4.heap.objs.size)) 0x37 X.xe { s4 with heap:=s4.heap.push { cls:=.type "slice",data:=.fields #[vl,vu,vs] } }
 refine tail_any (ops:=[.ref a,.ref s4.heap.objs.size]) pl'.isList.typeIs A4V.lookup ?_ 0x11;refine wpAny_getItem_list_slice pl'.isList (Heap.IsSliceOf.new ..) pl pu po h0 ?_ (by rw [A0s] <;> lia);have e:slicePick its.toArray l u o=(((idxV xs.length l u o).filterMap (its[·]?))).toArray:=by
  unfold slicePick idxV;rw [A0s,<- hlen];simp
 rw [e];refine ⟨.ref _,_,I5.laid (t':=s4.toks) (o:=.lst (nZ xs l u o)) (fun b ob q=>A0b _ q) 0x2D ?_,rfl,q _ (I5.hok.fresh 0x2D)⟩;exact ⟨A0O hz (by rw [A1e];decide),_,0,rO r _,A0n _ rfl⟩
inductive KR (K:W.Frag) (x y:V) (H:Hp) (Q:VK):Prop
 | mk (p l:Addr) (as:List Addr) (r:List V) (rows:List (List V)) (_:x=.ref p) (_:y=.ref l) (_:bO K H l (as.map V.ref)) (_:H p=some (.tup r)) (_:r.all ig=true) (_:iM H as rows) (_:(∀ q∈rows,q.all ig=true)) (_:Q (.bl (!rows.any fun q=>decide (q=r))) H):KR K x y H Q
theorem O4 (hu:X.A.units+64<cLine):nA X (compareOp .NotIn) (KR X.K):=by
 intro pins s σ H x y v u Q I rx ry h;obtain ⟨p,l,as,r,rows,rfl,rfl,hq,hp,hr,hR,hrs,q⟩:=h;cases rx;cases ry;obtain ⟨its,rv,pl,hz⟩:=I.list hq;have a0Y:=zV rv;subst a0Y;have read:∀ (a:Addr) (z:List V),H a=some (.tup z)->z.all ig=true->∃ bs,Reads s.heap 0x3C (.tuple (z.map gG)) bs:=fun a z ha hz=>cN.reads I (.tup ha (jQ z hz)) rfl;refine SeqAt.notIn_listAt (fun u=>match u with | .ref a=>(match H a with | some (.tup q)=>decide (q=r) | _=>false) | _=>false) pl.isList (fun w hw=>?_) ⟨.bl _,H,I,rfl,?_⟩
 ·have hw':w∈as.map Value.ref:=by simpa using hw
  obtain ⟨a,ha,rfl⟩:=A0j.mp hw';obtain ⟨z,hz1,hz2⟩:=vB hR a ha;obtain ⟨bs,rb⟩:=read a z hz2 (hrs z hz1);obtain ⟨cs,rc⟩:=read p r hp hr;have g:=A5h (.tuple (z.map gG)) (.tuple (r.map gG)) X.A.in1 s _ _ bs cs rb rc (jq z (hrs z hz1)) (jq r hr) (by
   have h1:=nY z;have h2:PyData.depth (.tuple (z.map gG))<=3:=by show PyData.depthAll (z.map gG)+1<=3;lia
   have h3:X.A.in1.units<=X.A.units+32:=by show X.A.units+1<=X.A.units+32;lia
   lia)
  have e:PyData.eqv (.tuple (z.map gG)) (.tuple (r.map gG))=decide (z=r):=kJ z r (hrs z hz1) hr;rw [e] at g
  show SeqAt.EqAt _ _ _ _ (match H a with | some (.tup q)=>decide (q=r) | _=>false)
  rw [hz2];exact g
 ·have e:=any_rows (r:=r) hR;have e2:((as.map Value.ref).toArray.any fun u=>match u with | .ref a=>(match H a with | some (.tup q)=>decide (q=r) | _=>false) | _=>false)=rows.any fun q=>decide (q=r):=by
   (rw [<- e,List.any_toArray]) <;> rfl
  rw [e2];exact q
end L2
namespace M
open PySem PySem.Spec PyProof.Rows PySem.W PySem.Calls L2
theorem Ud {k k':Str}{d d':Int}{rest rest':List V}:eV (.str k::.int d::rest) (.str k'::.int d'::rest')=if d≠d' then decide (d<d') else if cY k≠cY k' then decide (cY k<cY k') else mY (.str k::.int d::rest) (.str k'::.int d'::rest'):=rfl
inductive Aa (vs:List V) (H:Hp) (Q:VK) (cD:XK):Prop
 | mk (p q:Addr) (r s:List V) (_:vs=[.ref p,.ref q]) (_:H p=some (.tup r)) (_:H q=some (.tup s)) (_:gA r) (_:gA s) (_:r≠s) (_:∀ H',Same H H'->Q (.bl (eV r s)) H'):Aa vs H Q cD
theorem KY:aO ["_law_one", "_law_other", "_law_kinds_here"] A5Z (aH HJ):=0x0
theorem Ue (F:fK K "_law_ahead" "_law_ahead" HJ f fd)  (G1:aJ P w K mg base bM 1 g1 d1 [] KQ) (M1:Ms K mg "_law_kinds" g1 d1 []):aJ P w K mg base bM 2 f fd A5Z Aa:=by
 refine F.ok KY 0x1 0x3;obtain ⟨p,q,r,s',rfl,hp,hq,hr',hs',hne,kk⟩:=h;have hir:=hr';have his:=hs';obtain ⟨k,d,rest,l,R⟩:=hr';obtain ⟨k',d',rest',l',S⟩:=hs';have e1:=R.e;have e2:=S.e;subst e1 e2;refine ⟨_,aq (bN (aQ nF (aP bI 0x32 aA 0x4) 0x19 0x61)
   (aG (aV (je ux (aP bI 0x32 aA 0x4) 0x19 0x61))) aU)
  (aq (aR (i:=2) KY.nd rfl 0x7 (PB G1 hr rfl M1.m M1.k M1.b .nil aX))
  (aq (bN (aQ nF (aP bI 0x32 aA 0x4) 0x19 0x61)
   (aG (aV (je ux (iz A0z A3d A3S rM 0x2B (aj (aP bI 0x32 aA 0x4) aC)) (iz A0z A3d A3S rM 0x2B (aj 0x19 aC)) 0x61))) aU)
  (aG (aV (je (a0V hr.units) 0x32 0xF 0x61))))),?_⟩
 have Vt:=fun H' s=>by have g:=kk H' s;rw [Ud] at g;exact g
 refine ⟨_,rfl,p,_,_,_,rfl,rfl,cj.of hp,aL (j:=1) rfl,_,rfl,q,_,_,_,rfl,rfl,cj.of hq,aL (j:=1) rfl,rfl,_,rfl,?_⟩
 by_cases a:d=d'
 ·subst a;rw [A0k rfl];refine cu ?_;refine ⟨rfl,fun z hz=>?_⟩;have ek:U6=cL.map V.str:=rfl;rw [ek]
  apply 0o1 H z hz s1 z1 H1
  have hp1:=s1 _ _ hp;have hq1:=s1 _ _ hq;refine ⟨_,rfl,p,_,_,_,rfl,rfl,cj.of hp1,aL (j:=0) rfl,_,rfl,q,_,_,_,rfl,rfl,cj.of hq1,aL (j:=0) rfl,rfl,_,rfl,?_⟩;have g:=Vt H1 s1;rw [A0e (show ¬ (d≠d) from fun z=>z rfl)] at g
  by_cases c:k=k'
  ·subst c;rw [A0k rfl];refine cu ?_;rw [A0e (show ¬ (cY k≠cY k) from fun z=>z rfl)] at g
   exact ⟨_,rfl,_,rfl,p,q,_,_,rfl,rfl,hp1,hq1,R.flat,S.flat,hir.same his rfl,hne,g⟩
  ·rw [A0p (fun z=>c (by injection z))];refine dU ?_;have ci:cY k≠cY k':=fun z=>c (Eb (mQ R.f) (mQ S.f) z);rw [A0i ci] at g;obtain ⟨i1,i2,i3⟩:=zZ (mQ R.f);obtain ⟨j1,j2,j3⟩:=zZ (mQ S.f);refine ⟨_,rfl,.inl ⟨rfl,_,bO.of z1⟩,_,rfl,p,_,_,_,rfl,rfl,cj.of hp1,aL (j:=0) rfl,z,cL,k,cY k,rfl,rfl,bO.of z1,i1,i2,by lia,?_⟩;refine ⟨_,rfl,.inl ⟨rfl,_,bO.of z1⟩,_,rfl,q,_,_,_,rfl,rfl,cj.of hq1,aL (j:=0) rfl,z,cL,k',cY k',rfl,rfl,bO.of z1,j1,j2,by lia,?_⟩;refine ⟨_,_,rfl,rfl,?_⟩;have e:decide (((cY k:Nat):Int)<((cY k':Nat):Int))=decide (cY k<cY k'):=by rw [A1n];simp
   dsimp only;rw [e];exact g
 ·rw [A0p (fun z=>a (by injection z))];refine dU ?_;refine ⟨_,rfl,p,_,_,_,rfl,rfl,cj.of hp,aL (j:=1) rfl,_,rfl,q,_,_,_,rfl,rfl,cj.of hq,aL (j:=1) rfl,_,_,rfl,rfl,?_⟩;have g:=Vt H 0x5C;rw [A0i a] at g;exact g
inductive vH (K:W.Frag) (vs:List V) (H:Hp) (Q:VK) (cD:XK):Prop
 | mk (l:Addr) (_:vs=[.ref l]) (_:Ed K l H Q):vH K vs H Q cD
theorem Ib {out:List Addr} (h:Fe dat out) (hrow:∀ a∈p::out,gA (dat a)) (hne:∀ a∈out,dat a≠dat p) (hj:j<=out.length) (hlo:∀ m (hm:m<out.length),m<j->eV (dat out[m]) (dat p)=true)
  (hhi:∀ (hj':j<out.length),eV (dat out[j]) (dat p)=false):Fe dat (out.take j++p::out.drop j):=by
 unfold Fe at h ⊢;rw [A2S];have hp:gA (dat p):=hrow p A0g;have cO:∀ a∈out,gA (dat a):=fun a ha=>hrow a (iT _ ha);have lo:∀ a∈out.take j,eV (dat a) (dat p)=true:=fun a ha=>by
  obtain ⟨m,hm,rfl⟩:=A1X.mp ha;rw [A0G] at hm;rw [A5a];exact hlo m 0x2 0x2
 have hi:∀ b∈out.drop j,eV (dat p) (dat b)=true:=fun b hb=>by
  obtain ⟨m,hm,rfl⟩:=A1X.mp hb;rw [A1H] at hm;rw [List.getElem_drop];have hj':j<out.length:=by lia
  have first:=sO (cO _ (A0P hj')) hp (hne _ (A0P hj')) (hhi hj')
  by_cases hm0:m=0
  ·subst hm0;exact first
  ·have pw:=A1i.mp h j (j+m) hj' 0x2 0x2;exact kO hp (cO _ (A0P hj')) (cO _ (A0P _)) first pw
 refine ⟨h.sublist (List.take_sublist _ _),List.pairwise_cons.mpr ⟨hi,h.sublist (List.drop_sublist _ _)⟩,fun a ha b hb=>?_⟩;rcases A0d.mp hb with rfl | hb
 ·exact lo a ha
 ·exact kO (cO a (A2o ha)) hp (cO b (A3r hb)) (lo a ha) (hi b hb)
theorem o8:aO ["_law_rows_here", "_law_found", "_law_row_here", "_law_at"] ["_law_rows_here"] (aH zX):=0x0
theorem O5 (F:fK K "_law_sorted" "_law_sorted" zX f fd) (mn:mg "len"=none)  (G1:aJ P w K mg base bM 2 g1 d1 A5Z Aa) (M1:Ms K mg "_law_ahead" g1 d1 A5Z):aJ P w K mg base bM 3 f fd ["_law_rows_here"] (vH K):=by
 refine F.ok o8 0x1 0x3;obtain ⟨l,rfl,all,dat,hq,h64,RO,q⟩:=h;refine ⟨_,aq (aR (i:=1) o8.nd rfl 0x7 (dN aC))
  (aq (gJ A0U rfl (eY 0x32) (bC (i:=2) o8.nd rfl 0x7)
   (aq (aR (i:=3) o8.nd rfl 0x7 aA)
   (aq (lG A0U (PW.pt (ni (aQ ux 0x5D (bG cT rfl mn A1v 0x38) 0x61) (jY (dY (bF G1 hr rfl M1.m M1.k M1.b .nil aX (aj (aP bD 0xF 0x5D 0x4) 0x33))))))
    (aG (aR (i:=3) o8.nd rfl 0x7 (aY cZ 0x5D aA))))
   (aG (bL (iz A0z PySem.F.slot_list_insert PySem.F.type_list_insert NT 0xF (aj 0x5D 0x33)))))))
  (aG (aV 0xF))),?_⟩
 refine ⟨small 0xA,fun D hD=>?_⟩;have s1:=aM hD 0x75;refine ⟨_,rfl,l,rfl,⟨_,s1.seq hq⟩,?_⟩;refine gq (K:=K) (a:=l) (xs:=all.map V.ref) (fun i σ Hx=>∃ (u2 u3:Option V) (out:List Addr),σ=[some (.ref l),some 0x60,u2,u3]/\Same H Hx/\Hx D=some (.lst 0x58)/\out.Perm (all.take i)/\Fe dat out) ⟨none,none,[],rfl,s1,ao,by simp,List.Pairwise.nil⟩
  (fun i σ Hx _ h=>by obtain ⟨_,_,_,_,sx,_⟩:=h;exact sx.seq hq) ?_ ?_
 ·rintro i v σ Hx hv ⟨u2,u3,out,rfl,sx,dx,hp,hu⟩;rw [jW] at hv;obtain ⟨p,hpi,rfl⟩:=A0v.mp hv;have hil:i<all.length:=(A0l.mp hpi).1;have epi:all[i]=p:=(A0l.mp hpi).2;have mem:∀ a∈out,a∈all:=fun a ha=>A2o (hp.mem_iff.mp ha);have a0Z:p∈all:=vY hpi;have lo:out.length<=64:=by rw [hp.length_eq,A0G];lia
  have ne:∀ a∈out,dat a≠dat p:=fun a ha=>by
   obtain ⟨m,hm,rfl⟩:=A1X.mp (hp.mem_iff.mp ha);rw [A0G] at hm;rw [A5a,<- epi];exact rN RO 0x2 hil 0x2
  refine ⟨fun m σ Hy=>∃ j:Nat,m=out.length - j/\j<=out.length/\σ=[some (.ref l),some 0x60,some 0x48,some (.int ((j:Nat):Int))]/\Same H Hy/\Hy D=some (.lst 0x58)/\∀ m (hm:m<out.length),m<j->eV (dat out[m]) (dat p)=true,⟨_,0,rfl,A0X _,rfl,sx,dx,fun m _ h=>absurd h (A5l _)⟩,?_⟩;rintro m σ Hy ⟨j,rfl,hj,rfl,sy,dy,hlo⟩;have fin:∀ Hz,Same H Hz->Hz D=some (.lst 0x58)->(∀ (hj':j<out.length),eV (dat out[j]) (dat p)=false)->∃ (u2 u3:Option V) (out':List Addr),[some (V.ref l),some 0x60,some 0x48,some (.int ((j:Nat):Int))]=[some (V.ref l),some 0x60,u2,u3]/\Same H (upd Hz D (.lst ((0x58).take j++V.ref p::(0x58).drop j)))/\(upd Hz D (.lst ((0x58).take j++V.ref p::(0x58).drop j))) D=some (.lst (out'.map V.ref))/\out'.Perm (all.take (i+1))/\Fe dat out':=fun Hz sz dz hhi=>by
   refine ⟨_,_,out.take j++p::out.drop j,rfl,bK sz hD,by rw [ao];simp,?_,Ib hu (fun a ha=>?_) ne hj hlo hhi⟩
   ·rw [A1f,hpi];have h1:(out.take j++p::out.drop j).Perm (p::(out.take j++out.drop j)):=List.perm_middle;rw [A4b] at h1;refine h1.trans ?_;have h2:(all.take i++[p]).Perm (p::all.take i):=by
     have:=List.perm_middle (a:=p) (l₁:=all.take i) (l₂:=[])
     simpa using this
    exact ((List.perm_cons p).mpr hp).trans h2.symm
   ·rcases A0d.mp ha with rfl | ha
    ·exact (RO.1 _ a0Z).2
    ·exact (RO.1 _ (mem a ha)).2
  refine ⟨_,rfl,_,rfl,D,_,rfl,.inl (bO.of dy),_,_,rfl,rfl,_,rfl,?_⟩;rw [bV]
  by_cases hjl:j<out.length
  ·rw [A0k (show ((j:Nat):Int)<((out.length:Nat):Int) by lia)]
   refine dU ?_;have hm:=mem _ (A0P hjl);refine ⟨_,rfl,_,rfl,D,_,_,V.ref out[j],rfl,rfl,bO.of dy,aL (by rw [jW,ju hjl];rfl),_,rfl,out[j],p,dat out[j],dat p,rfl,sy _ _ (RO.1 _ hm).1,sy _ _ (RO.1 _ a0Z).1,(RO.1 _ hm).2,(RO.1 _ a0Z).2,ne _ (A0P hjl),fun Hz sz=>⟨_,rfl,?_⟩⟩;have tz:=sy.trans sz;have dz:=sz _ _ dy;cases el:eV (dat out[j]) (dat p) with
   | true =>
    refine ⟨fun σ' H'=>∃ j':Nat,out.length - j'<out.length - j/\j'<=out.length/\σ'=[some (.ref l),some 0x60,some 0x48,some (.int ((j':Nat):Int))]/\Same H H'/\H' D=some (.lst 0x58)/\∀ m (hm:m<out.length),m<j'->eV (dat out[m]) (dat p)=true,fun σ' H' ⟨j',a1,a2,a3,a4,a5,a6⟩=>⟨_,a1,j',rfl,a2,a3,a4,a5,a6⟩,?_⟩;refine ⟨_,rfl,_,_,rfl,rfl,j+1,by lia,by lia,?_,tz,dz,fun m hm hmj=>?_⟩
    ·rfl
    ·by_cases e:m=j
     ·subst e;exact el
     ·exact hlo m hm 0x2
   | false =>
    refine ⟨_,rfl,.inl ⟨rfl,_,bO.of dz⟩,_,rfl,_,rfl,D,_,j,_,rfl,rfl,dz,by rw [bV];exact hj,by rw [bV];lia,?_⟩;exact fin Hz tz dz fun _=>el
  ·rw [A0p (show ¬ ((j:Nat):Int)<((out.length:Nat):Int) by lia)]
   refine cu ?_;refine ⟨_,rfl,.inl ⟨rfl,_,bO.of dy⟩,_,rfl,_,rfl,D,_,j,_,rfl,rfl,dy,by rw [bV];exact hj,by rw [bV];lia,?_⟩;exact fin Hy sy dy fun h=>absurd h hjl
 ·rintro σ Hx ⟨u2,u3,out,rfl,sx,dx,hp,hu⟩;rw [bV,A1d] at hp;exact ⟨_,rfl,q D out Hx sx hD dx hp hu⟩
theorem vI {α:Type}:∀ (bs pre:List α),(List.range' pre.length bs.length).filterMap (fun i=>(pre++bs)[i]?)=bs
 | [],pre=>rfl
 | x::bs,pre=>by
  rw [oX,List.range'_succ,A1P];have e:(pre++x::bs)[pre.length]?=some x:=by simp
  rw [e];have ih:=vI bs (pre++[x]);rw [iw,A0r,A2P] at ih;simp only [A1Y,A2e] at ih
  show x::_=x::bs
  rw [ih]
theorem yp {bs:List Addr} (h:ix.Perm (List.range bs.length)):(ix.filterMap (bs[·]?)).Perm bs:=by
 have g:=h.filterMap (bs[·]?);have e:=vI bs [];simp only [A2e,A4p] at e;rw [List.range_eq_range'] at g;rw [e] at g;exact g
theorem lX (bs:List Addr):∀ ix:List Nat,ix.filterMap ((bs.map V.ref)[·]?)=(ix.filterMap (bs[·]?)).map V.ref
 | []=>rfl
 | i::ix=>by
  rw [A1P,A1P,jW];cases bs[i]? with
  | none=>exact lX bs ix
  | some b=>rw [A0h,<- lX bs ix];rfl
theorem a00:∀ n:_root_.Fin 25,(idxV n.val none none (some (-1))).isPerm (List.range n.val)=true:=by decide +kernel
theorem a01:∀ n:_root_.Fin 25,(idxV n.val (some 1) none (some 2)++idxV n.val none none (some 2)).isPerm (List.range n.val)=true:=by decide +kernel
theorem Ug {bs:List Addr} (h:bs.length<=24):∃ cs:List Addr,nZ (bs.map V.ref) none none (some (-1))=cs.map V.ref/\cs.Perm bs:=by
 unfold nZ;rw [bV,lX];exact ⟨_,rfl,yp (List.isPerm_iff.mp (a00 ⟨bs.length,by lia⟩))⟩
theorem Uh {bs:List Addr} (h:bs.length<=24):∃ cs ds:List Addr,nZ (bs.map V.ref) (some 1) none (some 2)=cs.map V.ref/\nZ (bs.map V.ref) none none (some 2)=ds.map V.ref/\(cs++ds).Perm bs:=by
 unfold nZ;rw [bV,lX,lX];refine ⟨_,_,rfl,rfl,?_⟩;rw [<- List.filterMap_append];exact yp (List.isPerm_iff.mp (a01 ⟨bs.length,by lia⟩))
inductive Ac (K:W.Frag) (vs:List V) (H:Hp) (Q:VK) (cD:XK):Prop
 | mk (l:Addr) (n:Int) (all:List Addr) (_:vs=[.ref l,.int n]) (_:vZ n) (_:bO K H l 0x2E) (_:all.length<=24) (_:∀ (D:Addr) (out:List Addr) (H':Hp),Same H H'->H' D=some (.lst 0x58)->out.Perm all->Q 0x60 H'):Ac K vs H Q cD
theorem Ui {all:List Addr} (h:j<=all.length):gK 0x2E (some ((j:Nat):Int)) none=(all.drop j).map V.ref:=by
 unfold gK;have e2:HT.eN (0x2E).length (0x2E).length none=(0x2E).length:=rfl;rw [e2,HT.jZ,bV,A2t h,A3f (by rw [A1H,bV];exact A0f _),List.map_drop]
theorem a02 {all:List Addr} (h:j<=all.length):gK 0x2E none (some ((j:Nat):Int))=(all.take j).map V.ref:=by
 unfold gK;have e1:HT.eN (0x2E).length 0 none=0:=rfl;rw [e1,HT.jZ,A4L,Nat.sub_zero,bV,A2t h,List.map_take]
theorem qG:aO ["_law_rows_here", "_law_number", "_law_at", "_law_turned"] A6c (aH HN):=0x0
theorem Uj (F:fK K "_law_mixed" "_law_mixed" HN f fd) (mn:mg "len"=none):aJ P w K mg base bM 1 f fd A6c (Ac K):=by
 refine F.ok qG 0x1 0x3;obtain ⟨l,n,all,rfl,on,hq,h24,q⟩:=h;refine ⟨_,aq (aR (i:=2) qG.nd rfl 0x7 (aY bY 0xF (aY cZ (bG cT rfl mn A1v 0x82) aA)))
  (aq (aR (i:=3) qG.nd rfl 0x7 (aY pA (fj jC 0x32 (cF 0x2B) fY) (fj jC 0x32 fY (cF 0x2B))))
  (aq (bN (aQ dI (aY bY (aY jB 0xF aA) aA) aA 0x61) (aG (aR (i:=3) qG.nd rfl 0x7 (oK 0x5D fY fY (cF (uw pq aA))))) aU)
  (aq (bN (aQ dI (aY bY (aY jB 0xF aA) aA) aA 0x61) (aG (aR (i:=3) qG.nd rfl 0x7 (aY pA (oK 0x5D (cF aA) fY (cF aA)) (oK 0x5D fY fY (cF aA))))) aU)
  (aG (aV 0x5D))))),?_⟩
 have pos:(0:Int)<((0x2E).length:Int)+1:=by lia
 refine ⟨_,rfl,_,rfl,l,_,rfl,.inl hq,_,_,rfl,rfl,_,_,rfl,rfl,pos,?_⟩;have m0:=A0V n (Int.ne_of_gt pos);have m1:=A0N n pos;rw [bV] at m0 m1 ⊢;obtain ⟨j,hj⟩:∃ j:Nat,n % ((all.length:Int)+1)=((j:Nat):Int):=⟨_,(Int.toNat_of_nonneg m0).symm⟩;have hjl:j<=all.length:=by lia
 dsimp only;rw [hj];refine ⟨_,rfl,_,rfl,_,rfl,l,_,rfl,hq,fun p1 hp1=>?_⟩;rw [Ui hjl]
 apply 0o1 H p1 hp1 s1 k1 H1
 refine ⟨_,rfl,_,rfl,_,rfl,l,_,rfl,s1.seq hq,fun p2 hp2=>?_⟩;rw [a02 hjl]
 apply 0o1 H1 p2 hp2 s2 k2 H2
 have k12:=s2 _ _ k1;have t2:=s1.trans s2;refine ⟨p1,p2,_,_,rfl,rfl,k12,k2,small (by simp;lia),fun p3 hp3=>?_⟩;rw [<- jw]
 apply 0o1 H2 p3 hp3 s3 k3 H3
 have t3:=t2.trans s3;have pm:(all.drop j++all.take j).Perm all:=by
  have:=List.perm_append_comm (l₁:=all.drop j) (l₂:=all.take j);rw [A4b] at this;exact this
 have pl:=pm.length_eq;generalize all.drop j++all.take j=bs at k3 pm pl ⊢;have bl:bs.length<=24:=by lia
 refine ⟨_,rfl,_,_,rfl,rfl,⟨by decide,by decide⟩,_,_,rfl,rfl,(by show (0:Int)<3;decide),rfl,_,rfl,?_⟩
 by_cases c1:n / 7 % 3=1
 ·rw [A0k (show V.int (n / 7 % 3)=V.int 1 by rw [c1])]
  refine dU ?_;obtain ⟨cs,e1,pc⟩:=Ug bl;refine ⟨_,rfl,_,rfl,_,rfl,p3,_,rfl,bO.of k3,by decide,by rw [e1,bV,pc.length_eq];lia,fun p4 Xc=>?_⟩;rw [e1];have s4:=aM Xc (.lst (cs.map V.ref));refine ⟨_,rfl,_,_,rfl,rfl,⟨by decide,by decide⟩,_,_,rfl,rfl,(by show (0:Int)<3;decide),rfl,_,rfl,?_⟩
  rw [A0p (show ¬ V.int (n / 7 % 3)=V.int 2 by rw [c1];intro z;injection z with z;exact absurd z 0x5)]
  refine cu ?_;exact ⟨_,rfl,q p4 cs _ (t3.trans s4) ao (pc.trans pm)⟩
 ·rw [A0p (show ¬ V.int (n / 7 % 3)=V.int 1 from fun z=>c1 (by injection z))]
  refine cu ?_;refine ⟨_,rfl,_,_,rfl,rfl,⟨by decide,by decide⟩,_,_,rfl,rfl,(by show (0:Int)<3;decide),rfl,_,rfl,?_⟩
  by_cases c2:n / 7 % 3=2
  ·rw [A0k (show V.int (n / 7 % 3)=V.int 2 by rw [c2])]
   refine dU ?_;obtain ⟨cs,ds,e1,e2,pc⟩:=Uh bl;have ll:=pc.length_eq;rw [iw] at ll;refine ⟨_,rfl,_,rfl,_,rfl,p3,_,rfl,bO.of k3,by decide,by rw [e1,bV];lia,fun p4 Xc=>?_⟩;rw [e1]
   apply 0o1 H3 p4 Xc s4 k4 H4
   have k34:=s4 _ _ k3;have t4:=t3.trans s4;refine ⟨_,rfl,_,rfl,p3,_,rfl,bO.of k34,by decide,by rw [e2,bV];lia,fun p5 Vr=>?_⟩;rw [e2]
   apply 0o1 H4 p5 Vr s5 k5 H5
   have k45:=s5 _ _ k4;have t5:=t4.trans s5;refine ⟨p4,p5,_,_,rfl,rfl,k45,k5,small (by simp;lia),fun p6 hp6=>?_⟩;rw [<- jw];exact ⟨_,rfl,q p6 (cs++ds) _ (t5.trans (aM hp6 _)) ao (pc.trans pm)⟩
  ·rw [A0p (show ¬ V.int (n / 7 % 3)=V.int 2 from fun z=>c2 (by injection z))]
   refine cu ?_;exact ⟨_,rfl,q p3 bs _ t3 k3 pm⟩
abbrev Ae:Stmt:=top 46
structure Bm where
 d:Int
 g:Addr
 rs:List Addr
def qT (gs:List Bm):List 0x2C:=gs.map fun x=>(Sum.inl x.d,V.ref x.g)
def KZ (H:Hp) (gs:List Bm):Prop:=∀ x∈gs,H x.g=some (.lst (x.rs.map V.ref))
structure Ef (dat:Addr->List V) (gs:List Bm) (out:List Addr):Prop where
 cat:(gs.map (·.rs)).flatten=out
 day:∀ x∈gs,∀ a∈x.rs,iu (dat a)=x.d
 up:gs.Pairwise fun x y=>x.d<y.d
 nd:(gs.map (·.g)).Nodup
 ne:∀ x∈gs,x.rs≠[]
theorem O6 {r s:List V} (h:eV r s=true):iu r<=iu s:=by
 unfold eV at h
 by_cases e:iu r=iu s
 ·lia
 ·rw [A0i e] at h;exact Int.le_of_lt (rT h)
theorem Ef.Uk {gs:List Bm}{x:Bm}{o:List Addr} (h:Ef dat (gs++[x]) o) (e:iu (dat p)=x.d):Ef dat (gs++[⟨x.d,x.g,x.rs++[p]⟩]) (o++[p]):=by
 have hc:=h.cat;refine ⟨?_,fun y hy a ha=>?_,?_,?_,fun y hy=>?_⟩
 ·rw [jw,A2Z] at hc ⊢;rw [<- hc];simp
 ·rcases A0x.mp hy with c | c
  ·exact h.day y (A1l _ c) a ha
  ·rw [A0c.mp c] at ha ⊢;rcases A0x.mp ha with c | c
   ·exact h.day x 0xA a c
   ·rw [A0c.mp c];exact e
 ·have:=h.up;rw [A2S] at this ⊢;exact ⟨this.1,A3R ..,fun a ha b hb=>by rw [A0c.mp hb];exact this.2.2 a ha x 0xA⟩
 ·have:=h.nd;rw [jw] at this ⊢;exact this
 ·rcases A0x.mp hy with c | c
  ·exact h.ne y (A1l _ c)
  ·rw [A0c.mp c];simp
theorem Ef.Xm {gs:List Bm}{o:List Addr}{g:Addr}{d:Int} (h:Ef dat gs o) (hd:iu (dat p)=d) (lt:∀ x∈gs,x.d<d) (hg:∀ x∈gs,x.g≠g):Ef dat (gs++[⟨d,g,[p]⟩]) (o++[p]):=by
 refine ⟨?_,fun y hy a ha=>?_,?_,?_,fun y hy=>?_⟩
 ·rw [jw,A2Z,h.cat];simp
 ·rcases A0x.mp hy with c | c
  ·exact h.day y c a ha
  ·rw [A0c.mp c] at ha ⊢;rw [A0c.mp ha];exact hd
 ·rw [A2S];exact ⟨h.up,A3R ..,fun a ha b hb=>by rw [A0c.mp hb];exact lt a ha⟩
 ·rw [jw,A2b];refine ⟨h.nd,by simp,fun a ha b hb=>?_⟩;obtain ⟨x,hx,rfl⟩:=A0j.mp ha;simp at hb;rw [hb];exact hg x hx
 ·rcases A0x.mp hy with c | c
  ·exact h.ne y c
  ·rw [A0c.mp c];simp
theorem Eh:∀ {gs:List Bm}{d:Int},bH (qT gs) (.inl d)=none->∀ x∈gs,x.d≠d
 | [],_,_,x,hx=>nomatch hx
 | y::gs,d,h,x,hx=>by
  by_cases e:y.d=d
  ·unfold qT bH at h;rw [A0h,A1O (by simp [e])] at h;cases h
  ·rcases A0d.mp hx with rfl | c
   ·exact e
   ·refine Eh (gs:=gs) ?_ x c;unfold qT bH at h ⊢;rw [A0h,A1z (by simp;exact e)] at h;exact h
theorem Ei:∀ {gs:List Bm}{d:Int}{v:V},bH (qT gs) (.inl d)=some v->∃ x∈gs,x.d=d/\v=.ref x.g
 | [],_,_,h=>by cases h
 | y::gs,d,v,h=>by
  by_cases e:y.d=d
  ·unfold qT bH at h;rw [A0h,A1O (by simp [e])] at h;injection h with h;exact ⟨y,A0g,e,h.symm⟩
  ·obtain ⟨x,hx,h1,h2⟩:=Ei (gs:=gs) (d:=d) (v:=v) (by
    unfold qT bH at h ⊢;rw [A0h,A1z (by simp;exact e)] at h;exact h)
   exact ⟨x,iT _ hx,h1,h2⟩
theorem Xn {gs:List Bm}{d:Int}{g:Addr}{rs:List Addr} (h:∀ x∈gs,x.d≠d):putK (qT gs) (.inl d) (.ref g)=qT (gs++[⟨d,g,rs⟩]):=by
 have hf:(qT gs).any (fun kv=>decide (kv.1=(Sum.inl d:Key)))=false:=by
  rw [A3T];intro kv hkv;obtain ⟨a,ha,rfl⟩:=A0j.mp hkv;simp only [A2a];exact fun z=>h a ha (by injection z)
 unfold putK;rw [A0e (by rw [hf];exact A0o)];unfold qT;rw [jw];rfl
theorem Xo {gs:List Bm} (up:gs.Pairwise fun x y=>x.d<y.d) {x:Bm} (hx:x∈gs) (le:∀ y∈gs,y.d<=x.d):∃ g0,gs=g0++[x]:=by
 obtain ⟨s,t,rfl⟩:=List.append_of_mem hx;have h2:=(A2S.mp up).2.1;cases t with
 | nil=>exact ⟨s,rfl⟩
 | cons y t =>
  have h3:=(List.pairwise_cons.mp h2).1 y 0xA;have h4:=le y 0xA;lia
inductive vJ (K:W.Frag) (vs:List V) (H:Hp) (Q:VK) (cD:XK):Prop
 | mk (l:Addr) (all:List Addr) (dat:Addr->List V) (_:vs=[.ref l]) (_:bO K H l 0x2E) (_:all.length<64) (_:iQ H all dat) (_:∀ D gs out H',Same H H'->H D=none->H' D=some (.dK (qT gs))->KZ H' gs->Ef dat gs out->out.Perm all->Fe dat out->(∀ x∈gs,H x.g=none)->Q 0x60 H'):vJ K vs H Q cD
theorem vK:aO ["rows", "days", "row"] ["rows"] (aH Ae):=0x0
theorem O7 (F:fK K "by_days" "by_days" Ae f fd)  (G1:aJ P w K mg base bM 4 g1 d1 ["rows"] (vG K)) (M1:Ms K mg "judged_order" g1 d1 ["rows"]):aJ P w K mg base bM 5 f fd ["rows"] (vJ K):=by
 refine F.ok vK 0x1 0x3;obtain ⟨l,all,dat,rfl,hl,h64,RO,q⟩:=h;refine ⟨_,aq (aR (i:=1) vK.nd rfl 0x7 jk)
  (aq (gJ A0U rfl (eY (bF G1 hr rfl M1.m M1.k M1.b .nil aX 0x82)) (bC (i:=2) vK.nd rfl 0x7)
   (aG (bL (iz A0z A0Q A0R cQ (TJ 0xF (aP bI 0x2B aA 0x4) (dN aC) ⟨rfl,rfl,rfl,rfl⟩) 0x33))))
  (aG (aV 0xF))),?_⟩
 intro D hD;have s1:=aM hD (.dK []);refine ⟨_,rfl,l,rfl,all,dat,s1.seq hl,h64,⟨fun a ha=>⟨s1 _ _ (RO.1 a ha).1,(RO.1 a ha).2⟩,RO.2⟩,fun S out H2 s2 hS0 hS hp hu=>⟨S,rfl,⟨_,bO.of hS⟩,?_⟩⟩;have s12:=s1.trans s2;have row:∀ a∈out,H a=some (.tup (dat a))/\gA (dat a):=fun a ha=>RO.1 a (hp.mem_iff.mp ha);have hol:out.length<64:=by rw [hp.length_eq];exact h64
 have hS1:H S=none:=s1.free hS0;refine gq (K:=K) (a:=S) (xs:=out.map V.ref) (fun i σ Hx=>∃ (u:Option V) (gs:List Bm),σ=[some (.ref l),some 0x60,u]/\Same H Hx/\Hx S=some (.lst 0x58)/\Hx D=some (.dK (qT gs))/\KZ Hx gs/\Ef dat gs (out.take i)/\(∀ x∈gs,H x.g=none/\x.g≠S)/\gs.length<=i)
  ⟨none,[],rfl,s12,hS,s2 _ _ ao,(fun x hx=>nomatch hx),⟨rfl,(fun x hx=>nomatch hx),.nil,.nil,(fun x hx=>nomatch hx)⟩,(fun x hx=>nomatch hx),A0X _⟩ (fun i σ Hx _ h=>by obtain ⟨_,_,_,_,h,_⟩:=h;exact bO.of h) ?_ ?_
 ·rintro i v σ Hx hv ⟨u,gs,rfl,sx,Z1,zT,GA,GO,fr,hgl⟩;rw [jW] at hv;obtain ⟨p,hpi,rfl⟩:=A0v.mp hv;have hil:i<out.length:=(A0l.mp hpi).1;have pm:p∈out:=vY hpi;have tk:out.take (i+1)=out.take i++[p]:=by rw [A1f,hpi];rfl
  obtain ⟨hpt,k0,d,rest,lf,RD⟩:=row p pm;have hpx:=sx _ _ hpt;have ed:iu (dat p)=d:=by rw [RD.e];rfl
  have a1:wM (dat p) 1=some (.int d):=aL (j:=1) (by rw [RD.e];rfl);have le:∀ x∈gs,x.d<=d:=fun x hx=>by
   obtain ⟨a,ha⟩:=List.exists_mem_of_ne_nil _ (GO.ne x hx);have hm:a∈out.take i:=by rw [<- GO.cat];exact List.mem_flatten.mpr ⟨_,A0j.mpr ⟨x,hx,rfl⟩,ha⟩
   rw [<- GO.day x hx a ha,<- ed];obtain ⟨j,hj,rfl⟩:=A1X.mp hm;rw [A0G] at hj;rw [A5a];have:=A1i.mp hu j i 0x2 hil 0x2;rw [(A0l.mp hpi).2] at this;exact O6 this
  have nDS:D≠S:=aZ zT Z1 0x6;refine ⟨_,rfl,D,rfl,.inl ⟨_,.inl zT⟩,_,rfl,p,_,_,_,rfl,rfl,cj.of hpx,a1,small 0xA,fun e he=>?_⟩;have nDe:D≠e:=au zT he;have nSe:S≠e:=au Z1 he;have se:=aM he 0x75;refine ⟨qT gs,.inl d,by rw [ak nDe];exact zT,rfl,bR (by rw [show (qT gs).length=gs.length from bV ..];lia),fun v hv=>?_,fun hn=>?_⟩
  ·obtain ⟨x,hx,hxd,rfl⟩:=Ei hv;obtain ⟨g0,rfl⟩:=Xo GO.up hx (fun y hy=>by rw [hxd];exact le y hy);have gx:=se _ _ (GA x hx);have nxD:x.g≠D:=aZ gx (by rw [ak nDe];exact zT) 0x6;have hdn:=GO.nd;rw [jw,A2b] at hdn;have hln:x.rs.length<1000:=by
    have h1:((g0++[x]).map (·.rs)).flatten.length<=i:=by rw [GO.cat,A0G];lia
    rw [jw,A2Z,iw] at h1;simp at h1;lia
   refine ⟨.inl ⟨rfl,_,bO.of gx⟩,_,rfl,x.g,_,_,rfl,rfl,gx,bR (by rw [bV];lia),?_⟩;refine ⟨_,g0++[⟨x.d,x.g,x.rs++[p]⟩],rfl,?_,?_,?_,fun y hy=>?_,by rw [tk];exact GO.Uk (ed.trans hxd.symm),fun y hy=>?_,?_⟩
   ·exact fun c o hc=>by rw [ak (au hc (fr x hx).1)];exact se _ _ (sx _ _ hc)
   ·rw [ak (A0m (fr x hx).2)];exact se _ _ Z1
   ·rw [ak (A0m nxD),ak nDe,zT];unfold qT;rw [jw,jw];rfl
   ·rcases A0x.mp hy with c | c
    ·have nyx:y.g≠x.g:=hdn.2.2 _ (A0j.mpr ⟨y,c,rfl⟩) _ 0xA;rw [ak nyx];exact se _ _ (GA y (A1l _ c))
    ·rw [A0c.mp c,ao,jw];rfl
   ·rcases A0x.mp hy with c | c
    ·exact fr y (A1l _ c)
    ·rw [A0c.mp c];exact fr x hx
   ·rw [iw] at hgl ⊢;simp at hgl ⊢;lia
  ·have hne:=Eh hn;have he0:H e=none:=sx.free he;have neD:e≠D:=A0m nDe;have gx:(upd (upd Hx e 0x75) D (.dK (putK (qT gs) (.inl d) (.ref e)))) e=some 0x75:=by rw [ak neD,ao]
   refine ⟨.inl ⟨rfl,_,bO.of gx⟩,_,rfl,e,_,_,rfl,rfl,gx,bR 0x5,?_⟩;refine ⟨_,gs++[⟨d,e,[p]⟩],rfl,?_,?_,?_,fun y hy=>?_,by rw [tk];exact GO.Xm ed (fun x hx=>by have:=le x hx;have:=hne x hx;lia) (fun x hx=>au (GA x hx) he),fun y hy=>?_,?_⟩
   ·exact fun c o hc=>by rw [ak (au hc he0),ak (au hc hD),ak (au hc he0)];exact sx _ _ hc
   ·rw [ak nSe,ak (A0m nDS),ak nSe];exact Z1
   ·rw [ak nDe,ao,Xn hne]
   ·rcases A0x.mp hy with c | c
    ·have n1:y.g≠e:=au (GA y c) he;have n2:y.g≠D:=aZ (GA y c) zT 0x6;rw [ak n1,ak n2,ak n1];exact GA y c
    ·rw [A0c.mp c,ao];rfl
   ·rcases A0x.mp hy with c | c
    ·exact fr y c
    ·rw [A0c.mp c];exact ⟨he0,A0m nSe⟩
   ·rw [iw];simp;lia
 ·rintro σ Hx ⟨u,gs,rfl,sx,Z1,zT,GA,GO,fr,_⟩;rw [bV,A1d] at GO;exact ⟨_,rfl,q D gs out Hx sx hD zT GA GO hp hu fun x hx=>(fr x hx).1⟩
end M
namespace L2
open PySem PySem.Spec PyProof.Rows
inductive Z2 (Q:VK) (v:V) (H1:Hp):Prop
 | mk (a:Addr) (kvs:List 0x18) (_:v=.ref a) (_:H1 a=some 0x15) (_:∀ o,Q v (upd H1 a 0x40)):Z2 Q v H1
def tFz (t:TE):TE:=fun σ H Q=>t σ H fun v H1=>Z2 Q v H1
theorem a2w {t:TE} (he:PE X e t):PE X e (tFz t):=by
 intro pins s σ H Q I h;refine A1b 0x5F (fun v s' hq=>?_) fun _ _ y=>y;obtain ⟨x,H',I',r,a,kvs,rfl,ea,q⟩:=hq;obtain ⟨o,I1,n⟩:=I'.freeze ea;exact ⟨_,_,I1,r,q o⟩
theorem O8 {o:Obj}{D:Ends} (Pv:Nat->St->Hp->Prop) (h0:Pv 0 σ H) (hl:∀ i σ H,i<=kvs.length->Pv i σ H->H a=some 0x40)
  (hb:∀ i kv σ H p,kvs[i]?=some kv->Pv i σ H->H p=none->g 0x48 σ (upd H p (.tup [kV kv.1,kv.2])) fun σ2 H2=>tb { D with nx:=Pv (i+1),ct:=Pv (i+1),bk:=D.nx } σ2 H2)
  (he:∀ σ H,Pv kvs.length σ H->D.nx σ H):∃ W:Nat->Nat->St->Hp->Prop,(∃ m,W 0 m σ H)/\∀ i m σ H,W i m σ H ->
   ((YF a o kvs).stop i H/\D.nx σ H)\/((YF a o kvs).go i H/\∃ N:St->Hp->Prop,(∀ σ' H',N σ' H'->∃ m',m'<m/\W (i+1) m' σ' H')/\∀ x H',(YF a o kvs).J7 i H x H'->g x σ H' fun σ2 H2=>tb { D with nx:=N,ct:=N,bk:=D.nx } σ2 H2):=by
 refine ⟨fun i m σ H=>i+m=kvs.length/\Pv i σ H,⟨kvs.length,by lia,h0⟩,?_⟩;rintro i m σ H ⟨hm,hP⟩;have hf:=hl i σ H 0x2 hP
 by_cases hi:i<kvs.length
 ·refine .inr ⟨⟨hf,hi⟩,Pv (i+1),fun σ' H' h=>⟨m - 1,by lia,by lia,h⟩,?_⟩;rintro x H' ⟨p,kv,hkv,rfl,hp,rfl⟩;exact hb i kv σ H p hkv hP hp
 ·have e:i=kvs.length:=by lia
  subst e;exact .inl ⟨⟨hf,A0f _⟩,he σ H hP⟩
end L2
namespace M
open PySem L2 PyProof.Rows
abbrev Af:Stmt:=inClass (top 44) 1
structure o9 (K:PySem.W.Frag) (CC:Addr):Prop where
 cl:Cls K CC
 n1:dJ K CC "many_acres"
 n2:dJ K CC "coins"
 n3:dJ K CC "realm"
 n4:dJ K CC "judged"
 n5:dJ K CC "lands"
abbrev Fg (n b:Int) (z jl ll:Addr):List 0x81:=[0x56,("coins",.int b),("realm",.ref z),("judged",.ref jl),("lands",.ref ll)]
theorem vL {H:Hp}{f:aN->V}{g:aN->PyData}:∀ {es:List aN},(∀ e∈es,cN H (f e) (g e)/\(g e).canLay0=true/\(g e).depth<=8)->wA H 0x52 (kd g es)
 | [],_=>.nil
 | y::es,h=>.cons ⟨rfl,h y A0g⟩ (vL (es:=es) fun e he=>h e (iT _ he))
theorem Ul {es:List aN} (W:WF es):wA H (jr es) (loD es):=vL fun e he=>by
 by_cases hn:e.n=""
 ·obtain ⟨c,r,rfl,hc,hl,_⟩:=W.hd;have:e=c:=jh W.nd he A0g (hn.trans hc.symm);rw [this,hl];exact ⟨.non,rfl,by decide⟩
 ·obtain ⟨p,hp,hm,_⟩:=W.lord e he hn;obtain ⟨z,hz,rfl⟩:=eZ hm;rw [hp];exact ⟨.str _,W.ok z hz,by show PyData.depth (.str _)<=8;exact A1h rfl⟩
theorem Um {es:List aN} (M:Mn es):wA H (hoL es) (hoD es):=vL fun e he=>⟨.str _,M e he,A1h rfl⟩
theorem Uo {es:List aN}:wA H (lY es) (owD es):=vL fun e he=>⟨.int _,rfl,A1h rfl⟩
theorem Uq {es:List aN} (fr:∀ e∈es,jF H e.ta e.due.1 e.due.2):wA H (Oq es) (seD es):=vL fun e he=>⟨.tup (fr e he) (.cons (.int _) (.cons (.int _) .nil)),rfl,A1h rfl⟩
structure Kept (C:Addr) (H:Hp) (qk:Ad) (ek:List aN) (kk ks:List Str):Prop where
 L:Ln C qk H ek
 fr:∀ e∈ek,jF H e.ta e.due.1 e.due.2
 W:WF ek
 M:Mn ek
 o:sW ek kk
 pre:kk <+: ks
theorem Kept.same {qk:Ad}{ek:List aN}{kk:List Str} (a:Kept C H qk ek kk ks) (s:Same H H'):Kept C H' qk ek kk ks:=⟨a.L.same s,fun e he=>s _ _ (a.fr e he),a.W,a.M,a.o,a.pre⟩
theorem Kept.store {qk:Ad}{ek:List aN}{kk:List Str}{fs:List 0x81} (a:Kept C H qk ek kk ks) (hc:H c=some (.ins CC dc fs)) (hx:qk.x≠c):Kept C (upd H c (.ins CC dc fs')) qk ek kk ks :=
 ⟨⟨by rw [ak hx];exact a.L.o,by rw [ak (aZ a.L.l1 hc 0x6)];exact a.L.l1,by rw [ak (aZ a.L.l2 hc 0x6)];exact a.L.l2,by rw [ak (aZ a.L.l3 hc 0x6)];exact a.L.l3,by rw [ak (aZ a.L.l4 hc 0x6)];exact a.L.l4,by rw [ak (aZ a.L.l5 hc 0x6)];exact a.L.l5⟩,
  fun e he=>by have h:=a.fr e he;unfold jF at h ⊢;rw [ak (aZ h hc 0x6)];exact h,a.W,a.M,a.o,a.pre⟩
theorem Kept.lst {qk:Ad}{ek:List aN}{kk:List Str}{xs':List V} (a:Kept C H qk ek kk ks) (hc:H c=some 0x67):Kept C (upd H c (.lst xs')) qk ek kk ks :=
 ⟨⟨by rw [ak (aZ a.L.o hc 0x6)];exact a.L.o,by rw [ak (aZ a.L.l1 hc 0x6)];exact a.L.l1,by rw [ak (aZ a.L.l2 hc 0x6)];exact a.L.l2,by rw [ak (aZ a.L.l3 hc 0x6)];exact a.L.l3,by rw [ak (aZ a.L.l4 hc 0x6)];exact a.L.l4,by rw [ak (aZ a.L.l5 hc 0x6)];exact a.L.l5⟩,
  fun e he=>by have h:=a.fr e he;unfold jF at h ⊢;rw [ak (aZ h hc 0x6)];exact h,a.W,a.M,a.o,a.pre⟩
theorem Xp {h l:Int}{A:Prop} (h1:h=l->A) (h2:h≠l->B):if decide (V.int h=V.int l)=true then A else B:=by
 refine iU (fun c=>h1 ?_) fun c=>h2 fun z=>c (A0k (by rw [z]));have:=rT c;injection this
structure Ej (C:Addr) (H:Hp) (ll:Addr) (jL:List Addr) (qk:Ad):Prop where
 l:H ll=some (.lst (jL.map V.ref))
 all:∀ a∈jL,∃ (d:Int) (x:Addr),H a=some (.tup [.int d,.ref x])/\d<=9999
 last:∃ l0 t,∃ d:Int,jL=l0++[t]/\H t=some (.tup [.int d,.ref qk.x])
def Fk (H:Hp) (qk:Ad):Prop:=H qk.x=none/\∀ a∈[qk.a1,qk.a2,qk.a3,qk.a4,qk.a5],H a=none
inductive vM (CC CR CK C:Addr) (vs:List V) (H:Hp) (Q:VK) (cD:XK):Prop
 | mk (c dc jl ll:Addr) (m:Rm) (q:Ad) (W:M.Wo) (qk:Ad) (ek:List aN) (kk:List Str) (jL:List Addr) (n b d:Int) (_:vs=[.ref c,.int d]) (_:H c=some 0x5A) (_:eF CR CK C H m q W) (_:WF W.es) (_:Mn W.es) (_:sW W.es W.ks) (_:(∀ e∈W.es,jF H e.ta e.due.1 e.due.2)) (_:bH (Dr W.es) (.inr "")=some (.int n)) (_:1<=n) (_:n<=9999) (_:d<=9999) (_:Ej C H ll jL qk) (_:Kept C H qk ek kk W.ks) (_:jL.length<=1000) (_:∀ Ie Ek yq ek' Vt H',(∀ a u,a≠c->a≠ll->H a=some u->H' a=some u)->H' c=some (.ins CC dc (Fg n b m.z jl Ie))->Ej C H' Ie Ek yq->Kept C H' yq ek' Vt W.ks->ek'.map core=W.es.map core->Ek.length<=jL.length+1->(Ie=ll\/H Ie=none)->(yq=qk\/Fk H yq)->Q .non H'):vM CC CR CK C vs H Q cD
section
variable {CR:Addr}
theorem El:aO ["self", "day", "ground"] ["self", "day"] (aH Af):=0x0
theorem O9 (l0:List Addr) (t:Addr):wM ((l0++[t]).map V.ref) (-1)=some 0x70:=by
 rw [jw];exact Ca _ _
theorem Oa (TC:o9 K CC) (TR:mO K CR) (T:dX K C) (F:fK K "end_day" "Court.end_day" Af f fd) 
  (G1:aJ P w K mg base bM 5 g1 d1 A5S (oJ C)) (m1:Meth K C "twin" g1) (b1:Binds K d1 A5S [])
  (G2:aJ P w K mg base bM 1 g2 d2 ["self", "other"] (zO C)) (m2:Meth K C "same" g2) (b2:Binds K d2 ["self", "other"] []) :
  aJ P w K mg base bM 6 f fd ["self", "day"] (vM CC CR CK C):=by
 refine F.ok El 0x1 0x3;obtain ⟨c,dc,jl,ll,m,q,W,qk,ek,kk,jL,n,b,d,rfl,hc,R,Wf,MN,OK,fr,hbr,n1,n2,hd,LA,KP,hlt,k⟩:=h;have hr1:cM 1 _:=hr.mono 0x5;refine ⟨_,aq (aR (i:=2) El.nd rfl 0x7 (bA 0xD rfl))
  (aG (bN (aQ dI 0xF aA 0x61)
   (aG (dM 0x32 (dN (aj (cP (aj aA (aj (ji (CX:=bM) (E:=E0) 0x2B T.cl m1 G1 hr b1 .nil aX) aC))) aC)) rfl))
   (aG (bN (gP (dY (bU (CX:=bM) (E:=E0) 0x2B T.cl m2 G2 hr1 b2 .nil aX (aj (aP bI (aP bD 0xD (uw pq aA) 0x4) aA 0x4) aC))))
    (aG (bL (iz A0z A0Q A0R cQ 0xD (aj (cP (aj 0xF (aj (ji (CX:=bM) (E:=E0) 0x2B T.cl m1 G1 hr b1 .nil aX) aC))) aC)))) aU)))),?_⟩
 refine ⟨_,rfl,c,CC,dc,_,_,rfl,hc,TC.cl,TC.n3,rfl,m.z,CR,m.dz,_,_,rfl,R.o,TR.cl,TR.n1,rfl,?_⟩;have twin:∀ (Q1:VK),(∀ y H1,Same H H1->H y=none->(∃ yq,yq.x=y/\Kept C H1 yq W.es W.ks W.ks/\Fk H yq)->Q1 (.ref y) H1)->oJ C [.ref q.x] H Q1 E0:=fun Q1 k1 =>
  ⟨q.x,q.dx,q.a1,q.a2,q.a3,q.a4,q.a5,_,_,_,_,_,n,rfl,R.L,hbr,n1,n2,fun y dy c1 c2 c3 c4 c5 H1 s1 L1 hy h1 h2 h3 h4 h5 _=>k1 y H1 s1 hy ⟨adL y dy c1 c2 c3 c4 c5 n,rfl,⟨L1,fun e he=>s1 _ _ (fr e he),Wf,MN,OK,A5i _⟩,hy,fun a ha=>by
   simp only [A0d,A0u,A1m] at ha;rcases ha with z | z | z | z | z <;> (rw [z];assumption)⟩⟩
 refine ⟨_,rfl,rfl,_,rfl,Xp (fun e=>?_) 0x86⟩
 ·refine ⟨_,rfl,q.x,q.dx,_,rfl,R.L.o,rfl,?_⟩;dsimp only [nH,List.cons_append,List.nil_append];refine twin _ fun y H1 s1 hy0 hkp=>?_;obtain ⟨yq,hqx,K1,FK⟩:=hkp;refine ⟨small 0xA,fun t ht=>⟨small 0xA,fun l' hl'=>?_⟩⟩;have st:=aM ht 0x77;have t1:(upd H1 t 0x77) t=some 0x77:=ao;generalize upd H1 t 0x77=H2 at st t1 hl' ⊢;have sl:=aM hl' (.lst [V.ref t]);have l1:(upd H2 l' (.lst [V.ref t])) l'=some (.lst [V.ref t]):=ao;have hl0:H l'=none:=(s1.trans st).free hl';generalize upd H2 l' (.lst [V.ref t])=H3 at sl l1 ⊢;have s3:=s1.trans (st.trans sl);have c3:=s3 _ _ hc;have t3:=sl _ _ t1;refine ⟨_,rfl,c,CC,dc,_,rfl,c3,TC.cl,TC.n5,A0w rfl,?_⟩;refine k l' [t] yq W.es W.ks _ (fun a u h1 _ ha=>by rw [ak h1];exact s3 _ _ ha) (by rw [ao];rfl) ⟨?_,fun a ha=>?_,[],t,0,rfl,?_⟩ ((K1.same (st.trans sl)).store c3 ?_) rfl 0xA (.inr hl0) (.inr FK)
  ·rw [ak (aZ l1 c3 0x6)];exact l1
  ·rw [A0c.mp ha];exact ⟨0,y,by rw [ak (aZ t3 c3 0x6)];exact t3,by decide⟩
  ·rw [hqx,ak (aZ t3 c3 0x6)];exact t3
  ·rw [hqx];exact fun z=>by rw [z,hc] at hy0;cases hy0
 ·obtain ⟨l0,t,d0,Xq,ht⟩:=LA.last;refine ⟨_,rfl,q.x,q.dx,_,rfl,R.L.o,rfl,_,rfl,c,CC,dc,_,_,rfl,hc,TC.cl,TC.n5,rfl,1,rfl,ll,_,_,_,rfl,rfl,bO.of LA.l,by rw [Xq];exact O9 l0 t,t,_,_,_,rfl,rfl,cj.of ht,aL (j:=1) rfl,?_⟩;refine ⟨q.x,q.dx,q.a1,q.a2,q.a3,q.a4,q.a5,_,_,_,_,_,qk.x,qk.dx,qk.a1,qk.a2,qk.a3,qk.a4,qk.a5,_,_,_,_,_,_,_,_,_,_,_,_,_,rfl,R.L,KP.L,Ul Wf,Um MN,Uo,Uq fr,Ul KP.W,Um KP.M,Uo,Uq KP.fr,_,rfl,?_⟩
  show if (!(Ko W.es ek))=true then _ else _
  cases hs:Ko W.es ek with
  | true=>exact cu (k ll jL qk ek kk H (fun a u _ _ h=>h) hc LA KP (Nv OK KP.o KP.pre Wf.nd KP.W.nd hs).symm 0x2 0x51 0x51)
  | false =>
   refine dU ⟨_,rfl,c,CC,dc,_,_,rfl,hc,TC.cl,TC.n5,rfl,.inl ⟨rfl,_,bO.of LA.l⟩,_,rfl,_,rfl,q.x,q.dx,_,rfl,R.L.o,rfl,?_⟩;dsimp only [nH,List.cons_append,List.nil_append];refine twin _ fun y H1 s1 hy0 hkp=>?_;obtain ⟨yq,hqx,K1,FK⟩:=hkp;refine ⟨small 0xA,fun t' ht'=>?_⟩;have st:=aM ht' (.tup [V.int d,V.ref y]);have t1:(upd H1 t' (.tup [V.int d,V.ref y])) t'=some (.tup [V.int d,V.ref y]):=ao;generalize upd H1 t' (.tup [V.int d,V.ref y])=H2 at st t1 ⊢;have s2:=s1.trans st;have l2:=s2 _ _ LA.l;refine ⟨ll,_,_,rfl,rfl,l2,bR (by rw [bV];lia),?_⟩;have el:jL.map V.ref++[V.ref t']=(jL++[t']).map V.ref:=by rw [jw];rfl
   rw [el];refine k ll (jL++[t']) yq W.es W.ks _ (fun a u _ h2 ha=>by rw [ak h2];exact s2 _ _ ha) ?_ ⟨ao,fun a ha=>?_,jL,t',d,rfl,?_⟩ ((K1.same st).lst l2) rfl (by rw [iw];simp) 0x51 (.inr FK)
   ·rw [ak (aZ hc LA.l 0x6)];exact s2 _ _ hc
   ·rcases A0x.mp ha with z | z
    ·obtain ⟨d1,x1,h1,h2⟩:=LA.all a z;have h1':=s2 _ _ h1;exact ⟨d1,x1,by rw [ak (aZ h1' l2 0x6)];exact h1',h2⟩
    ·rw [A0c.mp z];exact ⟨d,y,by rw [ak (aZ t1 l2 0x6)];exact t1,hd⟩
   ·rw [hqx,ak (aZ t1 l2 0x6)];exact t1
abbrev Ag:Stmt:=inClass (top 44) 6
abbrev Ig:Stmt:=inClass (top 44) 4
abbrev Ah:Stmt:=top 45
inductive vN (CC C:Addr) (vs:List V) (H:Hp) (Q:VK) (cD:XK):Prop
 | mk (c dc z jl ll:Addr) (qk:Ad) (ek:List aN) (jL:List Addr) (n b w:Int) (_:vs=[.ref c,.int 9999]) (_:H c=some (.ins CC dc (Fg n b z jl ll))) (_:Ej C H ll jL qk) (_:Ln C qk H ek) (_:jL.length<=1000) (_:bH (Dr ek) (.inr "")=some (.int w)) (_:1<=w) (_:w<=9999) (_:∀ y dy b1 b2 b3 b4 b5 H',Same H H'->cg C H' y dy b1 b2 b3 b4 b5 (jr ek) (hoL ek) (lY ek) (Oq ek) (Dr ek)->H y=none->H b1=none->H b2=none->H b3=none->H b4=none->H b5=none->QK b1 b2 b3 b4 b5->Q (.ref y) H'):vN CC C vs H Q cD
inductive Ai (CC:Addr) (K:W.Frag) (vs:List V) (H:Hp) (Q:VK) (cD:XK):Prop
 | mk (c dc z jl ll:Addr) (xs:List V) (n b:Int) (_:vs=[.ref c]) (_:H c=some (.ins CC dc (Fg n b z jl ll))) (_:H jl=some 0x67) (_:xs.length<=1000) (_:∀ D,H D=none->Q 0x60 (upd H D 0x67)):Ai CC K vs H Q cD
theorem Xr:aO A5S A5S (aH Ig):=0x0
theorem Ur (TC:o9 K CC) (F:fK K "verdicts" "Court.verdicts" Ig f fd) (mli:mg "list"=none):aJ P w K mg base bM 1 f fd A5S (Ai CC K):=by
 refine F.ok Xr 0x1 0x3;obtain ⟨c,dc,z,jl,ll,xs,n,b,rfl,hc,hj,_,k⟩:=h;refine ⟨_,aG (aV (fU yN rfl mli oG (aj 0xD aC))),?_⟩;exact ⟨_,rfl,c,CC,dc,_,_,rfl,hc,TC.cl,TC.n4,rfl,jl,_,rfl,.inl (bO.of hj),k⟩
theorem oh:aO ["self", "day", "ground", "first", "later"] ["self", "day"] (aH Ag):=0x0
theorem Ob (TC:o9 K CC) (T:dX K C) (F:fK K "land" "Court.land" Ag f fd) 
  (G1:aJ P w K mg base bM 5 g1 d1 A5S (oJ C)) (m1:Meth K C "twin" g1) (b1:Binds K d1 A5S []):aJ P w K mg base bM 6 f fd ["self", "day"] (vN CC C):=by
 refine F.ok oh 0x1 0x3;obtain ⟨c,dc,z,jl,ll,qk,ek,jL,n,b,w0,rfl,hc,LA,LK,hlt,hbr,w1,w2,k⟩:=h;refine ⟨_,aq (aR (i:=2) oh.nd rfl 0x7 (aP bI (aP bD 0xD aA 0x4) aA 0x4))
  (aq (gJ A0U rfl (eY 0xD) (nu rfl (bT (bC (i:=3) oh.nd rfl 0x7) (bT (bC (i:=4) oh.nd rfl 0x7) gM)))
   (aG (bN (aQ Bw 0x5D 0xF 0x61) (aG (aR (i:=2) oh.nd rfl 0x7 (pv 4))) aU)))
  (aG (aV (ji (CX:=bM) (E:=E0) 0x2B T.cl m1 G1 hr b1 .nil aX)))),?_⟩
 obtain ⟨l0,t,d,Xq,ht⟩:=LA.last;obtain ⟨a0,r0,e0⟩:∃ a r,jL=a::r:=by
  cases jL with
  | nil=>exact absurd (A1G List.length Xq) 0xA
  | cons a r=>exact ⟨a,r,rfl⟩
 obtain ⟨d0,x0,ha0,_⟩:=LA.all a0 (by rw [e0];exact A0g);refine ⟨_,rfl,c,CC,dc,_,_,rfl,hc,TC.cl,TC.n5,rfl,ll,_,_,_,rfl,rfl,bO.of LA.l,aL (j:=0) (by rw [e0];rfl),a0,_,_,_,rfl,rfl,cj.of ha0,aL (j:=1) rfl,?_⟩;refine ⟨_,rfl,c,CC,dc,_,_,rfl,hc,TC.cl,TC.n5,rfl,ll,rfl,⟨_,bO.of LA.l⟩,?_⟩;refine gq (K:=K) (a:=ll) (xs:=jL.map V.ref) (fun i σ Hx=>∃ (u3 u4:Option V) (g:Addr),σ=[some (.ref c),some (.int 9999),some (.ref g),u3,u4]/\Hx=H/\(0<i->∃ a,∃ d:Int,jL[i - 1]?=some a/\H a=some (.tup [.int d,.ref g])))
  ⟨none,none,x0,rfl,rfl,fun h=>absurd h 0x2⟩ (fun i σ Hx _ h=>by obtain ⟨_,_,_,_,h,_⟩:=h;rw [h];exact bO.of LA.l) ?_ ?_
 ·rintro i v σ Hx hv ⟨u3,u4,g,rfl,rfl,_⟩;rw [jW] at hv;obtain ⟨a,hai,rfl⟩:=A0v.mp hv;obtain ⟨d1,x1,ha,hd⟩:=LA.all a (vY hai);refine ⟨a,_,rfl,cj.of ha,rfl,_,_,rfl,_,_,rfl,rfl,?_⟩;refine ⟨_,rfl,_,rfl,_,_,rfl,rfl,_,rfl,iU 0x86 (fun c=>absurd (A0k hd) c)⟩;exact ⟨_,rfl,_,_,x1,rfl,rfl,fun _=>⟨a,d1,hai,ha⟩⟩
 ·rintro σ Hx ⟨u3,u4,g,rfl,rfl,hg⟩;obtain ⟨a,d1,hai,ha⟩:=hg (by rw [bV,e0];simp);have:a=t:=by
   rw [bV,Xq,iw] at hai;simp at hai;exact hai.symm
  subst this;rw [ht] at ha;have eg:qk.x=g:=by injection ha with ha;injection ha with ha;injection ha with _ ha;injection ha with ha;injection ha
  subst eg;refine ⟨_,rfl,qk.x,qk.dx,_,rfl,LK.o,rfl,?_⟩;dsimp only [nH,List.cons_append,List.nil_append];exact ⟨qk.x,qk.dx,qk.a1,qk.a2,qk.a3,qk.a4,qk.a5,_,_,_,_,_,w0,rfl,LK,hbr,w1,w2,k⟩
structure Ab (e e':aN):Prop where
 n:e.n=e'.n
 lord:e.lord=e'.lord
 man:e.man=e'.man
 own:e.own=e'.own
 br:e.br=e'.br
 due:e.due=e'.due
abbrev jz:List aN->List aN->Prop:=Paired Ab
theorem jz.nms {es es':List aN} (h:jz es es'):nms es=nms es':=by
 induction h with
 | nil=>rfl
 | @cons x y xs ys a _ ih =>
  show x.n::M.nms xs=y.n::M.nms ys
  rw [a.n,ih]
theorem jz.core {es es':List aN} (h:jz es es'):es.map core=es'.map core:=by
 induction h with
 | nil=>rfl
 | cons a _ ih=>rw [A0h,A0h,ih];unfold M.core;rw [a.n,a.lord,a.man,a.own,a.due]
theorem jz.mem {es es':List aN} (h:jz es es'):∀ {e:aN},e∈es->∃ e'∈es',Ab e e':=by
 induction h with
 | nil=>intro e h;cases h
 | cons a _ ih =>
  intro e he;rcases A0d.mp he with rfl | h
  ·exact ⟨_,A0g,a⟩
  ·obtain ⟨e',h1,h2⟩:=ih h;exact ⟨e',iT _ h1,h2⟩
theorem jz.map {es es':List aN}{g g':aN->aN} (h:jz es es') (hg:∀ e e',Ab e e'->Ab (g e) (g' e')):jz (es.map g) (es'.map g'):=by
 induction h with
 | nil=>exact .nil
 | cons a _ ih=>exact .cons (hg _ _ a) ih
theorem jz.filter {es es':List aN}{m:Str} (h:jz es es'):jz (es.filter fun y=>decide (y.n≠m)) (es'.filter fun y=>decide (y.n≠m)):=by
 induction h with
 | nil=>exact .nil
 | @cons x y xs ys a _ ih =>
  by_cases c:x.n=m
  ·rw [A1w 0x3F,A1w (by rw [<- a.n];simpa using c)];exact ih
  ·rw [A1g 0x3F,A1g (by rw [<- a.n];simpa using c)];exact .cons a ih
theorem jz.mod {es es':List aN}{g g':aN->aN}{m m':Str} (h:jz es es') (hm:m=m') (hg:∀ e e',Ab e e'->Ab (g e) (g' e')):jz (mod m g es) (mod m' g' es'):=by
 subst hm;refine jz.map h fun e e' a=>?_
 by_cases c:e.n=m
 ·rw [A0i c,A0i (a.n ▸ c)];exact hg e e' a
 ·rw [A0e c,A0e (fun z=>c (a.n.trans z))];exact a
theorem jz.snoc {es es':List aN}{x x':aN} (h:jz es es') (a:Ab x x'):jz (es++[x]) (es'++[x']):=Paired.snoc h a
theorem Us {es es':List aN}{cO:Rw}{y y':aN}{t1' t2' b1' b2':Addr} (h:jz es es') (hy:Ab y y'):jz 0x43 (stp y' es' t1' t2' b1' b2' cO):=by
 cases cO with
 | grant e n m a s=>exact jz.snoc (jz.mod h hy.n fun e e' q=>⟨q.n,q.lord,q.man,by show e.own - a=e'.own - a;rw [q.own],q.br,q.due⟩) ⟨rfl,by show some y.n=some y'.n;rw [hy.n],rfl,rfl,rfl,rfl⟩
 | convey e m=>exact jz.mod h hy.n fun e e' q=>⟨q.n,q.lord,rfl,q.own,q.br,q.due⟩
 | lW e =>
  show jz (cG y.n (y.lord.getD "") y.own es) (cG y'.n (y'.lord.getD "") y'.own es')
  rw [hy.n,hy.lord,hy.own];refine jz.map (jz.filter h) fun e e' q=>⟨q.n,?_,q.man,?_,q.br,q.due⟩
  ·show (if e.lord=_ then _ else e.lord)=(if e'.lord=_ then _ else e'.lord);rw [q.lord]
  ·show (if e.n=_ then e.own+_ else e.own)=(if e'.n=_ then e'.own+_ else e'.own);rw [q.n,q.own]
def BrL:List aN->Prop
 | []=>True
 | x::r=>x.br=x.own+Sb r x.n/\BrL r
theorem tY (x:aN) (r:List aN) (q:Str):Sb (x::r) q=(if x.lord=some q then x.br else 0)+Sb r q:=by
 unfold Sb;rw [A0h,A0H]
theorem La:∀ {r:List aN}{s:List Str},Ord s r->(nms r).Nodup->(∀ x∈s,x∉nms r)->(∀ e∈r,e.br=e.own+Sb r e.n)->BrL r
 | [],_,_,_,_,_=>True.intro
 | x::r,s,⟨⟨p,hp,hs⟩,ho⟩,nd,dj,hb=>by
  have nd':=A0M.mp nd;have key:∀ e∈x::r,Sb (x::r) e.n=Sb r e.n:=fun e he=>by
   rw [tY,A0e,Int.zero_add];rw [hp];intro z;injection z with z;exact dj p hs (z ▸ A0j.mpr ⟨e,he,rfl⟩)
  refine ⟨by rw [hb x A0g,key x A0g],La ho nd'.2 (fun y hy=>?_) fun e he=>by rw [hb e (iT _ he),key e (iT _ he)]⟩;rcases A0d.mp hy with z | z
  ·rw [z];exact nd'.1
  ·exact fun c=>dj y z (iT _ c)
theorem WF.Dr {es:List aN} (W:WF es):BrL es:=by
 obtain ⟨c,r,rfl,hc,hl,ho⟩:=W.hd;have nd':=A0M.mp W.nd;have key:∀ e:aN,Sb (c::r) e.n=Sb r e.n:=fun e=>by
  rw [tY,A0e,Int.zero_add];rw [hl];intro z;cases z
 refine ⟨by rw [W.br c A0g,key],La ho nd'.2 (fun x hx=>?_) fun e he=>by rw [W.br e (iT _ he),key]⟩;rw [A0c.mp hx,<- hc];exact nd'.1
theorem jz.sb {es es':List aN} (h:jz es es') (q:Str):Sb es q=Sb es' q:=by
 induction h with
 | nil=>rfl
 | cons a _ ih=>rw [tY,tY,ih,a.lord,a.br]
theorem Ut:∀ {es es':List aN},BrL es->BrL es'->es.map core=es'.map core->jz es es'
 | [],[],_,_,_=>.nil
 | [],_::_,_,_,h=>by cases h
 | _::_,[],_,_,h=>by cases h
 | x::r,y::t,⟨b1,b2⟩,⟨c1,c2⟩,h=>by
  rw [A0h,A0h] at h;injection h with h1 h2;have ih:=Ut b2 c2 h2;unfold core at h1;injection h1 with e1 h1;injection h1 with e2 h1;injection h1 with e3 h1;injection h1 with e4 e5;exact .cons ⟨e1,e2,e3,e4,by rw [b1,c1,e4,e1,ih.sb],e5⟩ ih
theorem Lb {es es':List aN} (W:WF es) (W':WF es') (h:es.map core=es'.map core):jz es es':=Ut W.Dr W'.Dr h
theorem jz.len {es es':List aN} (h:jz es es'):es.length=es'.length:=by
 have:=A1G List.length h.core
 rwa [bV,bV] at this
theorem jz.ord {es es':List aN} (h:jz es es'):∀ {s:List Str},Ord s es'->Ord s es:=by
 induction h with
 | nil=>intro _ _;exact True.intro
 | cons a _ ih =>
  rintro s ⟨⟨p,hp,hs⟩,ho⟩;exact ⟨⟨p,a.lord.trans hp,hs⟩,ih (a.n ▸ ho)⟩
theorem jz.wf {es es':List aN} (h:jz es es') (W:WF es'):WF es:=by
 refine ⟨h.nms ▸ W.nd,?_,fun e he=>?_,fun e he=>?_,fun e he=>?_⟩
 ·obtain ⟨c,r,e,hc,hl,ho⟩:=W.hd;subst e;cases h with
  | cons a t=>exact ⟨_,_,rfl,a.n.trans hc,a.lord.trans hl,jz.ord t ho⟩
 ·obtain ⟨e',h',a⟩:=h.mem he;rw [a.own,a.br];exact W.bnd e' h'
 ·obtain ⟨e',h',a⟩:=h.mem he;rw [a.br,a.own,a.n,h.sb];exact W.br e' h'
 ·obtain ⟨e',h',a⟩:=h.mem he;rw [a.n];exact W.ok e' h'
theorem jz.pu {es es':List aN} (h:jz es es') (P:Pu es' ks ls j wd):Pu es ks ls j wd:=by
 refine ⟨h.wf P.W,fun e he=>?_,fun e he hn=>?_,by rw [h.len];exact P.ln,P.lk,fun e he=>?_,?_⟩
 ·obtain ⟨e',h',a⟩:=h.mem he;rw [a.due];exact P.bd e' h'
 ·obtain ⟨e',h',a⟩:=h.mem he;rw [a.n] at hn ⊢;exact P.kn e' h' hn
 ·obtain ⟨e',h',a⟩:=h.mem he;rw [a.n];exact P.nl e' h'
 ·rw [<- P.tot];have:es.map (·.own)=es'.map (·.own):=by
   have:=A1G (List.map fun x:Str×Option Str×Str×Int×(Int×Int)=>x.2.2.2.1) h.core;rw [A0S,A0S] at this;exact this
  rw [this]
structure Mix (E ek es:List aN):Prop where
 ab:jz E es
 a1:jr E=jr ek
 a2:hoL E=hoL ek
 a3:lY E=lY ek
 a4:Oq E=Oq ek
 a5:Dr E=Dr ek
 b1:jr E=jr es
 b2:hoL E=hoL es
 b3:lY E=lY es
 b4:xV E=xV es
 fa:∀ e∈E,∃ a∈ek,e.ta=a.ta/\e.due=a.due
 fb:∀ e∈E,∃ b∈es,e.tb=b.tb/\e.due=b.due
theorem mix {ek es:List aN} (h:jz ek es):∃ E,Mix E ek es:=by
 induction h with
 | nil=>exact ⟨[],⟨.nil,rfl,rfl,rfl,rfl,rfl,rfl,rfl,rfl,rfl,(fun e he=>by cases he),(fun e he=>by cases he)⟩⟩
 | @cons x y xs ys a _ ih =>
  obtain ⟨E,m⟩:=ih;have kc:∀ {f g:aN->V}{u v:aN}{l l':List aN},kv f l=kv g l'->u.n=v.n->f u=g v->kv f (u::l)=kv g (v::l'):=fun h1 h2 h3=>by
   unfold kv at h1 ⊢;rw [A0h,A0h,h1,h2,h3]
  refine ⟨{ x with tb:=y.tb }::E,⟨.cons ⟨a.n,a.lord,a.man,a.own,a.br,a.due⟩ m.ab,kc m.a1 rfl rfl,kc m.a2 rfl rfl,kc m.a3 rfl rfl,kc m.a4 rfl rfl,kc m.a5 rfl rfl,kc m.b1 a.n (by show iY x.lord=_;rw [a.lord]),kc m.b2 a.n (by show V.str x.man=_;rw [a.man]),kc m.b3 a.n (by show V.int x.own=_;rw [a.own]),kc m.b4 a.n rfl,fun e he=>?_,fun e he=>?_⟩⟩
  ·rcases A0d.mp he with z | z
   ·subst z;exact ⟨x,A0g,rfl,rfl⟩
   ·obtain ⟨u,hu,q⟩:=m.fa e z;exact ⟨u,iT _ hu,q⟩
  ·rcases A0d.mp he with z | z
   ·subst z;exact ⟨y,A0g,rfl,a.due⟩
   ·obtain ⟨u,hu,q⟩:=m.fb e z;exact ⟨u,iT _ hu,q⟩
theorem jz.crb {es es':List aN}{n:Int} (h:jz es es') (c:X7 es' n):X7 es n:=by
 induction h with
 | nil=>exact c
 | @cons x y xs ys a _ ih =>
  obtain ⟨z,hz,q1,q2⟩:=c;rcases A0d.mp hz with e | e
  ·subst e;exact ⟨x,A0g,a.n.trans q1,a.br.trans q2⟩
  ·obtain ⟨u,hu,q⟩:=ih ⟨z,e,q1,q2⟩;exact ⟨u,iT _ hu,q⟩
def AbW (W W':Wo):Prop:=jz W.es W'.es/\W.ks=W'.ks/\W.hs=W'.hs/\W.dd=W'.dd
theorem jz.held {es es':List aN} (h:jz es es') (m:Str):(es.filter fun y=>decide (y.man=m)).map (·.n)=(es'.filter fun y=>decide (y.man=m)).map (·.n):=by
 induction h with
 | nil=>rfl
 | @cons x y xs ys a _ ih =>
  by_cases c:x.man=m
  ·rw [A1g 0x3F,A1g (by rw [<- a.man];simpa using c),A0h,A0h,ih,a.n]
  ·rw [A1w 0x3F,A1w (by rw [<- a.man];simpa using c),ih]
theorem Fo.inv {es es':List aN}{L:List Str} (f:Fo r es L es'):∀ {ss:List Str}{n:Str},L=ss++[n]->∃ e1 y,Fo r es ss e1/\y∈e1/\y.n=n/\es'=stp y e1 0 0 0 0 (vf r n):=by
 cases f with
 | nil=>intro ss n e;simp at e
 | snoc f hy hn =>
  intro ss n e;obtain ⟨e1,e2⟩:=List.append_inj' e rfl;injection e2 with e2;subst e1;subst e2;exact ⟨_,_,f,hy,rfl,rfl⟩
theorem Fo.det {es es' e1:List aN} (h:jz es es') (f:Fo r es ss e1):∀ {e1':List aN},(∀ {ss' e2},Fo r es' ss' e2->(nms e2).Nodup)->Fo r es' ss e1'->jz e1 e1':=by
 induction f with
 | nil =>
  intro e1' _ f';generalize hL:([]:List Str)=L at f';cases f' with
  | nil=>exact h
  | snoc _ _ _=>exact absurd (A1G List.length hL) 0xA
 | snoc f hy hn ih =>
  intro e1' nd f';obtain ⟨e2,y',f2,hy',hn',rfl⟩:=f'.inv rfl;have a:=ih nd f2;obtain ⟨y'',hm,ay⟩:=a.mem hy;have:=jh (nd f2) hm hy' (ay.n.symm.trans hn'.symm);subst this;exact Us a ay
theorem Jo.det {W W1 W2 W3:Wo}{ro:Ro}{w w':Str} (h:AbW W W1) (R:Wp W1 ls j wd) (hls:∀ n∈ls,n≠""/\PyData.strOk n=true) (J:Jo W dy ro w W2) (J':Jo W1 dy ro w' W3):w=w'/\AbW W2 W3:=by
 obtain ⟨es,ks,hs,dd⟩:=W;obtain ⟨es1,ks1,hs1,dd1⟩:=W1;obtain ⟨h,e1,e2,e3⟩:=h;dsimp only at h e1 e2 e3;subst e1;subst e2;subst e3;have hn:=h.nms;have nd:=R.E.P.W.nd;have mm:∀ {l:List aN}{y:aN}{e:Str},y∈l->y.n=e->e∈nms l:=fun hy e=>e ▸ A0j.mpr ⟨_,hy,rfl⟩;have one:∀ {y y':aN}{e:Str},y∈es->y'∈es1->y.n=e->y'.n=e->Ab y y':=fun {y y' e} hy hy' a b=>by
  obtain ⟨z,hz,az⟩:=h.mem hy;have:=jh nd hz hy' (az.n.symm.trans (a.trans b.symm));subst this;exact az
 have old:AbW ⟨es,ks,hs,dd⟩ ⟨es1,ks,hs,dd⟩:=⟨h,rfl,rfl,rfl⟩;cases J with
 | no q =>
  dsimp only at q;rw [hn] at q;cases J' with
  | no _=>exact ⟨rfl,old⟩
  | tk p _=>exact absurd p q
  | de p _ _=>exact absurd p q
  | ac p1 p2 _ _ _=>exact absurd (mm p1 p2) q
  | gr _ _ p1 p2 _ _ _=>exact absurd (mm p1 p2) q
 | tk q q2 =>
  dsimp only at q;rw [hn] at q;cases J' with
  | no p=>exact absurd q p
  | tk _ _=>exact ⟨rfl,old⟩
  | de _ p _=>exact absurd q2 p
  | ac _ _ p _ _=>exact absurd q2 p
  | gr _ _ _ _ p _ _=>exact absurd q2 p
 | de q q2 q3 =>
  dsimp only at q;rw [hn] at q;cases J' with
  | no p=>exact absurd q p
  | tk _ p=>exact absurd p q2
  | de _ _ _=>exact ⟨rfl,old⟩
  | ac _ _ _ p _=>exact absurd q3 p
  | gr _ _ _ _ _ p _=>exact absurd q3 p
 | ac q1 q2 q3 q4 q5 =>
  cases J' with
  | no p=>exact absurd (hn ▸ mm q1 q2) p
  | tk _ p=>exact absurd p q3
  | de _ _ p=>exact absurd p q4
  | ac _ _ _ _ _=>exact ⟨rfl,old⟩
  | gr _ _ p1 p2 _ _ p5=>have:=(one q1 p1 q2 p2).own;lia
 | @gr e n m a s y t b q1 q2 q3 q4 q5 =>
  cases J' with
  | no p=>exact absurd (hn ▸ mm q1 q2) p
  | tk _ p=>exact absurd p q3
  | de _ _ p=>exact absurd p q4
  | ac p1 p2 _ _ p5=>have:=(one q1 p1 q2 p2).own;lia
  | @gr _ _ _ _ _ y' t' b' p1 p2 _ _ p5 =>
   refine ⟨rfl,?_,rfl,rfl,rfl⟩
   show jz (stp y es t 0 b 0 0x66) (stp y' es1 t' 0 b' 0 0x66)
   exact Us h (one q1 p1 q2 p2)
 | hd q =>
  cases J' with
  | hd _=>exact ⟨rfl,old⟩
  | hr p=>exact absurd q p
 | hr q =>
  cases J' with
  | hd p=>exact absurd p q
  | hr _=>exact ⟨rfl,h,rfl,rfl,rfl⟩
 | dx q =>
  cases J' with
  | dx _=>exact ⟨rfl,old⟩
  | di p _ _ _=>exact absurd q p
 | di q qt qh qf =>
  cases J' with
  | dx p=>exact absurd p q
  | di p pt ph pf =>
   have er:=qt.det pt;subst er;have es:=mH (qh.1.trans (by rw [h.held];exact ph.1.symm)) qh.2 ph.2;subst es;refine ⟨rfl,Fo.det h qf (fun f=>(f.eo R.E (fun z e=>Tk.ok (Pr:=fun z=>PyData.strOk z=true) (fun _ _=>nU R.hv) pt (fun z e=>nU R.hv e) z e) hls).P.W.nd) pf,rfl,rfl,rfl⟩
inductive JL (W0:Wo):List (Int×Ro)->List Str->Wo->Prop
 | nil:JL W0 [] [] W0
 | snoc {rs:List (Int×Ro)}{ws:List Str}{W W':Wo}{dy:Int}{ro:Ro}{w:Str}:JL W0 rs ws W->Jo W dy ro w W'->JL W0 (rs++[(dy,ro)]) (ws++[w]) W'
theorem JL.inv {W0 W:Wo}{L:List (Int×Ro)} (h:JL W0 L ws W):∀ {rs:List (Int×Ro)}{dy:Int}{ro:Ro},L=rs++[(dy,ro)]->∃ ws0 w W1,ws=ws0++[w]/\JL W0 rs ws0 W1/\Jo W1 dy ro w W:=by
 cases h with
 | nil=>intro rs dy ro e;simp at e
 | snoc h J =>
  intro rs dy ro e;obtain ⟨e1,e2⟩:=List.append_inj' e rfl;injection e2 with e2;injection e2 with e3 e4;subst e1;subst e3;subst e4;exact ⟨_,_,_,rfl,h,J⟩
theorem JL.wp {W0 W:Wo}{rs:List (Int×Ro)}{n:Int} (hls:∀ n∈ls,n≠""/\PyData.strOk n=true) (R:Wp W0 ls 0 n) (J:JL W0 rs ws W):(∀ r∈rs,r.2.Ok ls/\r.2.Tx)->Wp W ls rs.length n:=by
 induction J with
 | nil=>intro _;exact R
 | snoc _ D ih =>
  intro h;have q:=h _ (A0y _ (A0c.mpr rfl));rw [iw,A0r];exact D.wp (ih fun r hr=>h r (A1l _ hr)) q.1 q.2 hls
theorem JL.det {W0 W1 W:Wo}{rs:List (Int×Ro)}{n:Int} (hls:∀ n∈ls,n≠""/\PyData.strOk n=true) (h0:AbW W0 W1) (R:Wp W1 ls 0 n) (J:JL W0 rs ws W):∀ {ws':List Str}{W':Wo},(∀ r∈rs,r.2.Ok ls/\r.2.Tx)->JL W1 rs ws' W'->ws=ws'/\AbW W W':=by
 induction J with
 | nil =>
  intro ws' W' _ J';generalize hL:([]:List (Int×Ro))=L at J';cases J' with
  | nil=>exact ⟨rfl,h0⟩
  | snoc _ _=>exact absurd (A1G List.length hL) 0xA
 | snoc _ D ih =>
  intro ws' W' ho J';obtain ⟨ws0,w,W2,rfl,J1,D'⟩:=J'.inv rfl;have ho':=fun r hr=>ho r (A1l _ hr);obtain ⟨q1,q2⟩:=ih ho' J1;obtain ⟨p1,p2⟩:=D.det q2 (J1.wp hls R ho') hls D';exact ⟨by rw [q1,p1],p2⟩
abbrev Aj:Stmt:=inClass (top 44) 0
structure fP (H:Hp) (jl:Addr) (ts:List Addr) (pr:List Addr) (ws:List Str):Prop where
 l:H jl=some (.lst (ts.map V.ref))
 lt:ts.length=pr.length
 lw:ws.length=pr.length
 at':∀ (i:Nat) (t r:Addr) (w:Str),ts[i]?=some t->pr[i]?=some r->ws[i]?=some w->H t=some (.tup [.ref r,.str w])
theorem fP.keep (a:fP H jl ts pr ws) (h1:H' jl=H jl) (h2:∀ c xs,H c=some 0x35->H' c=some 0x35):fP H' jl ts pr ws :=
 ⟨by rw [h1];exact a.l,a.lt,a.lw,fun i t r w e1 e2 e3=>h2 _ _ (a.at' i t r w e1 e2 e3)⟩
theorem fP.snoc {r:Addr}{w:Str} (a:fP H jl ts pr ws) (ht:H t=some (.tup [.ref r,.str w])):fP (upd H jl (.lst (ts.map V.ref++[V.ref t]))) jl (ts++[t]) (pr++[r]) (ws++[w]):=by
 refine ⟨by rw [ao,jw];rfl,by rw [iw,iw,a.lt];rfl,by rw [iw,iw,a.lw];rfl,fun i t' r' w' e1 e2 e3=>?_⟩;have nt:∀ {c:Addr}{xs:List V},H c=some 0x35->(upd H jl (.lst (ts.map V.ref++[V.ref t]))) c=some 0x35:=fun hc=>by rw [ak (aZ hc a.l 0x6)];exact hc
 by_cases hi:i<pr.length
 ·rw [A1q (by rw [a.lt];exact hi)] at e1;rw [A1q hi] at e2;rw [A1q (by rw [a.lw];exact hi)] at e3;exact nt (a.at' i t' r' w' e1 e2 e3)
 ·have hl:=(A0l.mp e2).1;rw [iw,A0r] at hl;have:i=pr.length:=by lia
  subst this;rw [A0W 0x2D,A3w] at e2;rw [A0W (by rw [a.lt];exact A0f _),a.lt,A3w] at e1;rw [A0W (by rw [a.lw];exact A0f _),a.lw,A3w] at e3;injection e1 with e1;injection e2 with e2;injection e3 with e3;subst e1;subst e2;subst e3;exact nt ht
structure qH (CC CR CK C:Addr) (H:Hp) (c dc jl ll:Addr) (m:Rm) (q:Ad) (W:Wo) (ls:List Str) (qk:Ad) (ek:List aN) (kk:List Str) (jL ts pr:List Addr) (ws:List Str) (n b:Int):Prop where
 o:H c=some 0x5A
 R:eF CR CK C H m q W
 S:Sep m q
 P:Wp W ls pr.length n
 fr:∀ e∈W.es,jF H e.ta e.due.1 e.due.2
 Ld:Ej C H ll jL qk
 K:Kept C H qk ek kk W.ks
 J:fP H jl ts pr ws
 jn:jl≠ll
 ln:jL.length<=pr.length+1
 kx:qk.x≠c
 kq:qk.x≠q.x/\∀ a∈[qk.a1,qk.a2,qk.a3,qk.a4,qk.a5],a∉jV m q
 mc:m.z≠c/\q.x≠c/\m.k≠c
theorem Jo.pre {W W':Wo}{ro:Ro}{w:Str} (h:Jo W dy ro w W'):W.ks <+: W'.ks:=by
 cases h <;> first | exact A5i _ | exact List.prefix_append _ _
theorem Kept.Hl {CR:Addr}{m:Rm}{q qk:Ad}{W:Wo}{ek:List aN}{kk:List Str} (K:Kept C H qk ek kk ks) (R:eF CR CK C H m q W) (kq:∀ a∈[qk.a1,qk.a2,qk.a3,qk.a4,qk.a5],a∉jV m q) (o:iV m q H H') (p:ks <+: ks'):Kept C H' qk ek kk ks' :=
 ⟨⟨R.out o 0x21 K.L.o,o _ _ (kq _ 0xA) K.L.l1,o _ _ (kq _ 0xA) K.L.l2,o _ _ (kq _ 0xA) K.L.l3,o _ _ (kq _ 0xA) K.L.l4,o _ _ (kq _ 0xA) K.L.l5⟩,fun e he=>R.out o 0x21 (K.fr e he),K.W,K.M,K.o,K.pre.trans p⟩
theorem eF.oth {CR:Addr}{m:Rm}{q:Ad}{W:Wo} (a:eF CR CK C H m q W) (hd:∀ b kvs,H b=some 0x15->c≠b) (h1:m.z≠c) (h2:q.x≠c) (h3:m.k≠c):eF CR CK C (upd H c o) m q W:=by
 have d:∀ {b:Addr}{kvs:List 0x2C},H b=some 0x15->(upd H c o) b=some 0x15:=fun h=>by rw [ak (hd _ _ h).symm];exact h
 exact ⟨by rw [ak h1];exact a.o,⟨by rw [ak h3];exact a.K.o,d a.K.h,d a.K.g⟩,d a.U,d a.D,⟨by rw [ak h2];exact a.L.o,d a.L.l1,d a.L.l2,d a.L.l3,d a.L.l4,d a.L.l5⟩⟩
theorem eF.lst {CR:Addr}{m:Rm}{q:Ad}{W:Wo} (a:eF CR CK C H m q W) (hc:H c=some 0x67):eF CR CK C (upd H c o) m q W :=
 a.oth (fun _ _ h=>(aZ h hc 0x6).symm) (aZ a.o hc 0x6) (aZ a.L.o hc 0x6) (aZ a.K.o hc 0x6)
theorem eF.store {CR:Addr}{m:Rm}{q:Ad}{W:Wo}{fs:List 0x81} (a:eF CR CK C H m q W) (hc:H c=some (.ins CC dc fs)) (h1:m.z≠c) (h2:q.x≠c) (h3:m.k≠c):eF CR CK C (upd H c (.ins CC dc fs')) m q W :=
 a.oth (fun _ _ h=>(aZ h hc 0x6).symm) h1 h2 h3
theorem qH.judge {CR:Addr}{r:Addr}{m:Rm}{q qk:Ad}{W W':Wo}{ek:List aN}{kk:List Str}{n b:Int}{ro:Ro}{w:Str} (A:qH CC CR CK C H c dc jl ll m q W ls qk ek kk jL ts pr ws n b)
  (hok:ro.Ok ls) (hx:ro.Tx) (hls:∀ n∈ls,n≠""/\PyData.strOk n=true) (J:Jo W dy ro w W') (R':eF CR CK C H1 m q W') (fr':∀ e∈W'.es,jF H1 e.ta e.due.1 e.due.2) (o:iV m q H H1) (ht:H1 t=none) :
  qH CC CR CK C (upd (upd H1 t (.tup [.ref r,.str w])) jl (.lst (ts.map V.ref++[V.ref t]))) c dc jl ll m q W' ls qk ek kk jL (ts++[t]) (pr++[r]) (ws++[w]) n b:=by
 apply 0o1 H1 t ht st t1 H2
 have j1:=st _ _ (A.R.out o 0x21 A.J.l);have a03:∀ c' xs,H c'=some 0x35->H2 c'=some 0x35:=fun c' xs h=>st _ _ (A.R.out o 0x21 h);have J1:fP H2 jl ts pr ws:=A.J.keep (by rw [j1,A.J.l]) a03;have c1:=st _ _ (A.R.out o 0x21 A.o);have l1:=st _ _ (A.R.out o 0x21 A.Ld.l);have R1:=R'.same st;have K1:=(A.K.Hl A.R A.kq.2 o J.pre).same st;have f1:∀ e∈W'.es,jF H2 e.ta e.due.1 e.due.2:=fun e he=>st _ _ (fr' e he);have nt:∀ {c':Addr}{xs:List V},H2 c'=some 0x35->(upd H2 jl (.lst (ts.map V.ref++[V.ref t]))) c'=some 0x35:=fun hc=>by rw [ak (aZ hc j1 0x6)];exact hc
 refine ⟨by rw [ak (aZ c1 j1 0x6)];exact c1,R1.lst j1,A.S,?_,fun e he=>nt (f1 e he),⟨by rw [ak (A0m A.jn)];exact l1,fun a ha=>?_,?_⟩,K1.lst j1,J1.snoc t1,A.jn,by rw [iw];have:=A.ln;lia,A.kx,A.kq,A.mc⟩
 ·rw [iw];exact J.wp A.P hok hx hls
 ·obtain ⟨d,x,h1,h2⟩:=A.Ld.all a ha;exact ⟨d,x,nt (a03 _ _ h1),h2⟩
 ·obtain ⟨l0,t0,d,h1,h2⟩:=A.Ld.last;exact ⟨l0,t0,d,h1,nt (a03 _ _ h2)⟩
theorem eF.Uu {CR:Addr}{m:Rm}{q:Ad}{W:Wo} (R:eF CR CK C H m q W) (hm:a∈jV m q) (h0:H a=none):False:=by
 simp only [jV,A0d,A0u,A1m] at hm;have k:=fun {b:Addr}{u:HO} (e:a=b) (h:H b=some u)=>(show False by rw [e,h] at h0;cases h0)
 rcases hm with z | z | z | z | z | z | z | z | z
 ·exact k z R.L.l1
 ·exact k z R.L.l2
 ·exact k z R.L.l3
 ·exact k z R.L.l4
 ·exact k z R.L.l5
 ·exact k z R.U
 ·exact k z R.K.h
 ·exact k z R.K.g
 ·exact k z R.D
theorem qH.day {CR:Addr}{Ie:Addr}{m:Rm}{q qk yq:Ad}{W:Wo}{ek ek':List aN}{kk Vt:List Str}{Ek:List Addr}{n b:Int} (A:qH CC CR CK C H c dc jl ll m q W ls qk ek kk jL ts pr ws n b)
  (f:∀ a u,a≠c->a≠ll->H a=some u->H' a=some u) (o:H' c=some (.ins CC dc (Fg n b m.z jl Ie))) (L':Ej C H' Ie Ek yq) (K':Kept C H' yq ek' Vt W.ks) (len:Ek.length<=pr.length+1) (hl:Ie=ll\/H Ie=none) (hq:yq=qk\/Fk H yq) :
  qH CC CR CK C H' c dc jl Ie m q W ls yq ek' Vt Ek ts pr ws n b:=by
 have d:∀ {a:Addr}{kvs:List 0x2C},H a=some 0x15->H' a=some 0x15:=fun h=>f _ _ (aZ h A.o 0x6) (aZ h A.Ld.l 0x6) h;have i:∀ {a D dx:Addr}{fs:List 0x81},a≠c->H a=some (.ins D dx fs)->H' a=some (.ins D dx fs):=fun hn h=>f _ _ hn (aZ h A.Ld.l 0x6) h;have t:∀ c' xs,H c'=some 0x35->H' c'=some 0x35:=fun c' xs h=>f _ _ (aZ h A.o 0x6) (aZ h A.Ld.l 0x6) h;have R:=A.R;refine ⟨o,⟨i A.mc.1 R.o,⟨i A.mc.2.2 R.K.o,d R.K.h,d R.K.g⟩,d R.U,d R.D,⟨i A.mc.2.1 R.L.o,d R.L.l1,d R.L.l2,d R.L.l3,d R.L.l4,d R.L.l5⟩⟩,A.S,A.P,fun e he=>t _ _ (A.fr e he),L',K',A.J.keep ?_ t,?_,len,?_,?_,A.mc⟩
 ·rw [f jl _ (aZ A.J.l A.o 0x6) A.jn A.J.l,A.J.l]
 ·rcases hl with e | e
  ·rw [e];exact A.jn
  ·exact au A.J.l e
 ·rcases hq with e | e
  ·rw [e];exact A.kx
  ·exact (au A.o e.1).symm
 ·rcases hq with e | e
  ·rw [e];exact A.kq
  ·refine ⟨(au R.L.o e.1).symm,fun a ha hm=>?_⟩;have h0:=e.2 a ha;exact R.Uu hm h0
theorem Uv (n:Int) (t:Addr) (ls:List Str) (n1:1<=n) (n2:n<=9999):Pu [Fd n t] [] ls 0 n:=by
 refine ⟨⟨by simp [nms],⟨Fd n t,[],rfl,rfl,rfl,trivial⟩,fun e he=>?_,fun e he=>?_,fun e he=>?_⟩,fun e he=>?_,fun e he hn=>?_,A0f _,A0f _,fun e he=>?_,?_⟩
 ·rw [A0c.mp he];exact ⟨by show 0<=n;lia,by show 0<=n;lia,n2⟩
 ·rw [A0c.mp he]
  show n=n+Sb [Fd n t] ""
  have:Sb [Fd n t] ""=0:=by unfold Sb;rfl
  lia
 ·rw [A0c.mp he];show PyData.strOk ("" : Str)=true;decide +kernel
 ·rw [A0c.mp he];exact ⟨by show (0:Int).natAbs<_;decide,by show (0:Int)<1;decide,by show (1:Int).natAbs<_;decide⟩
 ·rw [A0c.mp he] at hn;exact absurd rfl hn
 ·rw [A0c.mp he];exact .inl rfl
 ·show n+0=n;lia
theorem qH.same {CR:Addr}{m:Rm}{q qk:Ad}{W:Wo}{ek:List aN}{kk:List Str}{n b:Int} (A:qH CC CR CK C H c dc jl ll m q W ls qk ek kk jL ts pr ws n b) (s:Same H H'):qH CC CR CK C H' c dc jl ll m q W ls qk ek kk jL ts pr ws n b:=by
 refine ⟨s _ _ A.o,A.R.same s,A.S,A.P,fun e he=>s _ _ (A.fr e he),⟨s _ _ A.Ld.l,fun a ha=>?_,?_⟩,A.K.same s,A.J.keep (by rw [s _ _ A.J.l,A.J.l]) fun c' xs h=>s _ _ h,A.jn,A.ln,A.kx,A.kq,A.mc⟩
 ·obtain ⟨d,x,h1,h2⟩:=A.Ld.all a ha;exact ⟨d,x,s _ _ h1,h2⟩
 ·obtain ⟨l0,t,d,h1,h2⟩:=A.Ld.last;exact ⟨l0,t,d,h1,s _ _ h2⟩
theorem qI {n:Int}{e:aN} (P:Pu [e] [] ls 0 n) (h1:e.n="") (h2:e.man="") (h3:e.br=n):Wp (W0 e) ls 0 n:=by
 have one:∀ {z:aN},z∈(W0 e).es->z=e:=fun h=>A0c.mp h;refine ⟨⟨P,fun z hz _=>by rw [one hz];exact h2,fun z hz=>by rw [one hz,h2];decide +kernel,?_,e,A0c.mpr rfl,h1,h3⟩,(fun p hp=>nomatch hp),A0f _,A0f _,A3Y⟩
 show [e.n]=_
 rw [h1];rfl
def rP (gs:List Bm) (i:Nat):List Addr:=((gs.take i).map (·.rs)).flatten
theorem rQ {gs:List Bm}{x:Bm} (h:gs[i]?=some x):rP gs (i+1)=rP gs i++x.rs:=by
 unfold rP;rw [A1f,h,jw,A2Z];simp
theorem Uw (gs:List Bm):rP gs gs.length=(gs.map (·.rs)).flatten:=by unfold rP;rw [A1d]
theorem Em {gs:List Bm} (i:Nat):(rP gs i).length<=((gs.map (·.rs)).flatten).length:=by
 unfold rP;have h:gs.map (·.rs)=(gs.take i).map (·.rs)++(gs.drop i).map (·.rs):=by rw [<- jw,A4b]
 rw [h,A2Z,iw];lia
structure Xu (H Hx:Hp) (c D:Addr) (u:HO) (gs:List Bm) (jl ll:Addr):Prop where
 old:∀ a v,a≠c->H a=some v->Hx a=some v
 fz:Hx D=some u
 g:KZ Hx gs
 gn:∀ x∈gs,x.g≠jl/\x.g≠ll
 l0:H ll=none
inductive vO (vs:List V) (H:Hp) (Q:VK) (cD:XK):Prop
 | mk (n b:Int) (_:vs=[.int n,.int b]) (_:1<=n) (_:n<=9999) (_:0<=b) (_:b<=99) (_:Q .non H):vO vs H Q cD
structure Ak (dat:Addr->List V) (lE:Addr->Int) (lF:Addr->Ro) (ls:List Str) (a:Addr):Prop where
 e:dat a=Ro.vs (lE a) (lF a)
 ok:(lF a).Ok ls
 tx:(lF a).Tx
 d0:0<=lE a
 d1:lE a<=9999
inductive vP (CC CR CK C:Addr) (K:W.Frag) (vs:List V) (H:Hp) (Q:VK) (cD:XK):Prop
 | mk (c dc l:Addr) (n b:Int) (all:List Addr) (dat:Addr->List V) (lE:Addr->Int) (lF:Addr->M.Ro) (ls:List Str) (_:vs=[.ref c,.int n,.int b,.ref l]) (_:H c=some (.ins CC dc [])) (_:1<=n) (_:n<=9999) (_:0<=b) (_:b<=99) (_:bO K H l 0x2E) (_:all.length<=30) (_:iQ H all dat) (_:(∀ a∈all,Ak dat lE lF ls a)) (_:0x8F) (_:∀ jl ll m q W qk ek kk jL ts out ws t0 H',(∀ a u,a≠c->H a=some u->H' a=some u)->out.Perm all->Fe dat out->JL (W0 (Fd n t0)) (out.map fun a=>(lE a,lF a)) ws W->qH CC CR CK C H' c dc jl ll m q W ls qk ek kk jL ts out ws n b->ek.map core=W.es.map core->Q .non H'):vP CC CR CK C K vs H Q cD
theorem qJ:aO ["self", "acres", "bears", "rows", "day", "judged_then", "row"] A6a (aH Aj):=0x0
theorem Oc (TC:o9 K CC) (TR:mO K CR) (T:dX K C) (F:fK K "__init__" "Court.__init__" Aj f fd) {g0:Addr}{d0:FuncData}
  (G0:aJ P w K mg base bM 3 g0 d0 ["acres", "bears"] vO) (M0:Ms K mg "check_land" g0 d0 ["acres", "bears"])
  (G1:aJ P w K mg base bM 5 g1 d1 A5V (vA CR CK C)) (MK1:Mk K CR g1) (mR:mg "Realm"=some (.ref CR)) (b1:Binds K d1 A5V [])
  (G2:aJ P w K mg base bM 5 g2 d2 A5S (oJ C)) (m2:Meth K C "twin" g2) (b2:Binds K d2 A5S [])
  (G3:aJ P w K mg base bM 5 g3 d3 ["rows"] (vJ K)) (M3:Ms K mg "by_days" g3 d3 ["rows"])
  (G4:aJ P w K mg base bM 6 g4 d4 A5I (zU CR CK C)) (M4:Ms K mg "judge" g4 d4 A5I)
  (G5:aJ P w K mg base bM 6 g5 d5 ["self", "day"] (vM CC CR CK C)) (m5:Meth K CC "end_day" g5) (b5:Binds K d5 ["self", "day"] []) :
  aJ P w K mg base bM 7 f fd A6a (vP CC CR CK C K):=by
 refine F.ok qJ 0x1 0x3;obtain ⟨c,dc,l,n,b,all,dat,lE,lF,ls,rfl,hc,n1,n2,b1',b2',hl,h30,RO,RW,hls,k⟩:=h;have hr3:cM 3 _:=hr.mono 0x5;have hr5:cM 5 _:=hr.mono 0x5;refine ⟨_,aq (bL (bF G0 hr3 rfl M0.m M0.k M0.b .nil aX (aj 0xF 0x33)))
  (aq (dM 0x32 0xF rfl)
  (aq (dM 0x32 0x2B rfl)
  (aq (dM 0x32 (sY (CX:=bM) (E:=E0) MK1 G1 hr rfl mR b1 .nil aX 0x38) rfl)
  (aq (dM 0x32 (dN aC) rfl)
  (aq (dM 0x32 (dN (aj (cP (aj aA (aj (ji (CX:=bM) (E:=E0) (bA 0xD rfl) T.cl m2 G2 hr5 b2 .nil aX) aC))) aC)) rfl)
  (aG (gJ A0U rfl (uN (a2w (bF G3 hr5 rfl M3.m M3.k M3.b .nil aX (aj 0x5D aC)))) (nu rfl (bT (bC (i:=4) qJ.nd rfl 0x7) (bT (bC (i:=5) qJ.nd rfl 0x7) gM)))
   (aq (gJ A0U rfl (eY (pv 5)) (bC (i:=6) qJ.nd rfl 0x7)
    (aG (bL (iz A0z A0Q A0R cQ 0xD (aj (cP (aj (pv 6) (aj (bF (CX:=bM) (E:=E0) G4 hr rfl M4.m M4.k M4.b .nil aX (aj 0xD (aj (pv 6) aC))) aC))) aC)))))
   (aG (bL (bU (CX:=bM) (E:=E0) 0x32 TC.cl m5 G5 hr b5 .nil aX (aj (pv 4) aC)))))))))))),?_⟩
 refine ⟨_,rfl,_,rfl,n,b,rfl,n1,n2,b1',b2',?_⟩;refine ⟨_,rfl,_,rfl,c,CC,dc,_,rfl,hc,TC.cl,TC.n1,A0w rfl,?_⟩;generalize hH1:upd _ c _=H1;have c1:H1 c=some (.ins CC dc [0x56]):=by rw [<- hH1,ao];rfl
 have f1:∀ a u,a≠c->H a=some u->H1 a=some u:=fun a u h1 h2=>by rw [<- hH1,ak h1];exact h2
 clear hH1;refine ⟨_,rfl,_,rfl,c,CC,dc,_,rfl,c1,TC.cl,TC.n2,A0w rfl,?_⟩;generalize hH2:upd _ c _=H2;have c2:H2 c=some (.ins CC dc [0x56,("coins",.int b)]):=by rw [<- hH2,ao];rfl
 have f2:∀ a u,a≠c->H a=some u->H2 a=some u:=fun a u h1 h2=>by rw [<- hH2,ak h1];exact f1 a u h1 h2
 clear hH2 f1 c1;have nc:∀ {a:Addr},H2 a=none->a≠c:=fun h z=>by rw [z,c2] at h;cases h
 refine ⟨_,rfl,fun z dz hz0 hdz0 hnz=>⟨z,dz,n,rfl,ao,n1,n2,fun m q t0 H3 hmz hmd hwd kx RM SP FR fr0=>⟨rfl,?_⟩⟩⟩;subst hmz;subst hmd;have s3:Same H2 H3:=fun a u ha=>kx a u (au ha hz0) (by rw [ak (au ha hz0),ak (au ha hdz0)];exact ha);have qo:=fun a ha=>Xf (FR a ha);have qx0:=qo q.x 0xA;have qk0:=qo m.k 0xA;clear kx FR;have c3:=s3 _ _ c2;refine ⟨_,rfl,c,CC,dc,_,rfl,c3,TC.cl,TC.n3,A0w rfl,?_⟩;have R4:=RM.store (fs':=[0x56,("coins",.int b),("realm",.ref m.z)]) c3 (nc hz0) (nc qx0) (nc qk0);generalize xM:upd _ c _=H4;have eH4:upd H3 c (.ins CC dc [0x56,("coins",.int b),("realm",.ref m.z)])=H4:=xM;rw [eH4] at R4;have c4:H4 c=some (.ins CC dc [0x56,("coins",.int b),("realm",.ref m.z)]):=by rw [<- xM,ao];rfl
 have f4:∀ a u,a≠c->H3 a=some u->H4 a=some u:=fun a u h1 h2=>by rw [<- xM,ak h1];exact h2
 have t4:jF H4 t0 0 1:=f4 _ _ (aZ fr0 c3 0x6) fr0;clear xM eH4 RM;refine ⟨small 0xA,fun jl hjl=>?_⟩
 apply 0o1 H4 jl hjl sj j5 H5
 have c5:=sj _ _ c4;refine ⟨_,rfl,c,CC,dc,_,rfl,c5,TC.cl,TC.n4,A0w rfl,?_⟩;have R6:=(R4.same sj).store (fs':=[0x56,("coins",.int b),("realm",.ref m.z),("judged",.ref jl)]) c5 (nc hz0) (nc qx0) (nc qk0);generalize Xh:upd _ c _=H6;have eH6:upd H5 c (.ins CC dc [0x56,("coins",.int b),("realm",.ref m.z),("judged",.ref jl)])=H6:=Xh;rw [eH6] at R6;have c6:H6 c=some (.ins CC dc [0x56,("coins",.int b),("realm",.ref m.z),("judged",.ref jl)]):=by rw [<- Xh,ao];rfl
 have f6:∀ a u,a≠c->H5 a=some u->H6 a=some u:=fun a u h1 h2=>by rw [<- Xh,ak h1];exact h2
 have j6:H6 jl=some 0x75:=f6 _ _ (aZ j5 c5 0x6) j5;have t6:jF H6 t0 0 1:=f6 _ _ (aZ (sj _ _ t4) c5 0x6) (sj _ _ t4);have f26:∀ a u,a≠c->H2 a=some u->H6 a=some u:=fun a u h1 h2=>f6 a u h1 (sj _ _ (f4 a u h1 (s3 _ _ h2)));have jl0:H2 jl=none:=by
  cases hq:H2 jl with
  | none=>rfl
  | some u =>
   by_cases e:jl=c
   ·rw [e,c4] at hjl;cases hjl
   ·rw [f4 jl u e (s3 _ _ hq)] at hjl;cases hjl
 clear Xh eH6 R4 c5 j5 t4 sj hjl;have PU0:=qI (Uv n t0 ls n1 n2) rfl rfl rfl;have fr6:∀ e∈[Fd n t0],jF H6 e.ta e.due.1 e.due.2:=fun e he=>by rw [A0c.mp he];exact t6
 refine ⟨_,rfl,c,CC,dc,_,_,rfl,c6,TC.cl,TC.n3,rfl,m.z,CR,m.dz,_,_,rfl,R6.o,TR.cl,TR.n1,rfl,q.x,q.dx,_,rfl,R6.L.o,rfl,?_⟩;dsimp only [nH,List.cons_append,List.nil_append];refine ⟨q.x,q.dx,q.a1,q.a2,q.a3,q.a4,q.a5,_,_,_,_,_,n,rfl,R6.L,rfl,n1,n2,fun y dy y1 y2 y3 y4 y5 H7 s7 L7 hy0 hy1 hy2 hy3 hy4 hy5 _=>⟨small 0xA,fun t ht=>⟨small 0xA,fun ll hll=>?_⟩⟩⟩;have st:=aM ht 0x77;have t7:(upd H7 t 0x77) t=some 0x77:=ao;generalize upd H7 t 0x77=H8 at st t7 hll ⊢
 apply 0o1 H8 ll hll sl l9 H9
 have Ux:H6 ll=none:=(s7.trans st).free hll;have s9:Same H6 H9:=s7.trans (st.trans sl);have c9:=s9 _ _ c6;have t9:=sl _ _ t7;refine ⟨_,rfl,c,CC,dc,_,rfl,c9,TC.cl,TC.n5,A0w rfl,?_⟩;have nyc:y≠c:=fun z=>by rw [z,c6] at hy0;cases hy0
 have R10:=(R6.same s9).store (fs':=Fg n b m.z jl ll) c9 (nc hz0) (nc qx0) (nc qk0);have K10:Kept C _ (adL y dy y1 y2 y3 y4 y5 n) [Fd n t0] [] []:=Kept.store (fs':=Fg n b m.z jl ll) ⟨L7.same (st.trans sl),fun e he=>s9 _ _ (fr6 e he),PU0.E.P.W,PU0.E.M,PU0.E.O,A5i _⟩ c9 nyc;have A0:qH CC CR CK C (upd H9 c 0x5A) c dc jl ll m q (W0 (Fd n t0)) ls (adL y dy y1 y2 y3 y4 y5 n) [Fd n t0] [] [t] [] [] [] n b:=by
  have tk:∀ {a:Addr}{xs:List V},H9 a=some 0x35->(upd H9 c 0x5A) a=some 0x35:=fun h=>by rw [ak (aZ h c9 0x6)];exact h
  have lk:∀ {a:Addr}{xs:List V},H9 a=some 0x67->(upd H9 c 0x5A) a=some 0x67:=fun h=>by rw [ak (aZ h c9 0x6)];exact h
  refine ⟨ao,R10,SP,PU0,fun e he=>tk (s9 _ _ (fr6 e he)),⟨lk l9,fun a ha=>?_,[],t,0,rfl,tk t9⟩,K10,⟨lk (s9 _ _ j6),rfl,rfl,fun i t' r' w' e1 _ _=>by simp at e1⟩,au j6 Ux,A0f _,nyc,⟨(au R6.L.o hy0).symm,fun a ha hm=>?_⟩,nc hz0,nc qx0,nc qk0⟩
  ·rw [A0c.mp ha];exact ⟨0,y,tk t9,by decide⟩
  ·have h0:H6 a=none:=by
    simp only [adL,A0d,A0u,A1m] at ha;rcases ha with z | z | z | z | z <;> (rw [z];assumption)
   exact R6.Uu hm h0
 have Vu:∀ a u,a≠c->H a=some u->(upd H9 c 0x5A) a=some u:=fun a u h1 h2=>by rw [ak h1];exact s9 _ _ (f26 a u h1 (f2 a u h1 h2))
 have hd:upd H9 c (.ins CC dc (nG "lands" (.ref ll) [0x56,("coins",.int b),("realm",.ref m.z),("judged",.ref jl)]))=upd H9 c 0x5A:=rfl;rw [hd];have ll2:H2 ll=none:=by
  cases hq:H2 ll with
  | none=>rfl
  | some u =>
   by_cases e:ll=c
   ·rw [e,c6] at Ux;cases Ux
   ·rw [f26 ll u e hq] at Ux;cases Ux
 generalize upd H9 c 0x5A=HA at A0 Vu R10 K10 ⊢;clear c9 t9 l9 s9 sl st t7 s7 L7 R6 c6 j6 t6 f26 fr6 K10 R10 hd f6 f4 c4 c3 s3;have fH:∀ {a:Addr},H2 a=none->H a=none:=fun {a} h=>by
  cases hq:H a with
  | none=>rfl
  | some u =>
   by_cases e:a=c
   ·rw [e,c2] at h;cases h
   ·rw [f2 a u e hq] at h;cases h
 replace jl0:=fH jl0
 replace ll2:=fH ll2
 replace qo:∀ a∈jV m q,H a=none:=fun a ha=>fH (qo a (iT _ (iT _ ha)))
 have hlA:bO K HA l 0x2E:=by
  rcases hl with (h | ⟨o,h⟩) | h
  ·exact .inl (.inl (Vu _ _ (aZ h hc 0x6) h))
  ·exact .inl (.inr ⟨o,Vu _ _ (aZ h hc 0x6) h⟩)
  ·exact .inr h
 have ROA:iQ HA all dat:=⟨fun a ha=>⟨Vu _ _ (aZ (RO.1 a ha).1 hc 0x6) (RO.1 a ha).1,(RO.1 a ha).2⟩,RO.2⟩;refine ⟨_,rfl,l,all,dat,rfl,hlA,by lia,ROA,fun D gs out HB sB qR hDB GA GO hp hu fg=>⟨D,_,rfl,hDB,fun oD=>⟨D,oD,_,rfl,ao,?_⟩⟩⟩;have nDA:∀ {a:Addr}{u:HO},HA a=some u->a≠D:=fun h=>au h qR;have sF:Same HA (upd HB D 0x80):=fun a u h=>by rw [ak (nDA h)];exact sB _ _ h
 have GF:KZ (upd HB D 0x80) gs:=fun x hx=>by rw [ak (aZ (GA x hx) hDB 0x6)];exact GA x hx
 have DF:(upd HB D 0x80) D=some 0x80:=ao;generalize upd HB D 0x80=HF at sF GF DF ⊢;have AF:=A0.same sF;have S0:Xu H HF c D 0x80 gs jl ll:=⟨fun a v h1 h2=>sF _ _ (Vu a v h1 h2),DF,GF,fun x hx=>⟨fun z=>(by have:=fg x hx;rw [z,A0.J.l] at this;cases this),fun z=>(by have:=fg x hx;rw [z,A0.Ld.l] at this;cases this)⟩,ll2⟩;have Xv:∀ r∈out,H r=some (.tup (dat r))/\Ak dat lE lF ls r:=fun r hr=>⟨(RO.1 r (hp.mem_iff.mp hr)).1,RW r (hp.mem_iff.mp hr)⟩;have ol:out.length<=30:=by rw [hp.length_eq];exact h30
 have cat:=GO.cat;have gm:∀ x∈gs,∀ r∈x.rs,r∈out:=fun x hx r hr=>by rw [<- cat];exact List.mem_flatten.mpr ⟨_,A0j.mpr ⟨x,hx,rfl⟩,hr⟩
 clear sF GF DF A0 Vu nDA GA sB hDB hlA ROA fg qR;refine O8 (a:=D) (o:=oD) (kvs:=qT gs) (fun i σ Hx=>∃ (u4 u5 u6:Option V) (ll:Addr) (W:Wo) (ek:List aN) (kk ws:List Str) (qk:Ad) (jL ts:List Addr),σ=[some (.ref c),some (.int n),some (.int b),some (.ref l),u4,u5,u6]/\Xu H Hx c D 0x80 gs jl ll /\
   qH CC CR CK C Hx c dc jl ll m q W ls qk ek kk jL ts (rP gs i) ws n b/\JL (W0 (Fd n t0)) ((rP gs i).map fun a=>(lE a,lF a)) ws W/\ek.map core=W.es.map core)
  ⟨none,none,none,ll,_,_,_,_,_,_,_,rfl,S0,AF,.nil,rfl⟩ (fun i σ Hx _ h=>by obtain ⟨_,_,_,_,_,_,_,_,_,_,_,_,h,_⟩:=h;exact h.fz) ?_ ?_
 ·rintro i kv σ Hx p hkv ⟨u4,u5,u6,ll,W,ek,kk,ws,qk,jL,ts,rfl,SX,AX,JX,_⟩ hp0;unfold qT at hkv;rw [jW] at hkv;obtain ⟨x,hx,rfl⟩:=A0v.mp hkv;have hxm:=vY hx;have sp:=aM hp0 (.tup [V.int x.d,V.ref x.g]);have hpt:(upd Hx p (.tup [V.int x.d,V.ref x.g])) p=some (.tup [V.int x.d,V.ref x.g]):=ao;refine ⟨p,_,rfl,cj.of hpt,rfl,_,_,rfl,_,_,rfl,rfl,?_⟩;have SY:Xu H (upd Hx p (.tup [V.int x.d,V.ref x.g])) c D 0x80 gs jl ll:=⟨fun a v h1 h2=>sp _ _ (SX.old a v h1 h2),sp _ _ SX.fz,fun y hy=>sp _ _ (SX.g y hy),SX.gn,SX.l0⟩;have AY:=AX.same sp
  show OJ _ _ _ _ (upd Hx p (.tup [V.int x.d,V.ref x.g]))
  generalize upd Hx p (.tup [V.int x.d,V.ref x.g])=HY at SY AY ⊢;clear sp hpt hp0 SX AX;refine ⟨_,rfl,x.g,rfl,⟨_,bO.of (SY.g x hxm)⟩,?_⟩;refine gq (K:=K) (a:=x.g) (xs:=x.rs.map V.ref) (fun j σ Hz=>∃ (u6:Option V) (W:Wo) (ws:List Str) (ts:List Addr),σ=[some (.ref c),some (.int n),some (.int b),some (.ref l),some (.int x.d),some (.ref x.g),u6]/\Xu H Hz c D 0x80 gs jl ll /\
    qH CC CR CK C Hz c dc jl ll m q W ls qk ek kk jL ts (rP gs i++x.rs.take j) ws n b/\JL (W0 (Fd n t0)) ((rP gs i++x.rs.take j).map fun a=>(lE a,lF a)) ws W)
   ⟨_,W,ws,ts,rfl,SY,by rw [List.take_zero,A1u];exact AY,by rw [List.take_zero,A1u];exact JX⟩ (fun j σ Hz _ h=>by obtain ⟨_,_,_,_,_,h,_⟩:=h;exact bO.of (h.g x hxm)) ?_ ?_
  ·rintro j v σ Hz hv ⟨u6,W,ws,ts,rfl,SZ,AZ,JZ⟩;rw [jW] at hv;obtain ⟨r,hr,rfl⟩:=A0v.mp hv;obtain ⟨hrt,Vv⟩:=Xv r (gm x hxm r (vY hr));rw [Vv.e] at hrt;have hrz:=SZ.old r _ (aZ hrt hc 0x6) hrt;have tk:x.rs.take (j+1)=x.rs.take j++[r]:=by rw [A1f,hr];rfl
   have plen:(rP gs i++x.rs.take j).length<=30:=by
    have h1:=Em (gs:=gs) (i+1);rw [rQ hx,cat,iw] at h1;rw [iw,A0G];lia
   refine ⟨_,rfl,c,CC,dc,_,_,rfl,AZ.o,TC.cl,TC.n4,rfl,.inl ⟨rfl,_,bO.of AZ.J.l⟩,_,rfl,_,rfl,c,CC,dc,_,_,rfl,AZ.o,TC.cl,TC.n3,rfl,_,rfl,?_⟩;refine ⟨m,q,W,ls,_,r,lF r,lE r,n,rfl,AZ.R,AZ.S,AZ.P,AZ.fr,Vv.ok,Vv.tx,hls,by lia,hrz,fun w' W' H' J R' fr' o=>⟨small 0xA,fun t ht=>?_⟩⟩;have nt:=aM ht 0x8D;have jt:=nt _ _ (AZ.R.out o 0x21 AZ.J.l);refine ⟨jl,_,_,rfl,rfl,jt,bR (by rw [bV,AZ.J.lt];lia),?_⟩;refine ⟨_,W',ws++[w'],ts++[t],rfl,⟨fun a v h1 h2=>?_,?_,fun y hy=>?_,SZ.gn,SZ.l0⟩,?_,?_⟩
   ·have hz:=SZ.old a v h1 h2;rw [ak (au h2 jl0)];exact nt _ _ (o a v (fun hm=>by rw [qo a hm] at h2;cases h2) hz)
   ·have R:=AZ.R;have h:=SZ.fz;rw [ak (aZ h AZ.J.l 0x6)];exact nt _ _ (R.out o 0x21 h)
   ·rw [ak (SZ.gn y hy).1];exact nt _ _ (AZ.R.out o 0x21 (SZ.g y hy))
   ·rw [tk,<- A2P];exact AZ.judge Vv.ok Vv.tx hls J R' fr' o ht
   ·rw [tk,<- A2P,jw];exact .snoc JZ J
  ·rintro σ Hz ⟨u6,W,ws,ts,rfl,SZ,AZ,JZ⟩;rw [bV,A1d,<- rQ hx] at AZ JZ;have hday:x.d<=9999:=by
    obtain ⟨a,ha⟩:=List.exists_mem_of_ne_nil _ (GO.ne x hxm);have h1:=GO.day x hxm a ha;obtain ⟨_,RWa⟩:=Xv a (gm x hxm a ha);rw [RWa.e] at h1;have h2:iu (Ro.vs (lE a) (lF a))=lE a:=by cases lF a <;> rfl
    rw [h2] at h1;rw [<- h1];exact RWa.d1
   have ln1:jL.length+1<=(rP gs (i+1)).length+1:=by
    have h1:=AY.ln;have h2:0<x.rs.length:=List.length_pos_iff.mpr (GO.ne x hxm);rw [rQ hx,iw];lia
   have pl2:=Em (gs:=gs) (i+1);rw [cat] at pl2;refine ⟨_,rfl,c,dc,_,rfl,AZ.o,rfl,_,rfl,?_⟩;refine ⟨c,dc,jl,ll,m,q,W,qk,ek,kk,jL,n,b,x.d,rfl,AZ.o,AZ.R,AZ.P.E.P.W,AZ.P.E.M,AZ.P.E.O,AZ.fr,AZ.P.E.B.val AZ.P.E.P.W.nd,n1,n2,hday,AZ.Ld,AZ.K,by lia,fun Ie Ek yq ek' Vt H' fr o' L' K' ec len hl' hq'=>?_⟩;refine ⟨_,_,_,Ie,W,ek',Vt,ws,yq,Ek,ts,rfl,⟨fun a v h1 h2=>fr a v h1 (au h2 SZ.l0) (SZ.old a v h1 h2),fr _ _ (aZ SZ.fz AZ.o 0x6) (aZ SZ.fz AZ.Ld.l 0x6) SZ.fz,fun y hy=>fr _ _ (aZ (SZ.g y hy) AZ.o 0x6) (SZ.gn y hy).2 (SZ.g y hy),fun y hy=>⟨(SZ.gn y hy).1,?_⟩,?_⟩,AZ.day fr o' L' K' 0x2 hl' hq',JZ,ec⟩
   ·rcases hl' with e | e
    ·rw [e];exact (SZ.gn y hy).2
    ·exact au (SZ.g y hy) e
   ·rcases hl' with e | e
    ·rw [e];exact SZ.l0
    ·cases hq2:H Ie with
     | none=>rfl
     | some v =>
      by_cases ec2:Ie=c
      ·rw [ec2,AZ.o] at e;cases e
      ·rw [SZ.old Ie v ec2 hq2] at e;cases e
 ·rintro σ Hx ⟨u4,u5,u6,ll,W,ek,kk,ws,qk,jL,ts,rfl,SX,AX,JX,EC⟩;have e:(qT gs).length=gs.length:=bV ..;rw [e,Uw,cat] at AX JX;exact k jl ll m q W qk ek kk jL ts out ws t0 Hx SX.old hp hu JX AX EC
abbrev Uy:Stmt:=inClass (top 44) 5
structure ModB (K:PySem.W.Frag) (P:Params) (mg:Str->Option Value):Prop where
 bounds:∃ a b1 b2 b3 b4 b5 b6 b7,mg "BOUNDS"=some 0x3C/\KD K P a [("day",.ref b1),("acres",.ref b2),("service",.ref b3),("bears",.ref b4),("edge",.ref b5),("number",.ref b6),("entry",.ref b7)]/\KTp K b4 [.int 0,.int 99]
inductive Ih (vs:List V) (H:Hp) (Q:VK) (cD:XK):Prop
 | mk (n:Int) (_:vs=[.str "bears",.int n]) (_:0<=n) (_:n<=99) (_:Q (.bl true) H):Ih vs H Q cD
theorem Xw {r:Addr}{Q:VK} (hp:H p=some 0x35) (hr:H r=some (.tup ys)) (fx:xs.all ig=true) (fy:ys.all ig=true) (k:Q (.bl (decide (xs=ys))) H):ZR 0x48 0x71 H Q:=by
 refine ⟨.tuple (xs.map gG),.tuple (ys.map gG),.tup hp (jQ xs fx),.tup hr (jQ ys fy),jq xs fx,jq ys fy,?_,?_⟩
 ·have:=nY xs
  show PyData.depthAll (xs.map gG)+1<=8
  lia
 ·show Q (.bl (PyData.eqvAll (xs.map gG) (ys.map gG))) H
  rw [kJ xs ys fx fy];exact k
inductive Ii (CC:Addr) (vs:List V) (H:Hp) (Q:VK) (cD:XK):Prop
 | mk (c dc z jl ll:Addr) (n b:Int) (ts pr:List Addr) (ws:List Str) (dat:Addr->List V) (i:Nat) (r:Addr) (w:Str) (_:vs=[.ref c,.ref r]) (_:H c=some (.ins CC dc (Fg n b z jl ll))) (_:fP H jl ts pr ws) (_:(∀ a∈pr,H a=some (.tup (dat a))/\(dat a).all ig=true)) (_:(pr.map dat).Nodup) (_:pr[i]?=some r) (_:ws[i]?=some w) (_:Q (.str w) H):Ii CC vs H Q cD
theorem Uz (F:fK K "fits" "fits" JT f fd) (mo:ModB K w.params mg):aJ P w K mg base bM 1 f fd ["sort", "piece"] Ih:=by
 obtain ⟨aB,b1,b2,b3,b4,b5,b6,b7,mB,kB,t2⟩:=mo.bounds;refine F.ok rE 0x1 0x3;obtain ⟨n,rfl,h1,h2,k⟩:=h;refine ⟨_,aq (bN (aQ JD 0x32 (cR rfl mB rfl (v:=.ref aB)) 0x11)
   (aq (yG (aP JF (cR rfl mB rfl (v:=.ref aB)) 0x32 0x4) (nu rfl (bT (bC (i:=2) rE.nd rfl 0x7) (bT (bC (i:=3) rE.nd rfl 0x7) gM))))
   (aG (aV (BK Bw Bw 0x2B 0xF 0x5D)))) aU) cA,?_⟩
 refine ⟨_,rfl,_,aB,_,rfl,rfl,kB,_,rfl,dU ?_⟩;refine ⟨_,rfl,aB,_,_,_,rfl,rfl,kB,rfl,?_⟩;refine ⟨b4,_,rfl,t2.sq _,rfl,_,_,rfl,_,_,rfl,rfl,?_⟩;refine ⟨_,rfl,_,rfl,_,_,rfl,rfl,_,rfl,?_⟩;rw [A0k h1];refine dU ⟨_,rfl,_,_,rfl,rfl,?_⟩
 show Q (.bl (decide (n<=99))) H
 rw [A0k h2];exact k
theorem UG:aO ["acres", "bears"] ["acres", "bears"] (aH Ah):=0x0
theorem Od (F:fK K "check_land" "check_land" Ah f fd)  (G1:aJ P w K mg base bM 2 g1 d1 ["acres"] JV) (M1:Ms K mg "check_acres" g1 d1 ["acres"])
  (G2:aJ P w K mg base bM 1 g2 d2 ["sort", "piece"] Ih) (M2:Ms K mg "fits" g2 d2 ["sort", "piece"]):aJ P w K mg base bM 3 f fd ["acres", "bears"] vO:=by
 refine F.ok UG 0x1 0x3;obtain ⟨n,b,rfl,n1,n2,b1,b2,k⟩:=h;have hr1:cM 1 _:=hr.mono 0x5;refine ⟨_,aq (bL (bF G1 hr rfl M1.m M1.k M1.b .nil aX 0x82))
  (aG (bN (gP (dY (bF G2 hr1 rfl M2.m M2.k M2.b .nil aX (aj aK 0x38)))) cA aU)),?_⟩
 exact ⟨_,rfl,n,rfl,n1,n2,_,rfl,b,rfl,b1,b2,_,rfl,cu k⟩
theorem Ij:aO ["self", "row", "charter", "word"] ["self", "row"] (aH Uy):=0x0
theorem Xx (TC:o9 K CC) (F:fK K "verdict" "Court.verdict" Uy f fd):aJ P w K mg base bM 2 f fd ["self", "row"] (Ii CC):=by
 refine F.ok Ij 0x1 0x3;obtain ⟨c,dc,z,jl,ll,n,b,ts,pr,ws,dat,i,r,w0,rfl,hc,J,hd,nd,hi,hw,k⟩:=h;refine ⟨_,aq (gJ A0U rfl (eY 0xD) (nu rfl (bT (bC (i:=2) Ij.nd rfl 0x7) (bT (bC (i:=3) Ij.nd rfl 0x7) gM)))
  (aG (bN (aQ (ZS (u64 hr)) 0x2B 0xF 0x61) (aG (aV 0x5D)) aU))) cA,?_⟩
 have hil:=(A0l.mp hi).1;have rm:=vY hi;refine ⟨_,rfl,c,CC,dc,_,_,rfl,hc,TC.cl,TC.n4,rfl,jl,rfl,⟨_,bO.of J.l⟩,?_⟩;refine gq (K:=K) (a:=jl) (xs:=ts.map V.ref) (fun j σ Hx=>∃ (u2 u3:Option V),σ=[some (.ref c),some 0x71,u2,u3]/\Hx=H/\j<=i)
  ⟨none,none,rfl,rfl,A0X _⟩ (fun j σ Hx _ h=>by obtain ⟨_,_,_,h,_⟩:=h;rw [h];exact bO.of J.l) ?_ ?_
 ·rintro j v σ Hx hv ⟨u2,u3,rfl,rfl,hji⟩;rw [jW] at hv;obtain ⟨t,ht,rfl⟩:=A0v.mp hv;obtain ⟨p,hp⟩:∃ p,pr[j]?=some p:=⟨_,ju 0x2⟩;obtain ⟨w1,hw1⟩:∃ w1,ws[j]?=some w1:=⟨_,ju (by rw [J.lw];lia)⟩;have tt:=J.at' j t p w1 ht hp hw1;have pm:=vY hp;refine ⟨t,_,rfl,cj.of tt,rfl,_,_,rfl,_,_,rfl,rfl,?_⟩;refine ⟨_,rfl,_,rfl,Xw (hd p pm).1 (hd r rm).1 (hd p pm).2 (hd r rm).2 ⟨_,rfl,iU (fun e=>?_) (fun e=>?_)⟩⟩
  ·have ed:dat p=dat r:=rT e;have a:(pr.map dat)[j]?=some (dat r):=by rw [jW,hp,<- ed];rfl
   have a2:(pr.map dat)[i]?=some (dat r):=by rw [jW,hi];rfl
   have hl:j<(pr.map dat).length:=by rw [bV];lia
   have eij:=(List.getElem?_inj hl nd).mp (a.trans a2.symm);subst eij;rw [hw] at hw1;injection hw1 with hw1;subst hw1;exact ⟨_,rfl,k⟩
  ·refine ⟨_,_,rfl,rfl,?_⟩
   by_cases eij:j=i
   ·subst eij;rw [hi] at hp;injection hp with hp;subst hp;exact absurd (A0k rfl) e
   ·lia
 ·rintro σ Hx ⟨u2,u3,rfl,rfl,hji⟩;rw [bV,J.lt] at hji;exact absurd hil 0x2
end
abbrev a04:Stmt:=top 57
theorem qK (h:Str) (l:List Str):inV (V.str h) (l.map V.str)=decide (h∈l):=by
 unfold inV
 induction l with
 | nil=>rfl
 | cons x r ih =>
  rw [A0h,A2y,ih]
  show ((x==h)||decide (h∈r))=_
  rw [A1n,Bool.or_eq_true,A1M,A1M,A0d,A3N]
  constructor
  ·rintro (e | e)
   ·exact .inl e.symm
   ·exact .inr e
  ·rintro (e | e)
   ·exact .inl e.symm
   ·exact .inr e
theorem jM (l:List Str):(l.map V.str).all pR=true:=by
 rw [List.all_map];exact A1I.mpr fun x _=>rfl
theorem oA {k:Str}{b:Bool}{A:Prop} (h:decide (k∈ls)=b) (g:if b=true then A else B):if (if (false:Bool)=true then !inV (V.str k) (ls.map V.str) else inV (V.str k) (ls.map V.str))=true then A else B:=by
 rw [A0e A0o,qK,h];exact g
theorem rR {k l:Str}{b:Bool}{A:Prop} (h:decide (k=l)=b) (g:if b=true then A else B):if decide (V.str k=V.str l)=true then A else B:=by
 rw [gC,h];exact g
theorem UJ {k l:Str}{b:Bool}{A:Prop} (h:decide (k=l)=b) (g:if (!b)=true then A else B):if (!decide (V.str k=V.str l))=true then A else B:=by
 rw [gC,h];exact g
theorem Al {h:Str}{A:Prop} (h1:h∈l->A) (h2:h∉l->B):if (if (false:Bool)=true then !inV (V.str h) (l.map V.str) else inV (V.str h) (l.map V.str))=true then A else B:=by
 rw [A0e A0o,qK];exact iU (fun c=>h1 (rT c)) fun c=>h2 fun z=>c (A0k z)
def Xz:TT:=fun _ _ _=>False
theorem Oe:PT X e Xz:=fun _ _ _ _ _ _ h=>h.elim
abbrev Bx (q:Ad) (H:Hp) (W:Wo):Prop:=BxL H q.kvs q.he q.dd q.lg W.hs [] W.gone
inductive UL (vs:List V) (H:Hp) (Q:VK) (cD:XK):Prop
 | mk (q:Ad) (W:M.Wo) (r:Addr) (ro:M.Ro) (dy:Int) (_:vs=[.ref q.B,.ref r]) (_:Ap q) (_:Bk q H W.es W.ks) (_:Bx q H W) (_:(nms W.es).Nodup) (_:H r=some (.tup (Ro.vs dy ro))) (_:∀ (z:Str) (H':Hp),Same H H'->Wd2 W dy ro z->Q (.str z) H'):UL vs H Q cD
theorem En:aO ["_law_book_here", "_law_row_here", "_law_kind", "_law_man"] A5H (aH a04):=0x0
theorem a05 (F:fK K "_law_why" "_law_why" a04 f fd):aJ P w K mg base bM 1 f fd A5H UL:=by
 refine F.ok En 0x1 0x3;obtain ⟨q,W,r,ro,dy,rfl,ap,b0,x0,nd,hx,k⟩:=h;refine ⟨_,(aq (aR (i:=2) En.nd rfl 0x7 0x19)
  (aq (bN (PW.pt (ni (aQ gU 0x2B (cP (aj aK (aj aK (aj aK (aj aK aC))))) 0x11) (jY (yF (Mp 0x17 0x19 0x1A) 0x11)))) (aG (aV aK)) aU)
  (aq (bN (PW.pt (ni (aQ gU 0x2B (cP (aj aK (aj aK aC))) 0x11) (jY (aQ gU 0x19 0x1A 0x11)))) (aG (aV aK)) aU)
  (aq (aR (i:=3) En.nd rfl 0x7 0x19)
  (aq (bN (aQ gU 0x2B (cP (aj aK (aj aK aC))) 0x11) (aG (aR (i:=3) En.nd rfl 0x7 0x19)) aU)
  (aq (bN (aQ dI 0x2B aK 0x61) (aG (aR (i:=3) En.nd rfl 0x7 0x19)) aU)
  (aq (bN (PW.pt (ni (aQ nF 0x2B aK 0x61) (jY (aQ gU 0x5D 0x1A 0x11)))) (aG (aV aK)) aU)
  (aq (bN (PW.pt (ni (aQ gU 0x2B (cP (aj aK (aj aK aC))) 0x11) (jY (aQ Ph 0x19 (bf 0x17 0x1A 0x19 0x4) 0x61)))) (aG (aV aK)) aU)
  (aq (bN (PW.pt (ni (aQ dI 0x2B aK 0x61) (jY Oe))) cA aU)
  (aG (aV aK))))))))))),?_⟩
 by_cases hg:Hj ro=true
 ·cases ro with
  | heir _ _=>cases hg
  | death _=>cases hg
  | grant e n m a s =>
  refine ⟨_,rfl,r,_,_,_,rfl,rfl,cj.of hx,aL (j:=0) rfl,?_⟩;refine ⟨_,rfl,small 0xA,fun t1 ht1=>⟨t1,_,rfl,.inr (cj.of ao),rfl,rfl,_,rfl,oA (k:="grant") (ls:=["grant", "part", "convey", "surrender"]) (b:=true) 0x8 ?_⟩⟩
  apply 0o1 H t1 ht1 s1 hk0 H1
  have b1:=b0.same s1;have x1:=s1 _ _ hx;refine dU ?_;refine ⟨_,rfl,r,_,_,_,rfl,rfl,cj.of x1,aL (j:=2) rfl,_,rfl,q.B,_,rfl,b1.gl,q.l,_,rfl,dW.k (k:=.inr e) b1.l,_,rfl,?_⟩;rw [nQ]
  by_cases he:e∈nms W.es
  rotate_left
  ·rw [A0p he];exact dU (k _ _ s1 (.inl ⟨by decide +kernel,.no he⟩))
  rw [A0k he];refine cu ?_;obtain ⟨y,hy,rfl⟩:=eZ he;refine ⟨_,rfl,small 0xA,fun t2 ht2=>⟨t2,_,rfl,.inr (cj.of ao),rfl,rfl,_,rfl,oA (k:="grant") (ls:=["grant", "part"]) (b:=true) 0x8 ?_⟩⟩
  apply 0o1 H1 t2 ht2 n2 hk0 H2
  have s2:=s1.trans n2;have b2:=b1.same n2;have x2:=n2 _ _ x1;refine dU ?_;refine ⟨_,rfl,r,_,_,_,rfl,rfl,cj.of x2,aL (j:=3) rfl,_,rfl,q.B,_,rfl,b2.gk,q.kn,_,rfl,.inl (bO.of b2.k),rfl,jM _,_,rfl,Al (fun hk=>?_) (fun hn=>?_)⟩
  ·exact k _ _ s2 (.inl ⟨by decide +kernel,.tk he hk⟩)
  refine ⟨_,rfl,r,_,_,_,rfl,rfl,cj.of x2,aL (j:=2) rfl,?_⟩;refine ⟨_,rfl,small 0xA,fun t3 ht3=>⟨t3,_,rfl,.inr (cj.of ao),rfl,rfl,_,rfl,oA (k:="grant") (ls:=["grant", "part"]) (b:=true) 0x8 ?_⟩⟩
  apply 0o1 H2 t3 ht3 n3 hk0 H3
  have s3:=s2.trans n3;have b3:=b2.same n3;have x3:=n3 _ _ x2;refine dU ?_;refine ⟨_,rfl,r,_,_,_,rfl,rfl,cj.of x3,aL (j:=4) rfl,?_⟩;refine ⟨_,rfl,rfl,_,rfl,rR (b:=false) 0x8 (cu ?_)⟩;refine ⟨_,rfl,rfl,_,rfl,UJ (b:=false) 0x8 ?_⟩;refine dU ⟨_,rfl,_,rfl,q.B,_,rfl,b3.gx,q.dd,_,rfl,.inl (bO.of (x0.same s3).x),rfl,jM _,_,rfl,Al (fun hd=>?_) (fun hd=>?_)⟩
  ·exact k _ _ s3 (.inl ⟨by decide +kernel,.de he hn hd⟩)
  refine ⟨_,rfl,small 0xA,fun t4 ht4=>⟨t4,_,rfl,.inr (cj.of ao),rfl,rfl,_,rfl,oA (k:="grant") (ls:=["grant", "part"]) (b:=true) 0x8 ?_⟩⟩
  apply 0o1 H3 t4 ht4 n4 hk0 H4
  have s4:=s3.trans n4;have b4:=b3.same n4;have x4:=n4 _ _ x3;refine dU ?_;refine ⟨_,rfl,r,_,_,_,rfl,rfl,cj.of x4,aL (j:=5) rfl,_,rfl,q.B,_,rfl,b4.go,_,rfl,r,_,_,_,rfl,rfl,cj.of x4,aL (j:=2) rfl,q.o,_,rfl,WX b4.o nd hy,_,_,rfl,rfl,_,rfl,?_⟩;refine iU (fun hgt=>?_) (fun hle=>?_)
  ·exact k _ _ s4 (.inl ⟨by decide +kernel,.ac hy rfl hn hd (by have h:=hgt;simp only [A2a] at h;exact h)⟩)
  refine ⟨_,rfl,rfl,_,rfl,rR (b:=false) 0x8 (cu (cu ?_))⟩;exact k _ _ s4 (.inr ⟨rfl,y,hy,rfl,hn,hd,by have h:=hle;simp only [A2a] at h;lia⟩)
 ·obtain ⟨kd,z,h0,h2,e1,e2,e3,e4,e5,hv,hs⟩:∃ kd z:Str,(Ro.vs dy ro)[0]?=some (.str kd)/\(Ro.vs dy ro)[2]?=some (.str z)/\decide (kd∈(["grant", "part", "convey", "surrender"]:List Str))=false/\decide (kd∈(["grant", "part"]:List Str))=false/\decide (kd="convey")=false/\decide (kd="surrender")=false/\decide (kd="liege")=false/\(z∈W.gone->Jo W dy ro "dead" W)/\(z∉W.gone->St W ro):=by
   cases ro with
   | grant _ _ _ _ _=>exact absurd rfl hg
   | heir a b=>exact ⟨"heir",a,rfl,rfl,by decide +kernel,by decide +kernel,by decide +kernel,by decide +kernel,by decide +kernel,.hd,id⟩
   | death a=>exact ⟨"death",a,rfl,rfl,by decide +kernel,by decide +kernel,by decide +kernel,by decide +kernel,by decide +kernel,.dx,id⟩
  refine ⟨_,rfl,r,_,_,_,rfl,rfl,cj.of hx,aL (j:=0) h0,?_⟩;refine ⟨_,rfl,small 0xA,fun t1 ht1=>⟨t1,_,rfl,.inr (cj.of ao),rfl,rfl,_,rfl,oA (k:=kd) (ls:=["grant", "part", "convey", "surrender"]) e1 (cu (cu ?_))⟩⟩
  apply 0o1 H t1 ht1 s1 hk0 H1
  refine ⟨_,rfl,small 0xA,fun t2 ht2=>⟨t2,_,rfl,.inr (cj.of ao),rfl,rfl,_,rfl,oA (k:=kd) (ls:=["grant", "part"]) e2 (cu (cu ?_))⟩⟩;have s2:=s1.trans (aM ht2 (.tup [.str "grant",.str "part"]));generalize upd H1 t2 (.tup [.str "grant",.str "part"])=H2 at s2 ⊢;refine ⟨_,rfl,r,_,_,_,rfl,rfl,cj.of (s2 _ _ hx),aL (j:=2) h2,?_⟩;refine ⟨_,rfl,small 0xA,fun t3 ht3=>⟨t3,_,rfl,.inr (cj.of ao),rfl,rfl,_,rfl,oA (k:=kd) (ls:=["grant", "part"]) e2 (cu ?_)⟩⟩;have s3:=s2.trans (aM ht3 (.tup [.str "grant",.str "part"]));generalize upd H2 t3 (.tup [.str "grant",.str "part"])=H3 at s3 ⊢;refine ⟨_,rfl,rfl,_,rfl,rR e3 (cu ?_)⟩;refine ⟨_,rfl,rfl,_,rfl,UJ e4 ?_⟩;refine dU ⟨_,rfl,_,rfl,q.B,_,rfl,(b0.same s3).gx,q.dd,_,rfl,.inl (bO.of (x0.same s3).x),rfl,jM _,_,rfl,Al (fun hd=>?_) (fun hd=>?_)⟩
  ·exact k _ _ s3 (.inl ⟨by decide +kernel,hv hd⟩)
  refine ⟨_,rfl,small 0xA,fun t4 ht4=>⟨t4,_,rfl,.inr (cj.of ao),rfl,rfl,_,rfl,oA (k:=kd) (ls:=["grant", "part"]) e2 (cu (cu ?_))⟩⟩;have s4:=s3.trans (aM ht4 (.tup [.str "grant",.str "part"]));generalize upd H3 t4 (.tup [.str "grant",.str "part"])=H4 at s4 ⊢;refine ⟨_,rfl,rfl,_,rfl,rR e5 (cu (cu ?_))⟩;exact k _ _ s4 (.inr ⟨rfl,hs hd⟩)
abbrev Am:Stmt:=top 59
structure vQ (H:Hp) (B h d:Addr) (kvs hs:List 0x2C) (bd:List Str):Prop where
 o:H B=some 0x15
 vh:bH kvs (.inr "heirs")=some (.ref h)
 vd:bH kvs (.inr "dead")=some (.ref d)
 h:H h=some (.dK hs)
 d:H d=some (.lst (bd.map V.str))
 len:kvs.length<=20
theorem vQ.same {B h:Addr}{bd:List Str} (k:vQ H B h d kvs hs bd) (s:Same H H'):vQ H' B h d kvs hs bd:=⟨s _ _ k.o,k.vh,k.vd,s _ _ k.h,s _ _ k.d,k.len⟩
inductive a06 (K:W.Frag) (vs:List V) (H:Hp) (Q:VK) (cD:XK):Prop
 | mk (B h d:Addr) (kvs hs:List 0x18) (bd:List Str) (hv:Str->Option Str) (gv:Str->Bool) (man:Str) (_:vs=[.ref B,.str man]) (_:vQ H B h d kvs hs bd) (_:HV hs hv) (_:(∀ m,decide (m∈bd)=gv m)) (_:hs.length<=900) (_:∀ r H',Same H H'->Tk hv gv [man] (hv man) r->Q (rJ r) H'):a06 K vs H Q cD
theorem a07:aO ["_law_book_here", "_law_man", "_law_met", "_law_one"] A5J (aH Am):=0x0
theorem a2x (F:fK K "_law_taker" "_law_taker" Am f fd):aJ P w K mg base bM 1 f fd A5J (a06 K):=by
 refine F.ok a07 0x1 0x3;obtain ⟨B,hA,d,kvs,hs,bd,hv,gv,man,rfl,bk,hH,hG,hl,k⟩:=h;refine ⟨_,aq (aR (i:=2) a07.nd rfl 0x7 (dN 0x38))
  (aq (lG A0U (yF (yR 0x17 (aP bD 0x2B (uw pq aA) 0x4) 0x1A) 0x11)
   (aq (aR (i:=3) a07.nd rfl 0x7 (bf 0x17 0x1A (aP bD 0x2B (uw pq aA) 0x4) 0x4))
   (aq (bN (aQ gU 0x5D 0x2B 0x11) (aG (aV lZ)) aU)
   (aq (bN (aQ pW 0x5D 0x1A 0x11) (aG (aV 0x5D)) aU)
   (aG (bL (iz A0z A0Q A0R cQ 0x2B (aj 0x5D aC))))))))
  (aG (aV lZ))),?_⟩
 refine ⟨_,rfl,small 0xA,fun t ht=>?_⟩;have s1:=aM ht (.lst [V.str man]);refine ⟨fun m σ Hx=>∃ (l0:List Str) (y:Str) (u3:Option V),m=hs.length+1 - l0.length/\σ=[some (.ref B),some (.str man),some 0x70,u3]/\Same H Hx/\Hx t=some (.lst ((l0++[y]).map V.str))/\(l0++[y]).Nodup/\(∀ z∈l0,(hv z).isSome=true) /\
   ∀ r,Tk hv gv (l0++[y]) (hv y) r->Tk hv gv [man] (hv man) r,⟨_,[],man,none,rfl,rfl,s1,ao,by simp,(fun z hz=>nomatch hz),fun r h=>h⟩,?_⟩
 rintro m σ Hx ⟨l0,y,u3,rfl,rfl,sx,tx,nd,ha,hk⟩;have bx:=bk.same sx;have gh:dW Hx B (V.str "heirs") (some (.ref hA)):=by
  have:=dW.k (k:=.inr "heirs") bx.o;rw [bx.vh] at this;exact this
 have gd:dW Hx B (V.str "dead") (some (.ref d)):=by
  have:=dW.k (k:=.inr "dead") bx.o;rw [bx.vd] at this;exact this
 refine ⟨_,rfl,_,rfl,t,_,_,_,rfl,rfl,bO.of tx,tQ l0 y,_,rfl,B,_,rfl,gh,hA,_,rfl,dW.k (k:=.inr y) bx.h,_,rfl,?_⟩;have eq:bH hs (.inr y)=(hv y).map V.str:=hH y;cases hy:hv y with
 | none =>
  rw [hy] at eq;rw [eq];refine cu ?_;exact k none Hx sx (hk none (by rw [hy];exact .none))
 | some h =>
  rw [hy] at eq;rw [eq];have gy:dW Hx hA (V.str y) (some (V.str h)):=by
   have:=dW.k (k:=.inr y) bx.h;rw [eq] at this;exact this
  refine dU ⟨fun σ' H'=>∃ (wj:List Str) (y':Str) (u3:Option V),hs.length+1 - wj.length<hs.length+1 - l0.length/\σ'=[some (.ref B),some (.str man),some 0x70,u3]/\Same H H'/\H' t=some (.lst ((wj++[y']).map V.str))/\(wj++[y']).Nodup/\(∀ z∈wj,(hv z).isSome=true) /\
    ∀ r,Tk hv gv (wj++[y']) (hv y') r->Tk hv gv [man] (hv man) r,fun σ' H' ⟨wj,y',u3,q1,q⟩=>⟨_,q1,wj,y',u3,rfl,q⟩,?_⟩
  refine ⟨_,rfl,B,_,rfl,gh,_,rfl,_,rfl,t,_,_,_,rfl,rfl,bO.of tx,tQ l0 y,hA,_,rfl,gy,?_⟩;refine ⟨_,rfl,_,rfl,t,_,rfl,.inl (bO.of tx),rfl,jM _,_,rfl,?_⟩
  show if inV (V.str h) ((l0++[y]).map V.str)=true then _ else _
  rw [qK];refine iU (fun hm=>?_) (fun hm=>?_)
  ·exact k none Hx sx (hk none (by rw [hy];exact .met (rT hm)))
  ·have hm':¬ h∈l0++[y]:=fun e=>hm (A0k e);refine ⟨_,rfl,_,rfl,B,_,rfl,gd,d,_,rfl,.inl (bO.of bx.d),rfl,jM _,_,rfl,?_⟩
   show if (!inV (V.str h) (bd.map V.str))=true then _ else _
   rw [qK,hG];have all1:∀ z∈l0++[y],(hv z).isSome=true:=fun z hz=>by
    rcases A0x.mp hz with q | q
    ·exact ha z q
    ·rw [A0c.mp q,hy];rfl
   have hfew:=few hH nd all1;rw [iw,A0r] at hfew;cases hg:gv h with
   | false =>
    refine dU ⟨_,rfl,?_⟩;exact k (some h) Hx sx (hk (some h) (by rw [hy];exact .alive hm' hg))
   | true =>
    refine cu ?_;refine ⟨_,rfl,.inl ⟨rfl,_,bO.of tx⟩,_,rfl,t,_,_,rfl,rfl,tx,(by rw [bV,iw,A0r];exact bR 0x2),?_⟩;refine ⟨l0++[y],h,_,by rw [iw,A0r];lia,rfl,bK sx ht,?_,v8 nd hm',all1,fun r q=>hk r (by rw [hy];exact .step hm' hg q)⟩;rw [ao,jw (l₂:=[h])];rfl
abbrev sDo:Stmt:=top 61
theorem iZ {k l:Str}{A:Prop} (h:decide (k=l)=false) (g:B):if decide (V.str k=V.str l)=true then A else B:=rR h (cu g)
theorem UW {k l:Str}{A:Prop} (h:decide (k=l)=true) (g:A):if decide (V.str k=V.str l)=true then A else B:=rR h (dU g)
def iW (q:Ad):List Addr:=[q.l,q.h,q.o,q.d,q.kn,q.he,q.dd]
def jR (q:Ad) (H H':Hp):Prop:=∀ c u,c∉iW q->H c=some u->H' c=some u
theorem jR.trans {q:Ad} (a:jR q H H1) (b:jR q H1 H2):jR q H H2:=fun c u h e=>b c u h (a c u h e)
theorem jR.same {q:Ad} (s:Same H H'):jR q H H':=fun c u _ e=>s c u e
theorem jR.put {q:Ad} (h:a∈iW q):jR q H (upd H a o):=fun c u hc e=>by rw [ak fun z=>hc (by rw [z];exact h)];exact e
theorem fM.x {q:Ad} (o:fM q H H'):jR q H H':=fun c u h e=>by
 simp only [iW,A0d,A0u,A1m,A5c] at h;exact o c u h.1 h.2.1 h.2.2.1 h.2.2.2.1 h.2.2.2.2.1 e
theorem Ao {q:Ad}{W:Wo}{es:List aN} (b:Bk q H es ks) (x:Bx q H W) (o:jR q H H')  (h:H c=some (.tup ys)):H' c=some (.tup ys):=by
 refine o c _ ?_ h;simp only [iW,A0d,A0u,A1m,A5c];exact ⟨aZ h b.l 0x6,aZ h b.h 0x6,aZ h b.o 0x6,aZ h b.d 0x6,aZ h b.k 0x6,aZ h x.h 0x6,aZ h x.x 0x6⟩
theorem V0 {q:Ad}{W:Wo} (ap:Ap q) (x:Bx q H W) (o:fM q H H'):Bx q H' W:=by
 have g:=fun {c:Addr}{u:HO} (j:Nat) (hj:[q.a1,q.a2,q.a3,q.a4,q.a5,q.B,q.l,q.h,q.o,q.d,q.kn,q.dd,q.he,q.lg][j]?=some c) (h:10<j) (e:H c=some u)=>o c u (bW ap j 6 hj rfl 0x2) (bW ap j 7 hj rfl 0x2) (bW ap j 8 hj rfl 0x2) (bW ap j 9 hj rfl 0x2) (bW ap j 10 hj rfl 0x2) e;exact ⟨x.vh,x.vg,g 12 rfl 0x5 x.h,g 13 rfl 0x5 x.g,g 11 rfl 0x5 x.x⟩
theorem V1 {q:Ad}{es:List aN} (ap:Ap q) (b:Bk q H es ks) (j:Nat) (hj:[q.a1,q.a2,q.a3,q.a4,q.a5,q.B,q.l,q.h,q.o,q.d,q.kn,q.dd,q.he,q.lg][j]?=some c) (h:10<j):Bk q (upd H c o) es ks:=by
 have g:=fun {a:Addr}{u:HO} (i:Nat) (hi:[q.a1,q.a2,q.a3,q.a4,q.a5,q.B,q.l,q.h,q.o,q.d,q.kn,q.dd,q.he,q.lg][i]?=some a) (hl:i<=10) (e:H a=some u)=>(show (upd H c o) a=some u by rw [ak (bW ap i j hi hj 0x2)];exact e)
 exact ⟨g 5 rfl 0x5 b.b,b.vl,b.vh,b.vo,b.vd,b.vk,b.vx,g 6 rfl 0x5 b.l,g 7 rfl 0x5 b.h,g 8 rfl 0x5 b.o,g 9 rfl 0x5 b.d,g 10 rfl 0x5 b.k,b.len⟩
theorem XD {q:Ad}{es:List aN}{y:aN}{m:Str} (ap:Ap q) (b:Bk q H es ks) (W:WF es) (hy:y∈es):Bk q (upd H q.h (.dK (putK (hoL es) (.inr y.n) (.str m)))) 0x1D ks:=by
 have b1:=eO.uh (l':=putK (hoL es) (.inr y.n) (.str m)) ap b;have e2:hoL 0x1D=putK (hoL es) (.inr y.n) (.str m):=tR (g:=n6 m) 0x10 W.nd hy;have e1:jr 0x1D=jr es:=fZ (g:=n6 m) 0x10 0x10 es;have e3:lY 0x1D=lY es:=fZ (g:=n6 m) 0x10 0x10 es;have e4:xV 0x1D=xV es:=fZ (g:=n6 m) 0x10 0x10 es
 show BQ q _ (jr 0x1D) (hoL 0x1D) (lY 0x1D) (xV 0x1D) ks
 rw [e1,e2,e3,e4];exact b1
inductive a08 (K:W.Frag) (vs:List V) (H:Hp) (Q:VK) (cD:XK):Prop
 | mk (q:Ad) (W:M.Wo) (ls:List Str) (j:Nat) (r:Addr) (ro:M.Ro) (dy wd:Int) (_:vs=[.ref q.B,.ref r]) (_:Ap q) (_:Bk q H W.es W.ks) (_:Bx q H W) (_:Wp W ls j wd) (_:(∀ e∈W.es,jF H e.tb e.due.1 e.due.2)) (_:St W ro) (_:Ro.Ok ls ro) (_:0x8F) (_:j<=17) (_:H r=some (.tup (Ro.vs dy ro))) (_:∀ W' H',Jo W dy ro "stands" W'->Bk q H' W'.es W'.ks->Bx q H' W'->(∀ e∈W'.es,jF H' e.tb e.due.1 e.due.2)->jR q H H'->Q .non H'):a08 K vs H Q cD
theorem V2 {q:Ad}{es:List aN}{y:aN}{n m:Str}{a s:Int} (W:WF es) (hy:y∈es) (hnn:n∉nms es) (b':BQ q H' (putK (jr es) 0x29 (.str y.n)) (putK (hoL es) 0x29 (.str m)) (putK (putK (lY es) 0x29 (.int a)) (.inr y.n) (.int (y.own - a))) (putK (xV es) 0x29 0x70) (ks++[n])):Bk q H' (stp y es 0 0 t 0 0x4F) (ks++[n]):=by
 have YW:y.n∈nms es:=A0j.mpr ⟨y,hy,rfl⟩;rw [Td YW hnn] at b';have e1:jr (stp y es 0 0 t 0 0x4F)=putK (jr es) 0x29 (.str y.n):=by
  show kv _ (mod y.n (oR a) es++[sV y.n n m a s 0 t])=_
  rw [iK (g:=oR a) (x:=sV y.n n m a s 0 t) 0x10 hnn,fZ (g:=oR a) 0x10 0x10];rfl
 have e2:hoL (stp y es 0 0 t 0 0x4F)=putK (hoL es) 0x29 (.str m):=by
  show kv _ (mod y.n (oR a) es++[sV y.n n m a s 0 t])=_
  rw [iK (g:=oR a) (x:=sV y.n n m a s 0 t) 0x10 hnn,fZ (g:=oR a) 0x10 0x10];rfl
 have e3:lY (stp y es 0 0 t 0 0x4F)=putK (putK (lY es) (.inr y.n) (.int (y.own - a))) 0x29 (.int a):=by
  show kv _ (mod y.n (oR a) es++[sV y.n n m a s 0 t])=_
  rw [iK (g:=oR a) (x:=sV y.n n m a s 0 t) 0x10 hnn,tR (g:=oR a) 0x10 W.nd hy];rfl
 have e4:xV (stp y es 0 0 t 0 0x4F)=putK (xV es) 0x29 0x70:=by
  show kv _ (mod y.n (oR a) es++[sV y.n n m a s 0 t])=_
  rw [iK (g:=oR a) (x:=sV y.n n m a s 0 t) 0x10 hnn,fZ (g:=oR a) 0x10 0x10];rfl
 show BQ q H' _ _ _ _ (ks++[n])
 rw [e1,e2,e3,e4];exact b'
theorem a09:aO ["_law_book_here", "_law_row_here", "_law_whole", "_law_wide", "_law_taker_here", "_law_estate"] A5H (aH sDo):=0x0
theorem a2y (F:fK K "_law_do" "_law_do" sDo f fd) 
  (G1:aJ P w K mg base bM 1 g1 d1 A5N T9) (M1:Ms K mg "_law_new" g1 d1 A5N)
  (G2:aJ P w K mg base bM 1 g2 d2 A5J (a06 K)) (M2:Ms K mg "_law_taker" g2 d2 A5J)
  (G3:aJ P w K mg base bM 1 g3 d3 A5J Kg) (M3:Ms K mg "_law_held" g3 d3 A5J)
  (G4:aJ P w K mg base bM 2 g4 d4 A5z a0I) (M4:Ms K mg "_law_fall" g4 d4 A5z) :
  aJ P w K mg base bM 3 f fd A5H (a08 K):=by
 refine F.ok a09 0x1 0x3;obtain ⟨q,W,ls,j,r,ro,dy,wd,rfl,ap,bk,bx,WP,fr,hst,hok,hls,hj,hx,k⟩:=h;have G1:=aJ.mono (k:=2) G1 0x2;have G2:=aJ.mono (k:=2) G2 0x2;have G3:=aJ.mono (k:=2) G3 0x2;refine ⟨_,(aq (bN (aQ dI 0x19 aK 0x61) (aG (bL (bF G1 hr rfl M1.m M1.k M1.b .nil aX (aj 0x32 (aj 0xF (aj 0x19 (aj (cP (aj 0x19 (aj aA aC))) aC))))))) aU)
  (aq (bN (aQ dI 0x19 aK 0x61) cA aU)
  (aq (bN (aQ dI 0x19 aK 0x61) cA aU)
  (aq (bN (aQ dI 0x19 aK 0x61) cA aU)
  (aq (bN (aQ dI 0x19 aK 0x61) (aG (dR 0x17 0x1A 0x19 0x19 rfl)) aU)
  (aq (bN (aQ dI 0x19 aK 0x61) cA aU)
  (aG (bN (aQ dI 0x19 aK 0x61)
   (aq (bL (iz A0z A0Q A0R cQ 0x1A (aj 0x19 aC)))
   (aq (aR (i:=4) a09.nd rfl 0x7 (bF G2 hr rfl M2.m M2.k M2.b .nil aX (aj 0x32 (aj 0x19 aC))))
   (aG (gJ A0U rfl (eY (bF G3 hr rfl M3.m M3.k M3.b .nil aX (aj 0x32 (aj 0x19 aC)))) (bC (i:=5) a09.nd rfl 0x7)
    (aG (bN (aQ Pj (pv 4) lZ 0x61) (aG (bL (bF G4 hr rfl M4.m M4.k M4.b .nil aX (aj 0x32 (aj (pv 5) aC))))) (aG (dR 0x17 0x1A (pv 5) (pv 4) rfl)))))))) aU)))))))),?_⟩
 have PU:=WP.E.P;have W0:=PU.W;have ln:=PU.ln;have lk:=PU.lk;have kl:∀ {f:aN->V},(kv f W.es).length<=800:=by intro f;rw [iJ];lia
 cases ro with
 | grant e n m a s =>
  obtain ⟨y,hy,rfl,hn,hm,ha⟩:=hst;have hnn:=PU.new hn (hls n hok.1).1;refine ⟨_,rfl,r,_,_,_,rfl,rfl,cj.of hx,aL (j:=0) rfl,rfl,_,rfl,UW 0x8 ?_⟩;refine ⟨_,rfl,_,rfl,_,rfl,r,_,_,_,rfl,rfl,cj.of hx,aL (j:=2) rfl,_,rfl,r,_,_,_,rfl,rfl,cj.of hx,aL (j:=6) rfl,small 0xA,fun t ht=>?_⟩
  apply 0o1 H t ht s1 ht1 H1
  have b1:=bk.same s1;have x1:=s1 _ _ hx;refine ⟨q,_,_,_,_,W.ks,r,_,y.n,n,m,y.n,t,a,y.own,rfl,ap,b1,x1,rfl,rfl,rfl,rfl,?_,kl,kl,kl,kl,by lia,fun H' b' o'=>?_⟩
  ·rw [bJ,A0e (fun z=>hnn (by rw [<- key_eq.mp z];exact A0j.mpr ⟨y,hy,rfl⟩))];exact cX W0.nd hy
  have x2:=mJ b1 o' x1;refine ⟨_,rfl,r,_,_,_,rfl,rfl,cj.of x2,aL (j:=0) rfl,rfl,_,rfl,iZ 0x8 ?_⟩;refine ⟨_,rfl,r,_,_,_,rfl,rfl,cj.of x2,aL (j:=0) rfl,rfl,_,rfl,iZ 0x8 ?_⟩;refine ⟨_,rfl,r,_,_,_,rfl,rfl,cj.of x2,aL (j:=0) rfl,rfl,_,rfl,iZ 0x8 ?_⟩;refine ⟨_,rfl,r,_,_,_,rfl,rfl,cj.of x2,aL (j:=0) rfl,rfl,_,rfl,iZ 0x8 ?_⟩;refine ⟨_,rfl,r,_,_,_,rfl,rfl,cj.of x2,aL (j:=0) rfl,rfl,_,rfl,iZ 0x8 ?_⟩;refine ⟨_,rfl,r,_,_,_,rfl,rfl,cj.of x2,aL (j:=0) rfl,rfl,_,rfl,iZ 0x8 ?_⟩;have ox:jR q H H':=(jR.same s1).trans o'.x;refine k _ H' (.gr 0 t hy rfl hn hm ha) (V2 W0 hy hnn b') (V0 ap (bx.same s1) o') ?_ ox;have hS:gQ W.es W.ks y 0x4F:=⟨hy,rfl,hn,ha⟩;exact qC (u1:=t) (u2:=0) (t1:=0) (t2:=0) (b1:=t) (b2:=0) (·.tb) W0.nd hS (fun e he=>Ao bk bx ox (fr e he)) (mJ b1 o' ht1) 0x4 0x4 (fun _ _ _ _=>rfl) (fun _ _ _ _ _=>rfl)
 | heir a b =>
  refine 0x1B;refine 0x1B;refine 0x1B;refine 0x1B;refine ⟨_,rfl,r,_,_,_,rfl,rfl,cj.of hx,aL (j:=0) rfl,rfl,_,rfl,UW 0x8 ?_⟩;have hl:=WP.hl;refine ⟨_,rfl,r,_,_,_,rfl,rfl,cj.of hx,aL (j:=3) rfl,_,rfl,q.B,_,rfl,gZ bk.b bx.vh,_,rfl,r,_,_,_,rfl,rfl,cj.of hx,aL (j:=2) rfl,q.he,_,rfl,jc.k (k:=.inr a) bx.h (bR 0x2),?_⟩;have o1:jR q H (upd H q.he (.dK (putK W.hs (.inr a) (.str b)))):=jR.put (by simp [iW]);have b1:=V1 (o:=.dK (putK W.hs (.inr a) (.str b))) ap bk 12 rfl 0x5;have x1:=Ao bk bx o1 hx;have XF:Bx q (upd H q.he (.dK (putK W.hs (.inr a) (.str b)))) { W with hs:=putK W.hs (.inr a) (.str b) }:=⟨bx.vh,bx.vg,ao,by rw [ak (bW ap 13 12 rfl rfl 0x5)];exact bx.g,by rw [ak (bW ap 11 12 rfl rfl 0x5)];exact bx.x⟩;have Om:=fun e he=>Ao bk bx o1 (fr e he);generalize upd H q.he (.dK (putK W.hs (.inr a) (.str b)))=H1 at o1 b1 x1 XF Om ⊢;refine ⟨_,rfl,r,_,_,_,rfl,rfl,cj.of x1,aL (j:=0) rfl,rfl,_,rfl,iZ 0x8 ?_⟩;refine ⟨_,rfl,r,_,_,_,rfl,rfl,cj.of x1,aL (j:=0) rfl,rfl,_,rfl,iZ 0x8 ?_⟩;exact k _ H1 (.hr hst) b1 XF Om o1
 | death a =>
  refine 0x1B;refine 0x1B;refine 0x1B;refine 0x1B;refine 0x1B;refine 0x1B;refine ⟨_,rfl,r,_,_,_,rfl,rfl,cj.of hx,aL (j:=0) rfl,rfl,_,rfl,UW 0x8 ?_⟩;have dl:=WP.dl;have hl:=WP.hl;have gl:W.gone.length=W.dd.length:=bV ..;refine ⟨_,rfl,q.B,_,rfl,gZ bk.b bk.vx,.inl ⟨rfl,_,bO.of bx.x⟩,_,rfl,r,_,_,_,rfl,rfl,cj.of hx,aL (j:=2) rfl,q.dd,_,_,rfl,rfl,bx.x,0x62,?_⟩;have eg:(0x7D).gone=W.gone++[a]:=by show (0x6B).map _=_;rw [jw];rfl
  have ex:W.gone.map V.str++[V.str a]=(0x7D).gone.map V.str:=by rw [eg,jw];rfl
  rw [ex];have o1:jR q H (upd H q.dd (.lst ((0x7D).gone.map V.str))):=jR.put (by simp [iW]);have b1:=V1 (o:=.lst ((0x7D).gone.map V.str)) ap bk 11 rfl 0x5;have x1:=Ao bk bx o1 hx;have XF:Bx q (upd H q.dd (.lst ((0x7D).gone.map V.str))) ⟨W.es,W.ks,W.hs,W.dd++[(a,dy)]⟩:=⟨bx.vh,bx.vg,by rw [ak (bW ap 12 11 rfl rfl 0x5)];exact bx.h,by rw [ak (bW ap 13 11 rfl rfl 0x5)];exact bx.g,ao⟩;have Om:=fun e he=>Ao bk bx o1 (fr e he);generalize upd H q.dd (.lst ((0x7D).gone.map V.str))=H1 at o1 b1 x1 XF Om ⊢;have bkA:vQ H1 q.B q.he q.dd q.kvs W.hs (W.gone++[a]):=⟨b1.b,XF.vh,b1.vx,XF.h,by rw [<- eg];exact XF.x,b1.len⟩;refine ⟨_,rfl,_,rfl,r,_,_,_,rfl,rfl,cj.of x1,aL (j:=2) rfl,q.B,q.he,q.dd,q.kvs,W.hs,W.gone++[a],YX W.hs,(fun z=>decide (z∈W.gone++[a])),a,rfl,bkA,Tv WP.hv,0x10,by lia,fun t H2 s2 tk=>?_⟩;refine ⟨_,rfl,_,rfl,r,_,_,_,rfl,rfl,cj.of (s2 _ _ x1),aL (j:=2) rfl,q,W.es,W.ks,a,rfl,ap,b1.same s2,W0.nd,by lia,fun D ss H3 s3 qR hD hp hs=>?_⟩;have hb:vm W.es a ss:=⟨hp,hs⟩;have b2:=b1.same s2;have bx2:=XF.same s2;have hDn:D∉iW q:=fun z=>by
   simp only [iW,A0d,A0u,A1m] at z;rcases z with e | e | e | e | e | e | e <;> rw [e] at qR
   ·rw [b2.l] at qR;cases qR
   ·rw [b2.h] at qR;cases qR
   ·rw [b2.o] at qR;cases qR
   ·rw [b2.d] at qR;cases qR
   ·rw [b2.k] at qR;cases qR
   ·rw [bx2.h] at qR;cases qR
   ·rw [bx2.x] at qR;cases qR
  have s23:=s2.trans s3;have tr:∀ h,t=some h->PyData.strOk h=true:=fun h e=>Tk.ok (Pr:=fun z=>PyData.strOk z=true) (fun _ _=>nU WP.hv) tk (fun z e=>nU WP.hv e) h e;refine ⟨D,rfl,⟨_,bO.of hD⟩,gq (K:=K) (a:=D) (xs:=ss.map V.str) (fun i σ Hx=>∃ (u5:Option V) (e1:List aN),σ=[some (.ref q.B),some 0x71,none,none,some (rJ t),u5]/\Hx D=some 0x23/\Bk q Hx e1 W.ks/\Bx q Hx ⟨e1,W.ks,W.hs,W.dd++[(a,dy)]⟩/\Fo t W.es (ss.take i) e1/\(∀ e∈e1,jF Hx e.tb e.due.1 e.due.2)/\jR q H Hx)
   ⟨none,W.es,rfl,hD,b1.same s23,XF.same s23,.nil,fun e he=>s23 _ _ (Om e he),o1.trans (jR.same s23)⟩ (fun i σ Hx _ h=>by obtain ⟨_,_,_,h,_⟩:=h;exact bO.of h) ?_ ?_⟩
  ·rintro i v σ Hx hv ⟨u5,e1,rfl,zT,Z4,bxx,fo,fx,ox⟩;rw [jW] at hv;obtain ⟨n,hn,rfl⟩:=A0v.mp hv;obtain ⟨hne,y,hy,rfl⟩:=Fo.next hb W0.nd WP.E.cr hok fo hn;have PU1:=(fo.eo WP.E tr hls).P;have ln1:=PU1.ln;have tk':ss.take (i+1)=ss.take i++[y.n]:=by rw [A1f,hn];rfl
   have fin:∀ H',Bk q H' (stp y e1 0 0 0 0 (vf t y.n)) W.ks->fM q Hx H'->∃ (u5:Option V) (e2:List aN),[some (.ref q.B),some 0x71,none,none,some (rJ t),some (V.str y.n)]=[some (V.ref q.B),some 0x71,none,none,some (rJ t),u5]/\H' D=some 0x23/\Bk q H' e2 W.ks/\Bx q H' ⟨e2,W.ks,W.hs,W.dd++[(a,dy)]⟩/\Fo t W.es (ss.take (i+1)) e2/\(∀ e∈e2,jF H' e.tb e.due.1 e.due.2)/\jR q H H':=fun H' b' o'=>by
    refine ⟨_,_,rfl,o'.x _ _ hDn zT,b',V0 ap bxx o',by rw [tk'];exact .snoc fo hy hne,?_,ox.trans o'.x⟩;exact qC (u1:=0) (u2:=0) (·.tb) PU1.W.nd (Ks (ks:=W.ks) hy) (fun e he=>Ao Z4 bxx o'.x (fx e he)) FrN.die 0x4 0x4 (fun _ _ _ _=>rfl) fun _ _ _ _ _=>by cases t <;> rfl
   refine ⟨_,rfl,rfl,_,rfl,?_⟩;rw [DX];cases t with
   | none =>
    refine dU ?_;obtain ⟨p,hp1,_,_⟩:=PU1.W.lord y hy hne;refine ⟨_,rfl,_,rfl,q,e1,W.ks,y,p,rfl,ap,Z4,PU1.W,hy,hne,hp1,by lia,fun H' b' o'=>?_⟩;refine fin H' ?_ o'
    show Bk q H' (cG y.n (y.lord.getD "") y.own e1) W.ks
    rw [hp1];exact b'
   | some h =>
    refine cu ?_;refine ⟨_,rfl,_,rfl,q.B,_,rfl,gZ Z4.b Z4.vh,_,rfl,q.h,_,rfl,jc.k (k:=.inr y.n) Z4.h (bR (by rw [iJ];lia)),?_⟩;exact fin _ (XD ap Z4 PU1.W hy) fM.uh
  ·rintro σ Hx ⟨u5,e1,rfl,zT,Z4,bxx,fo,fx,ox⟩;rw [bV,A1d] at fo;exact k _ _ (.di hst tk hb fo) Z4 bxx fx ox
abbrev Ik:Stmt:=top 62
inductive tZ (vs:List V) (H:Hp) (Q:VK) (cD:XK):Prop
 | mk (q:Ad) (W:M.Wo) (ls:List Str) (j:Nat) (r:Addr) (ro:M.Ro) (dy wd:Int) (_:vs=[.ref q.B,.ref r]) (_:Ap q) (_:Bk q H W.es W.ks) (_:Bx q H W) (_:Wp W ls j wd) (_:(∀ e∈W.es,jF H e.tb e.due.1 e.due.2)) (_:Ro.Ok ls ro) (_:0x8F) (_:j<=17) (_:H r=some (.tup (Ro.vs dy ro))) (_:∀ w W' H',Jo W dy ro w W'->Bk q H' W'.es W'.ks->Bx q H' W'->(∀ e∈W'.es,jF H' e.tb e.due.1 e.due.2)->jR q H H'->Q (.str w) H'):tZ vs H Q cD
theorem Le:aO ["_law_book_here", "_law_row_here", "_law_word_here"] A5H (aH Ik):=0x0
theorem V3 (F:fK K "_law_word" "_law_word" Ik f fd)  (G1:aJ P w K mg base bM 1 g1 d1 A5H UL) (M1:Ms K mg "_law_why" g1 d1 A5H)
  (G2:aJ P w K mg base bM 3 g2 d2 A5H (a08 K)) (M2:Ms K mg "_law_do" g2 d2 A5H):aJ P w K mg base bM 4 f fd A5H tZ:=by
 refine F.ok Le 0x1 0x3;obtain ⟨q,W,ls,j,r,ro,dy,wd,rfl,ap,bk,bx,WP,fr,hok,hls,hj,hx,k⟩:=h;have hr1:cM 1 _:=hr.mono 0x5;refine ⟨_,aq (aR (i:=2) Le.nd rfl 0x7 (bF G1 hr1 rfl M1.m M1.k M1.b .nil aX 0x89))
  (aq (bN (aQ dI 0x2B aK 0x61) (aG (bL (bF G2 hr rfl M2.m M2.k M2.b .nil aX 0x89))) aU)
  (aG (aV 0x2B))),?_⟩
 refine ⟨_,rfl,_,rfl,q,W,r,ro,dy,rfl,ap,bk,bx,WP.E.P.W.nd,hx,fun z H1 s1 hw=>?_⟩;have b1:=bk.same s1;have x1:=bx.same s1;have f1:=fun e he=>s1 _ _ (fr e he);refine ⟨_,rfl,rfl,_,rfl,Ku (fun e=>?_) (fun ne=>?_)⟩
 ·subst e;have hst:St W ro:=by
   rcases hw with h | h
   ·exact absurd rfl h.1
   ·exact h.2
  exact ⟨_,rfl,_,rfl,q,W,ls,j,r,ro,dy,wd,rfl,ap,b1,x1,WP,f1,hst,hok,hls,hj,s1 _ _ hx,fun W' H2 J b2 x2 f2 o=>⟨_,rfl,k _ W' H2 J b2 x2 f2 ((jR.same s1).trans o)⟩⟩
 ·rcases hw with h | h
  ·exact ⟨_,rfl,k z W H1 h.2 b1 x1 f1 (jR.same s1)⟩
  ·exact absurd h.1 ne
abbrev Aq:Stmt:=top 66
def yr (n:Int) (t b:Addr):aN:=⟨"",none, "",n,n,(0,1),t,b⟩
theorem V4 (n:Int) (t b:Addr) (ls:List Str) (n1:1<=n) (n2:n<=9999):Pu [yr n t b] [] ls 0 n:=by
 refine ⟨⟨by simp [nms],⟨yr n t b,[],rfl,rfl,rfl,trivial⟩,fun e he=>?_,fun e he=>?_,fun e he=>?_⟩,fun e he=>?_,fun e he hn=>?_,A0f _,A0f _,fun e he=>?_,?_⟩
 ·rw [A0c.mp he];exact ⟨by show 0<=n;lia,by show 0<=n;lia,n2⟩
 ·rw [A0c.mp he]
  show n=n+Sb [yr n t b] ""
  have:Sb [yr n t b] ""=0:=by unfold Sb;rfl
  lia
 ·rw [A0c.mp he];show PyData.strOk ("" : Str)=true;decide +kernel
 ·rw [A0c.mp he];exact ⟨by show (0:Int).natAbs<_;decide,by show (0:Int)<1;decide,by show (1:Int).natAbs<_;decide⟩
 ·rw [A0c.mp he] at hn;exact absurd rfl hn
 ·rw [A0c.mp he];exact .inl rfl
 ·show n+0=n;lia
theorem V5:∀ {l:List Nat}{x:Nat},x∈l->x<=l.sum
 | y::l,x,h=>by
  rw [A0H];rcases A0d.mp h with e | e
  ·lia
  ·have:=V5 e;lia
theorem five {l:List Nat} (h:l.Nodup):([l.sum+1,l.sum+2,l.sum+3,l.sum+4,l.sum+5]++l).Nodup:=by
 rw [A2b];refine ⟨by simp,h,fun a ha b hb e=>?_⟩;have:=V5 hb;simp only [A0d,A0u,A1m] at ha;lia
theorem qL {q:Ad}{es:List aN}{W:Wo} (b:Bk q H es ks) (x:Bx q H W) (h:H c=none):c∉iW q:=fun z=>by
 simp only [iW,A0d,A0u,A1m] at z;rcases z with e | e | e | e | e | e | e <;> rw [e] at h
 ·rw [b.l] at h;cases h
 ·rw [b.h] at h;cases h
 ·rw [b.o] at h;cases h
 ·rw [b.d] at h;cases h
 ·rw [b.k] at h;cases h
 ·rw [x.h] at h;cases h
 ·rw [x.x] at h;cases h
theorem Lf {q:Ad}{es:List aN} (b:Bk q H es ks) (n1:c≠q.B) (n:c∉iW q):Bk q (upd H c o) es ks:=by
 have g:∀ {a:Addr}{u:HO},a∈q.B::iW q->H a=some u->(upd H c o) a=some u:=fun {a u} ha e=>by
  rw [ak]
  ·exact e
  ·intro z;rcases A0d.mp ha with h | h
   ·exact n1 (by rw [<- z,h])
   ·exact n (by rw [<- z];exact h)
 exact ⟨g 0xA b.b,b.vl,b.vh,b.vo,b.vd,b.vk,b.vx,g (by simp [iW]) b.l,g (by simp [iW]) b.h,g (by simp [iW]) b.o,g (by simp [iW]) b.d,g (by simp [iW]) b.k,b.len⟩
theorem Lg {q:Ad}{W:Wo} (b:Bx q H W) (n1:c≠q.lg) (n:c∉iW q):Bx q (upd H c o) W:=by
 have g:∀ {a:Addr}{u:HO},a∈q.lg::iW q->H a=some u->(upd H c o) a=some u:=fun {a u} ha e=>by
  rw [ak]
  ·exact e
  ·intro z;rcases A0d.mp ha with h | h
   ·exact n1 (by rw [<- z,h])
   ·exact n (by rw [<- z];exact h)
 exact ⟨b.vh,b.vg,g (by simp [iW]) b.h,g 0xA b.g,g (by simp [iW]) b.x⟩
inductive qM (K:W.Frag) (vs:List V) (H:Hp) (Q:VK) (cD:XK):Prop
 | mk (l:Addr) (n:Int) (all:List Addr) (dat:Addr->List V) (lE:Addr->Int) (lF:Addr->M.Ro) (ls:List Str) (_:vs=[.int n,.ref l]) (_:1<=n) (_:n<=9999) (_:bO K H l 0x2E) (_:all.length<=17) (_:iQ H all dat) (_:(∀ a∈all,Ak dat lE lF ls a)) (_:0x8F) (_:∀ T wl q W ts out ws b0 H',Same H H'->H' T=some (.tup [.ref q.B,.ref wl])->H wl=none->(∀ a∈[q.B,q.l,q.h,q.o,q.d,q.kn,q.dd,q.he,q.lg],H a=none)->Ap q->Bk q H' W.es W.ks->Bx q H' W->Wp W ls out.length n->(∀ e∈W.es,jF H' e.tb e.due.1 e.due.2)->fP H' wl ts out ws->out.Perm all->Fe dat out->JL (W0 (yr n 0 b0)) (out.map fun a=>(lE a,lF a)) ws W->Q (.ref T) H'):qM K vs H Q cD
theorem qN:aO ["_law_acres", "_law_rows_here", "_law_book_here", "_law_words", "_law_row_here"] A5Y (aH Aq):=0x0
theorem Og (F:fK K "_law_books" "_law_books" Aq f fd)  (G1:aJ P w K mg base bM 1 g1 d1 ["_law_acres"] zA) (M1:Ms K mg "_law_book" g1 d1 ["_law_acres"])
  (G2:aJ P w K mg base bM 3 g2 d2 ["_law_rows_here"] (vH K)) (M2:Ms K mg "_law_sorted" g2 d2 ["_law_rows_here"])
  (G3:aJ P w K mg base bM 4 g3 d3 A5H tZ) (M3:Ms K mg "_law_word" g3 d3 A5H):aJ P w K mg base bM 5 f fd A5Y (qM K):=by
 refine F.ok qN 0x1 0x3;obtain ⟨l,n,all,dat,lE,lF,ls,rfl,n1,n2,hl,h17,RO,RW,hls,k⟩:=h;have hr1:cM 1 _:=hr.mono 0x5;have hr3:cM 3 _:=hr.mono 0x5;refine ⟨_,aq (aR (i:=2) qN.nd rfl 0x7 (bF G1 hr1 rfl M1.m M1.k M1.b .nil aX 0x82))
  (aq (aR (i:=3) qN.nd rfl 0x7 (dN aC))
  (aq (gJ A0U rfl (eY (bF G2 hr3 rfl M2.m M2.k M2.b .nil aX 0x38)) (bC (i:=4) qN.nd rfl 0x7)
   (aG (bL (iz A0z A0Q A0R cQ 0x5D (aj (cP (aj (pv 4) (aj (bF G3 hr rfl M3.m M3.k M3.b .nil aX (aj 0x2B (aj (pv 4) aC))) aC))) aC)))))
  (aG (aV (cP (aj 0x2B (aj 0x5D aC))))))),?_⟩
 refine ⟨_,rfl,n,rfl,fun B bl bh bo bd Il Im Io Ip b0 kvs H1 s1 hfree ndl BL BXL Om=>⟨small 0xA,fun wl hwl=>?_⟩⟩;have XH:H wl=none:=s1.free hwl;obtain ⟨q,hq,apq⟩:∃ q:Ad,(q.B=B/\q.l=bl/\q.h=bh/\q.o=bo/\q.d=bd/\q.kn=Il/\q.dd=Im/\q.he=Io/\q.lg=Ip/\q.kvs=kvs)/\Ap q :=
  ⟨⟨0,0,[B,bl,bh,bo,bd,Il,Im,Io,Ip].sum+1,[B,bl,bh,bo,bd,Il,Im,Io,Ip].sum+2,[B,bl,bh,bo,bd,Il,Im,Io,Ip].sum+3,[B,bl,bh,bo,bd,Il,Im,Io,Ip].sum+4,[B,bl,bh,bo,bd,Il,Im,Io,Ip].sum+5,B,bl,bh,bo,bd,Il,Im,Io,Ip,kvs,n⟩,⟨rfl,rfl,rfl,rfl,rfl,rfl,rfl,rfl,rfl,rfl⟩,five ndl⟩
 obtain ⟨rfl,rfl,rfl,rfl,rfl,rfl,rfl,rfl,rfl,rfl⟩:=hq;have B1:Bk q H1 [yr n 0 b0] []:=BL;have X1:Bx q H1 (W0 (yr n 0 b0)):=BXL;have wlo:wl∉iW q:=qL B1 X1 hwl;have wlB:wl≠q.B:=fun z=>by rw [z,B1.b] at hwl;cases hwl
 have wlG:wl≠q.lg:=fun z=>by rw [z,X1.g] at hwl;cases hwl
 apply 0o1 H1 wl hwl sw w2 H2
 have s2:=s1.trans sw;have B2:Bk q H2 [yr n 0 b0] []:=B1.same sw;have X2:Bx q H2 (W0 (yr n 0 b0)):=X1.same sw;have fr2:∀ e∈[yr n 0 b0],jF H2 e.tb e.due.1 e.due.2:=fun e he=>by rw [A0c.mp he];exact sw _ _ Om
 have RO2:iQ H2 all dat:=⟨fun a ha=>⟨s2 _ _ (RO.1 a ha).1,(RO.1 a ha).2⟩,RO.2⟩;have a1a:∀ {c:Addr}{u:HO},H c=some u->c∉iW q:=fun {c u} hc z=>by
  have:H c=none:=hfree c (by simp only [iW,A0d,A0u,A1m] at z ⊢;rcases z with e | e | e | e | e | e | e <;> simp [e]);rw [this] at hc;cases hc
 refine ⟨_,rfl,l,rfl,all,dat,s2.seq hl,by lia,RO2,fun S out H3 s3 hS0 hS hp hu=>⟨S,rfl,⟨_,bO.of hS⟩,?_⟩⟩;have ol:out.length<=17:=by rw [hp.length_eq];exact h17
 have So:S∉iW q:=qL B2 X2 hS0;have nSw:S≠wl:=fun z=>by rw [z,w2] at hS0;cases hS0
 have Xv:∀ r∈out,H r=some (.tup (dat r))/\Ak dat lE lF ls r:=fun r hr=>⟨(RO.1 r (hp.mem_iff.mp hr)).1,RW r (hp.mem_iff.mp hr)⟩;refine gq (K:=K) (a:=S) (xs:=out.map V.ref) (fun i σ Hx=>∃ (u4:Option V) (W:Wo) (ws:List Str) (ts:List Addr),σ=[some (.int n),some (.ref l),some (.ref q.B),some (.ref wl),u4]/\Same H Hx/\Hx S=some (.lst 0x58)/\Bk q Hx W.es W.ks/\Bx q Hx W/\Wp W ls (out.take i).length n/\(∀ e∈W.es,jF Hx e.tb e.due.1 e.due.2)/\fP Hx wl ts (out.take i) ws/\JL (W0 (yr n 0 b0)) ((out.take i).map fun a=>(lE a,lF a)) ws W)
  ⟨none,W0 (yr n 0 b0),[],[],rfl,s2.trans s3,hS,B2.same s3,X2.same s3,qI (V4 n 0 b0 ls n1 n2) rfl rfl rfl,fun e he=>s3 _ _ (fr2 e he),⟨s3 _ _ w2,rfl,rfl,fun i t r w e1 _ _=>by simp at e1⟩,.nil⟩ (fun i σ Hx _ h=>by obtain ⟨_,_,_,_,_,_,h,_⟩:=h;exact bO.of h) ?_ ?_
 ·rintro i v σ Hx hv ⟨u4,W,ws,ts,rfl,sx,Z1,BX,XX,PX,fX,JX,LX⟩;rw [jW] at hv;obtain ⟨r,hr,rfl⟩:=A0v.mp hv;obtain ⟨hrt,Vv⟩:=Xv r (vY hr);rw [Vv.e] at hrt;have hrx:=sx _ _ hrt;have tk:out.take (i+1)=out.take i++[r]:=by rw [A1f,hr];rfl
  have tl:(out.take i).length<=17:=by rw [A0G];lia
  refine ⟨_,rfl,.inl ⟨rfl,_,bO.of JX.l⟩,_,rfl,_,rfl,_,rfl,q,W,ls,_,r,lF r,lE r,n,rfl,apq,BX,XX,PX,fX,Vv.ok,hls,tl,hrx,fun w' W' H' J B' X' f' o=>⟨small 0xA,fun t ht=>?_⟩⟩;have nt:=aM ht 0x8D;have wt:=nt _ _ (o _ _ wlo JX.l);have St:=nt _ _ (o _ _ So Z1);have tt:(upd H' t 0x8D) t=some 0x8D:=ao;have J2:fP (upd H' t 0x8D) wl ts (out.take i) ws:=JX.keep (by rw [wt,JX.l]) fun c xs h=>nt _ _ (Ao BX XX o h);have B2:=B'.same nt;have X2:=X'.same nt;have ft:=fun e he=>nt _ _ (f' e he);have old:Same H (upd H' t 0x8D):=fun c u hc=>nt _ _ (o c u (a1a hc) (sx _ _ hc));generalize upd H' t 0x8D=H4 at nt wt St tt J2 B2 X2 ft old ⊢;refine ⟨wl,_,_,rfl,rfl,wt,bR (by rw [bV,JX.lt];lia),?_⟩;refine ⟨_,W',ws++[w'],ts++[t],rfl,fun c u hc=>?_,?_,Lf B2 wlB wlo,Lg X2 wlG wlo,?_,fun e he=>?_,?_,?_⟩
  ·rw [ak (au hc XH)];exact old c u hc
  ·rw [ak nSw];exact St
  ·rw [tk,iw];exact J.wp PX Vv.ok Vv.tx hls
  ·rw [jF,ak (aZ (ft e he) wt 0x6)];exact ft e he
  ·rw [tk];exact J2.snoc tt
  ·rw [tk,jw];exact .snoc LX J
 ·rintro σ Hx ⟨u4,W,ws,ts,rfl,sx,Z1,BX,XX,PX,fX,JX,LX⟩;rw [bV,A1d] at PX JX LX;refine ⟨_,rfl,_,rfl,small 0xA,fun T hT=>?_⟩;have sT:=aM hT (.tup [V.ref q.B,V.ref wl]);exact k T wl q W ts out ws b0 _ (sx.trans sT) ao XH (fun a ha=>hfree a (by simp only [A0d,A0u,A1m] at ha ⊢;rcases ha with h | h | h | h | h | h | h | h | h <;> simp [h])) apq (BX.same sT) (XX.same sT) PX (fun e he=>sT _ _ (fX e he)) (JX.keep (by rw [sT _ _ JX.l,JX.l]) fun c xs h=>sT _ _ h) hp hu LX
abbrev Ar:Stmt:=top 51
def az:Str:="abcdefghijklmnopqrstuvwxyz"
def low (c:Nat):Bool:=decide (97<=c)&&decide (c<=122)
def nameB (l:List Nat):Bool:=l.all low&&(decide (1<=l.length)&&decide (l.length<=8))
theorem oM {α:Type}{xs:List α}{i:Int} (h0:0<=i) (h1:i<xs.length):∃ v,wM xs i=some v/\v∈xs:=by
 have hi:i.toNat<xs.length:=by lia
 have e:i=((i.toNat:Nat):Int):=by lia
 refine ⟨xs[i.toNat],?_,A0P hi⟩;have q:wM xs ((i.toNat:Nat):Int)=some xs[i.toNat]:=aL (by simp [hi]);rw [<- e] at q;exact q
theorem Ir (cs:List Nat):(Txt.join (Str.ofString "") (cs.map fun c=>mZ [c]))=mZ cs:=by
 have e:(Str.ofString "").cps=#[]:=by decide +kernel
 have fo:∀ (ds:List Nat) (acc:Array Nat),(ds.map fun c=>mZ [c]).foldl (fun acc p=>acc++(Str.ofString "").cps++p.cps) acc=acc++ds.toArray:=by
  intro ds
  induction ds with
  | nil=>intro acc;simp
  | cons d r ih =>
   intro acc;rw [A0h,A1o,ih,e];simp
 show Builtin.Str.glued (Str.ofString "") (cs.map fun c=>mZ [c])=_
 cases cs with
 | nil=>rfl
 | cons c r =>
  unfold Builtin.Str.glued;rw [A0h,List.drop_one,List.tail_cons,fo,List.headD_cons];simp [mZ]
theorem XJ {cs:List Nat} (h:cs.length<=1000):JoinOk (Str.ofString "") (cs.map fun c=>mZ [c])=true:=by
 have e:(Str.ofString "").length=0:=by decide +kernel
 have fo:∀ (ds:List Nat) (n:Nat),(ds.map fun c=>mZ [c]).foldl (fun a p=>a+p.length+(Str.ofString "").length) n=n+ds.length:=by
  intro ds
  induction ds with
  | nil=>intro n;simp
  | cons d r ih =>
   intro n;rw [A0h,A1o,ih,e,jE];simp;lia
 unfold JoinOk;rw [List.foldl_toArray',fo]
 ·unfold Builtin.Str.tooLong;have:=small (n:=cs.length) 0x2;simp;lia
 ·rfl
theorem app_list (x y:Str):(x++y).cps.toList=x.cps.toList++y.cps.toList:=by
 show (x.cps++y.cps).toList=_
 simp
theorem XM (x y:Str):(x++y).length=x.length+y.length:=by
 have e:∀ z:Str,z.length=z.cps.toList.length:=fun z=>by simp [Str.length]
 rw [e,e,e,app_list,iw]
theorem gY {fs:List Int} (h:∀ v∈fs,vZ v) {i:Int} (h0:0<=i) (h1:i<fs.length):∃ v:Int,wM 0x7A i=some (.int v)/\vZ v:=by
 obtain ⟨x,e,m⟩:=oM (xs:=fs.map V.int) h0 (by rw [bV];exact h1);obtain ⟨v,hv,rfl⟩:=A0j.mp m;exact ⟨v,e,h v hv⟩
theorem a2z:∀ i:_root_.Fin 26,az.cps.toList[i.val]?=some (97+i.val):=by decide +kernel
theorem V6 {i:Int} (h0:0<=i) (h1:i<26):wM az.cps.toList i=some (97+i.toNat):=by
 have e:i=((i.toNat:Nat):Int):=by lia
 have q:wM az.cps.toList ((i.toNat:Nat):Int)=some (97+i.toNat):=aL (a2z ⟨i.toNat,by lia⟩);rw [<- e] at q;exact q
theorem V7 (h:i<26):low (97+i)=true:=by simp [low];lia
theorem rep1 (n c:Nat):q9 n [c]=List.replicate n c:=by
 unfold q9
 induction n with
 | zero=>rfl
 | succ n ih=>rw [A3y,List.flatten_cons,ih];rfl
theorem XQ {α:Type}{xs:List α} (h:j<=xs.length):sU xs none (some (j:Int))=xs.take j:=by
 unfold sU;have e1:HT.eN xs.length 0 none=0:=rfl;rw [e1,HT.jZ,A4L,Nat.sub_zero,A2t h]
theorem Oh {α:Type}{xs:List α} (h:j<=xs.length):sU xs (some (j:Int)) none=xs.drop j:=by
 unfold sU;have e2:HT.eN xs.length xs.length none=xs.length:=rfl;rw [e2,HT.jZ,A2t h,A3f (by rw [A1H];exact A0f _)]
def Told (p:Nat) (e:Int) (zs:List Str):Prop:=∀ (j:Nat) (z:Str),zs[j]?=some z->z.cps.toList[p]?=some (97+((e+7 * (j:Int)) % 26).toNat)/\nameB z.cps.toList=true
theorem Told.nodup {p:Nat}{e:Int} (h:Told p e zs) (hl:zs.length<=26):zs.Nodup:=by
 unfold List.Nodup;rw [A1i];intro i j hi hj hij he;have h1:=(h i _ (ju hi)).1;have h2:=(h j _ (ju hj)).1;rw [he,h2] at h1;have h3:=A0T h1;lia
theorem Told.snoc {p:Nat}{e:Int} (h:Told p e zs) (h1:z.cps.toList[p]?=some (97+((e+7 * (zs.length:Int)) % 26).toNat)) (h2:nameB z.cps.toList=true):Told p e (zs++[z]):=by
 intro j y hj
 by_cases hlt:j<zs.length
 ·rw [A1q hlt] at hj;exact h j y hj
 ·have hj':j<(zs++[z]).length:=(A0l.mp hj).1;have e:j=zs.length:=by rw [iw,A0r] at hj';lia
  subst e;rw [A0W 0x2D,A3w] at hj;have:z=y:=by simpa using hj
  subst this;exact ⟨h1,h2⟩
theorem Ep {l:List Nat} (h:∀ c∈l,low c=true) (h1:1<=l.length) (h2:l.length<=8):nameB l=true:=by
 unfold nameB;rw [A1I.mpr h,A0k h1,A0k h2];rfl
inductive Av (K:W.Frag) (vs:List V) (H:Hp) (Q:VK) (cD:XK):Prop
 | mk (a:Addr) (ds:List Int) (many:Int) (_:vs=[.ref a,.int many]) (_:bO K H a (ds.map V.int)) (_:4<=ds.length) (_:(∀ v∈ds,vZ v)) (_:0<=many) (_:many<=26) (_:∀ (r:Addr) (H':Hp) (zs:List Str),Same H H'->H r=none->H' r=some (.lst 0x8C)->zs.length=many.toNat->(∀ z∈zs,nameB z.cps.toList=true)->zs.Nodup->Q 0x71 H'):Av K vs H Q cD
theorem jH:aO A5W ["_law_d", "_law_many"] (aH Ar):=0x0
def scN1:Scope:={ kind:=.function,names:=[0x79,("_law_k",.local),("_law_d",.free),("_law_letters",.free)],isGenerator:=false,isCoroutine:=false }
theorem csN1:fu A5W (aH Ar) scN1 ["_law_k"] ["_law_d", "_law_letters"] [0,2]:=0xB
theorem ndN1:((["_law_k"]:List Str)++(["_law_d", "_law_letters"]:List Str)).Nodup:=by decide +kernel
theorem V8 (F:fK K "_law_names" "_law_names" Ar f fd) (ml:mg "len"=none) (mr:mg "range"=none):aJ P w K mg base bM 1 f fd ["_law_d", "_law_many"] (Av K):=by
 refine F.ok jH 0x1 0x3;obtain ⟨a,ds,many,rfl,hS,hlen,hok,m0,m1,k⟩:=h;refine ⟨_,aq (aR (i:=2) jH.nd rfl (Or.inr rfl) aK)
  (aq (aR (i:=4) jH.nd rfl 0x7 (iz PySem.F.plainAttrs_str PySem.F.slot_str_join PySem.F.type_str_join W4 aK (aj
    (gO rfl csN1
     (lH rfl mr (aj (aY bY 0x4B aA) aC))
     (fun s H fp C=>⟨bC (i:=0) ndN1 rfl 0x7,mj,aP Q0 0x2B (aY bY (aY cZ (aP (Cj (K:=K)) 0xF aA 0x4)
      (aY kY (aY cZ 0x32 aA) (aY jB (aP (Cj (K:=K)) 0xF aA 0x4) aA))) aA) 0x4⟩)) aC)))
  (aq (aR (i:=5) jH.nd rfl 0x7 (aY bY 0x4B (aY cZ (bG yM rfl ml A1v (aj (pv 4) aC)) aA)))
  (aq (aR (i:=6) jH.nd rfl 0x7 (dN aC))
  (aq (gJ A0U rfl (lH rfl mr 0x38) (bC (i:=3) jH.nd rfl 0x7)
   (aq (aR (i:=7) jH.nd rfl 0x7 (aP Q0 0x2B (aY bY (aY cZ 0x4B (aY kY aA 0x5D)) aA) 0x4))
   (aq (aR (i:=8) jH.nd rfl 0x7 (aY uz (aY uz (fj Qh (pv 4) fY (cF (pv 5))) (pv 7)) (fj Qh (pv 4) (cF (pv 5)) fY)))
   (aq (bN (aQ dI (aY bY (aY jB 0x4B aA) aA) aA 0x61)
    (aG (aR (i:=8) jH.nd rfl 0x7 (aY FW (pv 7) (aY cZ aA (aY bY (aY cZ 0x4B (aY kY aA 0x5D)) aA))))) aU)
   (aG (bL (iz A0z A0Q A0R cQ (pv 6) (aj (pv 8) aC))))))))
  (aG (aV (pv 6))))))),?_⟩
 obtain ⟨d0,e0,o0⟩:=gY hok (i:=0) 0x5 0x2;obtain ⟨d1,e1,o1⟩:=gY hok (i:=1) 0x5 0x2;obtain ⟨d2,e2,o2⟩:=gY hok (i:=2) 0x5 0x2;obtain ⟨d3,e3,o3⟩:=gY hok (i:=3) 0x5 0x2;obtain ⟨o0a,o0b⟩:=o0;obtain ⟨o1a,o1b⟩:=o1;obtain ⟨o2a,o2b⟩:=o2;obtain ⟨o3a,o3b⟩:=o3;refine ⟨rfl,_,rfl,a,_,_,_,rfl,rfl,hS,e1,_,_,rfl,rfl,(by show (0:Int)<8;decide),d1 % 8,rfl,by lia,by lia,fun D hD=>?_⟩
 refine FN (lo:=0) (n:=(d1 % 8).toNat) (fun i ys H2=>∃ cs:List Nat,ys=cs.map (fun c=>V.str (mZ [c]))/\cs.length=i/\(∀ c∈cs,low c=true)/\Same H H2/\H2 D=some 0x78)
  ⟨[],rfl,rfl,(fun c hc=>nomatch hc),aM hD _,ao⟩ (fun i ys H2 ⟨cs,_,_,_,_,h⟩=>h) ?_ ?_
 ·rintro i ys H2 hi ⟨cs,rfl,hl,hc,s2,h2⟩;have S2:=s2.seq hS;refine ⟨Kp.set rfl 0x69,?_⟩;refine jN ?_;have hm0:=A0V (d0+(0+(i:Int)+1) * (d1 / 8)) (show (26:Int)≠0 by decide)
  have hm1:=A0N (d0+(0+(i:Int)+1) * (d1 / 8)) (show (0:Int)<26 by decide)
  have hT:((d0+(0+(i:Int)+1) * (d1 / 8)) % 26).toNat<26:=by
   generalize (d0+(0+(i:Int)+1) * (d1 / 8)) % 26=T at hm0 hm1 ⊢;lia
  refine ⟨_,rfl,_,rfl,a,_,_,_,rfl,rfl,S2,e0,_,rfl,_,_,rfl,rfl,_,rfl,a,_,_,_,rfl,rfl,S2,e1,_,_,rfl,rfl,⟨by decide,by decide⟩,_,_,rfl,rfl,.inl ⟨by lia,by lia⟩,_,_,rfl,rfl,_,_,rfl,rfl,(by show (0:Int)<26;decide),
   _,_,_,rfl,rfl,(by show az.length<=sizeLine;decide +kernel),V6 hm0 hm1,h2,?_,?_⟩
  ·rw [bV];exact bR 0x2
  ·exact ⟨cs++[97+((d0+(0+(i:Int)+1) * (d1 / 8)) % 26).toNat],by rw [jw];rfl,by simp [hl],(fun d hd=>by
    rcases A0x.mp hd with z | z
    ·exact hc d z
    ·rw [A0c.mp z];exact V7 hT),bK s2 hD,ao⟩
 ·rintro ys H2 ⟨cs,rfl,hl,hc,s2,h2⟩;have hm:cs.map (fun c=>V.str (mZ [c]))=(cs.map (fun c=>mZ [c])).map V.str:=by simp
  refine ⟨_,D,cs.map (fun c=>mZ [c]),rfl,rfl,bO.of (by rw [<- hm];exact h2),XJ 0x2,?_⟩;rw [Ir];have S2:=s2.seq hS;have lc:(mZ cs).length=cs.length:=jE cs;refine ⟨_,rfl,a,_,_,_,rfl,rfl,S2,e2,_,rfl,_,rfl,(by rw [lc];exact small 0x2),_,_,rfl,rfl,_,_,rfl,rfl,(by rw [lc];lia),?_⟩;rw [lc];have q0:0<=d2 % ((cs.length:Int)+1):=A0V _ 0x2;have q1:d2 % ((cs.length:Int)+1)<(cs.length:Int)+1:=A0N _ 0x2;obtain ⟨at_,hat⟩:∃ n:Nat,d2 % ((cs.length:Int)+1)=(n:Int):=⟨(d2 % ((cs.length:Int)+1)).toNat,by lia⟩;rw [hat] at q0 q1;refine ⟨small 0xA,fun l hl0=>?_⟩;have hl1:H l=none:=s2.free hl0;refine ⟨_,rfl,many,rfl,by lia,by lia,?_⟩;refine lK (lo:=0) (n:=many.toNat) (fun j σ H4=>∃ (zs:List Str) (u1 u2 u3:Option V),σ=[some 0x3C,some (.int many),some (.str az),u1,some (.str (mZ cs)),some (.int (at_:Int)),some (.ref l),u2,u3]/\Same H H4/\H4 l=some (.lst 0x8C)/\zs.length=j/\Told (if d2 / 8 % 2=1 then 0 else at_) d3 zs)
   ⟨[],none,none,none,(by rw [<- hat];rfl),bK s2 hl1,ao,rfl,fun j z h=>by simp at h⟩ ?_ ?_
  ·rintro j σ H4 hj ⟨zs,u1,u2,u3,rfl,s4,hL,hz,ht⟩;have S4:=s4.seq hS;have hm0:=A0V (d3+7 * (0+(j:Int))) (show (26:Int)≠0 by decide)
   have hm1:=A0N (d3+7 * (0+(j:Int))) (show (0:Int)<26 by decide)
   refine ⟨_,rfl,_,rfl,a,_,_,_,rfl,rfl,S4,e3,_,rfl,_,_,rfl,rfl,.inl ⟨by decide,by decide⟩,_,_,rfl,rfl,_,_,rfl,rfl,(by show (0:Int)<26;decide),_,_,_,rfl,rfl,(by show az.length<=sizeLine;decide +kernel),V6 hm0 hm1,?_⟩
   have hc0:low (97+((d3+7 * (0+(j:Int))) % 26).toNat)=true:=V7 0x2;have hcj:97+((d3+7 * (0+(j:Int))) % 26).toNat=97+((d3+7 * (zs.length:Int)) % 26).toNat:=by rw [hz,Int.zero_add]
   generalize 97+((d3+7 * (0+(j:Int))) % 26).toNat=c at hc0 hcj ⊢;refine ⟨_,rfl,_,rfl,_,rfl,_,rfl,(by rw [lc];exact small 0x2),_,rfl,?_⟩;have f1:sU (mZ cs).cps.toList none (some (at_:Int))=cs.take at_:=XQ (by show at_<=cs.length;lia)
   have f2:sU (mZ cs).cps.toList (some (at_:Int)) none=cs.drop at_:=Oh (by show at_<=cs.length;lia)
   rw [f1];have l1:(mZ (cs.take at_)++mZ [c]).length=at_+1:=by rw [XM,jE,jE,A0G,A2t 0x2];rfl
   refine ⟨_,_,rfl,rfl,(by rw [jE,jE,A0G];exact small (by simp;lia)),?_⟩;refine ⟨_,rfl,_,rfl,_,rfl,_,rfl,(by rw [lc];exact small 0x2),?_⟩;rw [f2];refine ⟨_,_,rfl,rfl,(by rw [l1,jE,A1H];exact small 0x2),?_⟩;have en:(mZ (cs.take at_)++mZ [c]++mZ (cs.drop at_)).cps.toList=cs.take at_++[c]++cs.drop at_:=by rw [app_list,app_list]
   refine ⟨_,rfl,a,_,_,_,rfl,rfl,S4,e2,_,_,rfl,rfl,⟨by decide,by decide⟩,_,_,rfl,rfl,(by show (0:Int)<2;decide),rfl,_,rfl,?_⟩
   refine iU (fun hb=>?_) (fun hb=>?_)
   ·have hb1:d2 / 8 % 2=1:=by
     have:=rT hb;injection this
    rw [A0i hb1] at ht ⊢;refine ⟨_,rfl,_,rfl,a,_,_,_,rfl,rfl,S4,e0,_,rfl,_,_,rfl,rfl,.inl ⟨by decide,by decide⟩,_,_,rfl,rfl,_,_,rfl,rfl,(by show (0:Int)<8;decide),_,_,rfl,rfl,?_⟩
    have r0:=A0V (d0+3 * (0+(j:Int))) (show (8:Int)≠0 by decide)
    have r1:=A0N (d0+3 * (0+(j:Int))) (show (0:Int)<8 by decide)
    refine ⟨_,_,rfl,rfl,by lia,by lia,(by show (mZ [c]).length<=1000;rw [jE];simp),?_⟩
    have ec:(mZ [c]).cps.toList=[c]:=rfl;rw [ec,rep1];refine ⟨_,rfl,.inl ⟨rfl,_,bO.of hL⟩,_,rfl,l,_,_,rfl,rfl,hL,0x62,?_⟩;refine ⟨zs++[mZ (List.replicate (1+(d0+3 * (0+(j:Int))) % 8).toNat c)],_,_,_,rfl,bK s4 hl1,by rw [ao,jw];rfl,by rw [iw,A0r,hz],ht.snoc ?_ ?_⟩
    ·rw [<- hcj]
     show (List.replicate _ c)[0]?=some c
     rw [A3Q,A0i 0x2]
    ·refine Ep (fun x hx=>?_) ?_ ?_
     ·have:=(List.mem_replicate.mp hx).2;rw [this];exact hc0
     ·show 1<=(List.replicate _ c).length
      rw [A1R];lia
     ·show (List.replicate _ c).length<=8
      rw [A1R];lia
   ·have hb1:¬ d2 / 8 % 2=1:=fun e=>hb (by show decide (V.int (d2 / 8 % 2)=V.int 1)=true;rw [e];rfl)
    rw [A0e hb1] at ht ⊢;refine ⟨_,rfl,.inl ⟨rfl,_,bO.of hL⟩,_,rfl,l,_,_,rfl,rfl,hL,0x62,?_⟩;refine ⟨zs++[mZ (cs.take at_)++mZ [c]++mZ (cs.drop at_)],_,_,_,rfl,bK s4 hl1,by rw [ao,jw];rfl,by rw [iw,A0r,hz],ht.snoc ?_ ?_⟩
    ·rw [en,<- hcj,A2P,A0W (by rw [A0G];lia),A0G,A2t 0x2,A3w];rfl
    ·rw [en];refine Ep (fun x hx=>?_) ?_ ?_
     ·rcases A0x.mp hx with z | z
      ·rcases A0x.mp z with z | z
       ·exact hc x (A2o z)
       ·rw [A0c.mp z];exact hc0
      ·exact hc x (A3r z)
     ·rw [iw,iw,A0r];lia
     ·rw [iw,iw,A0G,A1H,A0r];lia
  ·rintro σ H4 ⟨zs,u1,u2,u3,rfl,s4,hL,hz,ht⟩;refine ⟨_,rfl,k l H4 zs s4 hl1 hL hz (fun z hzm=>?_) (ht.nodup 0x2)⟩;obtain ⟨i,hi,rfl⟩:=A1X.mp hzm;exact (ht i _ (ju hi)).2
abbrev Iu:Stmt:=top 67
theorem vR {fs:List Int} (h:i<=j) (hj:j<=fs.length):gK 0x7A (some (i:Int)) (some (j:Int))=((fs.drop i).take (j - i)).map V.int:=by
 unfold gK;rw [HT.jZ,HT.jZ,bV,A2t hj,A2t (A0O h hj),List.map_take,List.map_drop]
theorem Iv {fs:List Int} (h:∀ v∈fs,vZ v):∀ v∈(fs.drop i).take n,vZ v:=fun v hv=>h v (A3r (A2o hv))
def Nm (z:Str):Prop:=nameB z.cps.toList=true
theorem Nm.ne (h:Nm z):z≠""/\PyData.strOk z=true:=by
 unfold Nm nameB at h;rw [A0Y,A0Y] at h
 constructor
 ·intro e;rw [e] at h;have:=rT h.2.1;exact absurd this 0x8
 ·unfold PyData.strOk;rw [<- Array.all_toList,A1I];intro c hc;have:=A1I.mp h.1 c hc;unfold low at this;simp at this ⊢;lia
structure Er (H:Hp) (r m la:Addr) (ms ls:List Str) (wd:Int):Prop where
 r:H r=some (.tup [.ref m,.ref la,.int wd])
 m:H m=some (.lst (ms.map V.str))
 la:H la=some (.lst (ls.map V.str))
 lm:ms.length=6
 ll:ls.length=9
 nm:ms.Nodup
 om:∀ z∈ms,Nm z
 ol:∀ z∈ls,Nm z
 w1:1<=wd
 w2:wd<=9999
theorem Er.same {r m la:Addr}{ms:List Str} (p:Er H r m la ms ls wd) (s:Same H H'):Er H' r m la ms ls wd:=⟨s _ _ p.r,s _ _ p.m,s _ _ p.la,p.lm,p.ll,p.nm,p.om,p.ol,p.w1,p.w2⟩
inductive Aw (K:W.Frag) (vs:List V) (H:Hp) (Q:VK) (cD:XK):Prop
 | mk (a:Addr) (fs:List Int) (_:vs=[.ref a]) (_:bO K H a 0x7A) (_:20<=fs.length) (_:(∀ v∈fs,vZ v)) (_:∀ r m la ms ls wd H',Same H H'->Er H' r m la ms ls wd->Q 0x71 H'):Aw K vs H Q cD
theorem idx9:idxV 9 (some 8) (some 2) (some (-1))=[8,7,6,5,4,3]:=by decide +kernel
theorem nine (h:ls.length=9):∃ a b c d e f g i j,ls=[a,b,c,d,e,f,g,i,j]:=by
 match ls,h with
 | [a,b,c,d,e,f,g,i,j],_=>exact ⟨a,b,c,d,e,f,g,i,j,rfl⟩
theorem Ax:aO ["_law_feed_here", "_law_wide", "_law_lands"] ["_law_feed_here"] (aH Iu):=0x0
theorem V9 (F:fK K "_law_pools" "_law_pools" Iu f fd)  (G1:aJ P w K mg base bM 1 g1 d1 ["_law_d", "_law_many"] (Av K)) (M1:Ms K mg "_law_names" g1 d1 ["_law_d", "_law_many"]):aJ P w K mg base bM 2 f fd ["_law_feed_here"] (Aw K):=by
 refine F.ok Ax 0x1 0x3;obtain ⟨a,fs,rfl,hS,hlen,hok,k⟩:=h;refine ⟨_,(aq (aR (i:=1) Ax.nd rfl 0x7 (aP bD (dN (aj (aY cZ aA (aY bY 0x4B aA)) (aj (aY cZ aA (aY bY 0x4B aA)) (aj (aY yH aA (aY bY 0x4B aA)) (aj aA aC))))) (aY bY 0x4B aA) 0x4))
  (aq (aR (i:=2) Ax.nd rfl 0x7 (bF G1 hr rfl M1.m M1.k M1.b .nil aX (aj (fj jC 0x32 (cF aA) (cF aA)) (aj aA aC))))
  (aq (bN (aQ dI (aY bY (aY jB 0x4B aA) aA) aA 0x61) (aG (aV (cP (aj (oK 0x2B (cF aA) (cF aA) (cF (uw pq aA))) (aj 0x2B 0x38))))) aU)
  (aG (aV (cP (aj (bF G1 hr rfl M1.m M1.k M1.b .nil aX (aj (fj jC 0x32 (cF aA) (cF aA)) (aj aA aC))) (aj 0x2B 0x38)))))))),?_⟩
 obtain ⟨d12,e12,o12⟩:=gY hok (i:=12) 0x5 0x2;obtain ⟨d13,e13,o13⟩:=gY hok (i:=13) 0x5 0x2;obtain ⟨o12a,o12b⟩:=o12;obtain ⟨o13a,o13b⟩:=o13;refine ⟨_,rfl,a,_,_,_,rfl,rfl,hS,e12,_,_,rfl,rfl,(by show (0:Int)<200;decide),_,_,rfl,rfl,_,rfl,a,_,_,_,rfl,rfl,hS,e12,_,_,rfl,rfl,(by show (0:Int)<9;decide),_,_,rfl,rfl,_,rfl,a,_,_,_,rfl,rfl,hS,e12,_,_,rfl,rfl,(by show (0:Int)<50;decide),_,_,rfl,rfl,small 0xA,fun l hl=>?_⟩
 apply 0o1 H l hl s1 k1 H1
 have S1:=s1.seq hS;obtain ⟨x,hx,hm⟩:=oM (xs:=[V.int (7+d12 % 200),.int (1+d12 % 9),.int (9999 - d12 % 50),.int 40]) (i:=d13 % 4) 0x2 (by simp;lia);obtain ⟨wd,rfl,w1,w2⟩:∃ wd:Int,x=.int wd/\1<=wd/\wd<=9999:=by
  simp only [A0d,A0u,A1m] at hm;rcases hm with rfl | rfl | rfl | rfl
  ·exact ⟨_,rfl,by lia,by lia⟩
  ·exact ⟨_,rfl,by lia,by lia⟩
  ·exact ⟨_,rfl,by lia,by lia⟩
  ·exact ⟨_,rfl,by lia,by lia⟩
 refine ⟨_,rfl,a,_,_,_,rfl,rfl,S1,e13,_,_,rfl,rfl,(by show (0:Int)<4;decide),l,_,_,_,rfl,rfl,bO.of k1,hx,?_⟩
 refine ⟨_,rfl,_,rfl,_,rfl,a,_,rfl,S1,fun p1 hp1=>?_⟩;have c1:gK 0x7A (some 8) (some 12)=((fs.drop 8).take 4).map V.int:=vR (i:=8) (j:=12) 0x5 0x2;rw [c1];have s2:=s1.trans (aM hp1 (.lst (((fs.drop 8).take 4).map V.int)));refine ⟨p1,_,9,rfl,bO.of ao,by rw [A0G,A1H];lia,Iv hok,by decide,by decide,fun la H2 ls s12 hla hla' hll hln hnd=>?_⟩;have s02:=s2.trans s12;have S2:=s02.seq hS;refine ⟨_,rfl,a,_,_,_,rfl,rfl,S2,e13,_,_,rfl,rfl,⟨by decide,by decide⟩,_,_,rfl,rfl,(by show (0:Int)<4;decide),rfl,_,rfl,?_⟩
 refine iU 0x86 0x86
 ·refine ⟨_,rfl,_,rfl,_,rfl,_,rfl,_,rfl,la,_,rfl,bO.of hla',by decide,?_,fun p2 hp2=>?_⟩
  ·unfold nZ;rw [bV,show ls.length=9 from hll,idx9]
   exact A0O (List.length_filterMap_le _ _) 0x5
  have ep:nZ (ls.map V.str) (some 8) (some 2) (some (-1))=([8,7,6,5,4,3].filterMap (ls[·]?)).map V.str:=by
   unfold nZ;rw [bV,show ls.length=9 from hll,idx9]
   obtain ⟨a,b,c,d,e,f,g,i,j,rfl⟩:=nine (show ls.length=9 from hll)
   rfl
  rw [ep];have s3:=aM hp2 (.lst (([8,7,6,5,4,3].filterMap (ls[·]?)).map V.str));refine ⟨_,rfl,_,rfl,small 0xA,fun r hr0=>?_⟩;have s4:=aM hr0 (.tup [.ref p2,.ref la,.int wd]);refine k r p2 la ([8,7,6,5,4,3].filterMap (ls[·]?)) ls wd _ ((s02.trans s3).trans s4) ⟨ao,s4 _ _ ao,s4 _ _ (s3 _ _ hla'),?_,hll,?_,?_,hln,w1,w2⟩
  ·obtain ⟨a,b,c,d,e,f,g,i,j,rfl⟩:=nine (show ls.length=9 from hll)
   rfl
  ·obtain ⟨a,b,c,d,e,f,g,i,j,rfl⟩:=nine (show ls.length=9 from hll)
   show [j,i,g,f,e,d].Nodup
   simp only [A0M,A0d,A0u,A1m,A5c,A3Y,and_true,A4Y] at hnd ⊢;obtain ⟨_,_,_,h4,h5,h6,h7,h8⟩:=hnd;refine ⟨⟨A0m h8,A0m h7.2,A0m h6.2.2,A0m h5.2.2.2,A0m h4.2.2.2.2⟩,⟨A0m h7.1,A0m h6.2.1,A0m h5.2.2.1,A0m h4.2.2.2.1⟩,⟨A0m h6.1,A0m h5.2.1,A0m h4.2.2.1⟩,⟨A0m h5.1,A0m h4.2.1⟩,A0m h4.1⟩
  ·intro z hz;obtain ⟨i,_,hi⟩:=A4J.mp hz;exact hln z (vY hi)
 ·refine ⟨_,rfl,_,rfl,_,rfl,a,_,rfl,S2,fun p2 hp2=>?_⟩;have c2:gK 0x7A (some 4) (some 8)=((fs.drop 4).take 4).map V.int:=vR (i:=4) (j:=8) 0x5 0x2;rw [c2];have s3:=aM hp2 (.lst (((fs.drop 4).take 4).map V.int));refine ⟨p2,_,6,rfl,bO.of ao,by rw [A0G,A1H];lia,Iv hok,by decide,by decide,fun me H3 ms s13 hme hme' hlm hmn hmd=>?_⟩;refine ⟨_,rfl,_,rfl,small 0xA,fun r hr0=>?_⟩;have s4:=aM hr0 (.tup [.ref me,.ref la,.int wd]);exact k r me la ms ls wd _ (((s02.trans s3).trans s13).trans s4) ⟨ao,s4 _ _ hme',s4 _ _ (s13 _ _ (s3 _ _ hla')),hlm,hll,hmd,hmn,hln,w1,w2⟩
end M
namespace L2
open PySem PySem.Spec PyProof.Rows PySem.W
theorem wC (h:X.K=K:=by rfl):nA X (compareOp .NotIn) (rIn K true):=h ▸ pW
theorem Va:bootBuiltins "min"=some (.builtin "min"):=by decide +kernel
theorem grab {a b:TS}{D:Ends} (Pv:St->Hp->Prop) (h2:∀ σ' H',Pv σ' H'->b D σ' H') (h1:(∀ σ' H',Pv σ' H'->b D σ' H')->a { D with nx:=fun σ' H'=>b D σ' H' } σ H):OJ a b D σ H:=h1 h2
end L2
namespace M
open PySem L2 PyProof.Rows
abbrev Vb:Stmt:=top 69
theorem XS (h:Int) (l:List Int):inV (V.int h) (l.map V.int)=decide (h∈l):=by
 unfold inV
 induction l with
 | nil=>rfl
 | cons x r ih =>
  rw [A0h,A2y,ih]
  show ((x==h)||decide (h∈r))=_
  rw [A1n,Bool.or_eq_true,A1M,A1M,A0d,A3N]
  constructor
  ·rintro (e | e)
   ·exact .inl e.symm
   ·exact .inr e
  ·rintro (e | e)
   ·exact .inl e.symm
   ·exact .inr e
theorem a1b {h:Int} (l:List Int) {A:Prop} (h1:h∈l->A) (h2:h∉l->B):if (if (false:Bool)=true then !inV (V.int h) (l.map V.int) else inV (V.int h) (l.map V.int))=true then A else B:=by
 rw [A0e A0o,XS];exact iU (fun c=>h1 (rT c)) fun c=>h2 fun z=>c (A0k z)
theorem eq_int {h l:Int}{A:Prop} (h1:h=l->A) (h2:h≠l->B):if decide (V.int h=V.int l)=true then A else B:=by
 refine iU (fun c=>h1 ?_) fun c=>h2 fun z=>c (A0k (by rw [z]));have:=rT c;injection this
theorem eq_str {h l:Str}{A:Prop} (h1:h=l->A) (h2:h≠l->B):if decide (V.str h=V.str l)=true then A else B:=by
 refine iU (fun c=>h1 ?_) fun c=>h2 fun z=>c (A0k (by rw [z]));have:=rT c;injection this
theorem pK {i:Int} (h0:0<=i) (h1:i<zs.length):∃ z,wM 0x8C i=some (V.str z)/\z∈zs:=by
 obtain ⟨v,hv,hm⟩:=oM (xs:=zs.map V.str) h0 (by rw [bV];exact h1);obtain ⟨z,hz,rfl⟩:=A0j.mp hm;exact ⟨z,hv,hz⟩
theorem Y0 {f:aN->V} (es:List aN):(0x52).map (fun x=>kV x.1)=(0x55).map V.str:=by rw [A0S,A0S];rfl
inductive Vc (K:W.Frag) (vs:List V) (H:Hp) (Q:VK) (cD:XK):Prop
 | mk (q:Ad) (es:List aN) (ks:List Str) (p d m la:Addr) (ms ls:List Str) (wd dy:Int) (ds:List Int) (_:vs=[.ref q.B,.ref p,.ref d,.int dy]) (_:Ap q) (_:Bk q H es ks) (_:WF es) (_:es.length<64) (_:Er H p m la ms ls wd) (_:bO K H d (ds.map V.int)) (_:ds.length=8) (_:(∀ v∈ds,vZ v)) (_:(∀ d0,wM (ds.map V.int) 0=some (.int d0)->d0 % 13<4\/d0 % 13=7\/d0 % 13=10\/d0 % 13=11)) (_:∀ r (cO:Ro) H',Same H H'->H' r=some (.tup (Ro.vs dy cO))->cO.Ok ls->cO.Tx->Q 0x71 H'):Vc K vs H Q cD
theorem jT:aO A5G A5R (aH Vb):=0x0
def a2A:Scope:={ kind:=.function,names:=[0x79,("_law_one",.local),("_law_book_here",.free)],isGenerator:=false,isCoroutine:=false }
theorem a2B:fu A5G (aH Vb) a2A ["_law_one"] ["_law_book_here"] [0]:=0xB
theorem a2C:((["_law_one"]:List Str)++(["_law_book_here"]:List Str)).Nodup:=by decide +kernel
def a2D:Scope:={ kind:=.function,names:=[0x79,("_law_one",.local),("_law_man",.free)],isGenerator:=false,isCoroutine:=false }
theorem a2E:fu A5G (aH Vb) a2D ["_law_one"] ["_law_man"] [8]:=0xB
theorem a2F:((["_law_one"]:List Str)++(["_law_man"]:List Str)).Nodup:=by decide +kernel
theorem a1c (F:fK K "_law_row" "_law_row" Vb f fd) (ms:mg "sorted"=none) (mli:mg "list"=none) (mn:mg "len"=none) (mmax:mg "max"=none) (a1d:mg "min"=none):aJ P w K mg base bM 4 f fd A5R (Vc K):=by
 refine F.ok jT 0x1 0x3;obtain ⟨q,es,ks,p,d,m,la,mz,ls,wd,dy,ds,rfl,ap,bk,W,hl,pl,hS,hdl,hdo,hw,k⟩:=h;refine ⟨_,(aq (aR (i:=4) jT.nd rfl 0x7 0x19)
  (aq (aR (i:=5) jT.nd rfl 0x7 0x19)
  (aq (aR (i:=6) jT.nd rfl 0x7 (bG fQ rfl ms fV (aj (fU (GX hr.hd) rfl mli oG (aj 0x1A aC)) aC)))
  (aq (aR (i:=7) jT.nd rfl 0x7 (aP bD (pv 6) (aY bY 0x34 (bG cT rfl mn A1v (aj (pv 6) aC))) 0x4))
  (aq (aR (i:=8) jT.nd rfl (Or.inr rfl) (aP bD (pv 4) (aY bY 0x34 (bG cT rfl mn A1v (aj (pv 4) aC))) 0x4))
  (aq (Jp (i:=9) rfl a2B (eY (pv 5)) (fun s H fp C'=>⟨bC (i:=0) a2C rfl 0x7,kI (aQ (wC (K:=K)) 0x32 0x68 0x11),0x32⟩) jT.nd rfl 0x7)
  (aq (aR (i:=10) jT.nd rfl 0x7 (aP bD (aY pA (pv 9) (pv 5)) (aY bY 0x34 (bG (wF rfl) rfl mmax Qi (aj aA (aj (bG cT rfl mn A1v (aj (pv 9) aC)) aC)))) 0x4))
  (aq (bN (aQ Ph (aY bY 0x34 aA) aA 0x61) (aq (aR (i:=10) jT.nd rfl 0x7 (aP bD (pv 5) (aY bY 0x34 (bG cT rfl mn A1v (aj (pv 5) aC))) 0x4))
  (aG (aR (i:=7) jT.nd rfl 0x7 (aP bD (aY pA (dN (aj aK aC)) (pv 5)) (aY bY 0x34 aA) 0x4)))) aU)
  (aq (aR (i:=11) jT.nd rfl 0x7 (Qx 0x17 0x1A (pv 7) aA ⟨rfl,rfl,rfl,rfl⟩))
  (aq (aR (i:=12) jT.nd rfl 0x7 (aY cZ aA (aY bY 0x34 (bG (wF rfl) rfl mmax Qi (aj aA (aj (pv 11) aC))))))
  (aq (bN (aQ dI (aY bY 0x34 aA) aA 0x61) (aG (aR (i:=12) jT.nd rfl 0x7 (bG (wG rfl) rfl a1d Va (aj aA (aj (aY cZ (aY cZ (pv 11) aA) (aY bY 0x34 aA)) aC))))) aU)
  (aq (aR (i:=13) jT.nd rfl 0x7 (aY bY 0x34 aA))
  (aq (bN (PW.pt (ug (aQ ux (pv 13) aA 0x61) (oZ (PW.pt (ni (aQ dI (pv 7) aK 0x61) (jY (aQ gU (pv 13) (cP (aj aA (aj aA (aj aA (aj aA (aj aA aC)))))) 0x11))))))) (aG (aV (cP (aj aK (aj 0x5D (aj (pv 7) (aj (pv 10) (aj (pv 8) (aj (pv 12) (aj (aP bD (dN (aj aA (aj aA (aj (aY bY 0x34 aA) (aj (aY yH aA (aY bY 0x34 aA)) aC))))) (aY bY 0x34 aA) 0x4) aC)))))))))) aU)
  (aq (bN (PW.pt (ug (aQ dI (pv 13) aA 0x61) (oZ (aQ dI (pv 13) aA 0x61)))) (aG (aV (cP (aj aK (aj 0x5D (aj (pv 7) (aj (pv 10) (aj (pv 8) (aj (pv 12) aC))))))))) aU)
  (aq (bN (aQ ux (pv 13) aA 0x61) (aG (aV (cP (aj aK (aj 0x5D (aj (pv 7) (aj (pv 8) aC))))))) aU)
  (aq (bN (PW.pt (ug (aQ dI (pv 13) aA 0x61) (oZ (aQ dI (pv 13) aA 0x61)))) (aq (Jp (i:=14) rfl a2E (eY (pv 4)) (fun s H fp C'=>⟨bC (i:=0) a2F rfl 0x7,kI (aQ nF 0x32 0xF 0x61),0x32⟩) jT.nd rfl 0x7)
  (aG (aV (cP (aj aK (aj 0x5D (aj (pv 8) (aj (aP bD (pv 14) (aY bY 0x34 (bG cT rfl mn A1v (aj (pv 14) aC))) 0x4) aC)))))))) aU)
  (aq (bN (aQ dI (pv 13) aA 0x61) cA aU)
  (aq (bN (aQ dI (pv 13) aA 0x61) (aG (aV (cP (aj aK (aj 0x5D (aj (pv 7) aC)))))) aU)
  (aG (aV (cP (aj aK (aj 0x5D (aj (pv 8) aC)))))))))))))))))))))))),?_⟩
 obtain ⟨d0,e0,o0⟩:=gY hdo (i:=0) 0x5 0x2;obtain ⟨o0a,o0b⟩:=o0;obtain ⟨d1,e1,o1⟩:=gY hdo (i:=1) 0x5 0x2;obtain ⟨o1a,o1b⟩:=o1;obtain ⟨d2,e2,o2⟩:=gY hdo (i:=2) 0x5 0x2;obtain ⟨o2a,o2b⟩:=o2;obtain ⟨d3,e3,o3⟩:=gY hdo (i:=3) 0x5 0x2;obtain ⟨o3a,o3b⟩:=o3;obtain ⟨d4,e4,o4⟩:=gY hdo (i:=4) 0x5 0x2;obtain ⟨o4a,o4b⟩:=o4;obtain ⟨d5,e5,o5⟩:=gY hdo (i:=5) 0x5 0x2;obtain ⟨o5a,o5b⟩:=o5;obtain ⟨d6,e6,o6⟩:=gY hdo (i:=6) 0x5 0x2;obtain ⟨o6a,o6b⟩:=o6;obtain ⟨d7,e7,o7⟩:=gY hdo (i:=7) 0x5 0x2;obtain ⟨o7a,o7b⟩:=o7;have lm:=pl.lm;have ll:=pl.ll;have npos:0<es.length:=by
  obtain ⟨c,r,e,_⟩:=W.hd;rw [e];simp
 refine ⟨_,rfl,p,_,_,_,rfl,rfl,cj.of pl.r,aL (j:=0) rfl,?_⟩;refine ⟨_,rfl,p,_,_,_,rfl,rfl,cj.of pl.r,aL (j:=1) rfl,?_⟩;refine ⟨_,rfl,q.B,_,rfl,bk.gl,q.l,_,rfl,bk.l,fun t1 ht1=>?_⟩;rw [Y0];have s1:=aM ht1 (.lst ((0x55).map V.str));refine ⟨t1,nms es,rfl,bO.of ao,by rw [bV];exact hl,fun th ts hth hpt _=>?_⟩;have s2:=s1.trans (aM hth (.lst (ts.map V.str)));have k2:(upd (upd H t1 (.lst ((0x55).map V.str))) th (.lst (ts.map V.str))) th=some (.lst (ts.map V.str)):=ao;generalize upd (upd H t1 (.lst ((0x55).map V.str))) th (.lst (ts.map V.str))=H2 at s2 k2 ⊢;have tl:ts.length=es.length:=by rw [hpt.length_eq,bV]
 have S2:=s2.seq hS;obtain ⟨est0,he0,hem0⟩:=pK (zs:=ts) (i:=d1 % ((ts.map V.str).length:Int)) (A0V _ (by rw [bV];lia)) (by have:=A0N d1 (show (0:Int)<((ts.map V.str).length:Int) by rw [bV];lia);rw [bV] at this ⊢;exact this)
 refine ⟨_,rfl,_,rfl,d,_,_,_,rfl,rfl,S2,e1,_,rfl,th,_,rfl,.inl (bO.of k2),_,_,rfl,rfl,(by rw [bV];show (0:Int)<((ts.length:Nat):Int);lia),th,_,_,_,rfl,rfl,bO.of k2,he0,?_⟩
 have km2:=s2 _ _ pl.m;have kl2:=s2 _ _ pl.la;obtain ⟨man,hm0,hmm⟩:=pK (zs:=mz) (i:=d2 % ((mz.map V.str).length:Int)) (A0V _ (by rw [bV];lia)) (by have:=A0N d2 (show (0:Int)<((mz.map V.str).length:Int) by rw [bV];lia);rw [bV] at this ⊢;exact this)
 refine ⟨_,rfl,_,rfl,d,_,_,_,rfl,rfl,S2,e2,_,rfl,m,_,rfl,.inl (bO.of km2),_,_,rfl,rfl,(by rw [bV];show (0:Int)<((mz.length:Nat):Int);lia),m,_,_,_,rfl,rfl,bO.of km2,hm0,?_⟩
 have a1e:man≠"":=((pl.om man hmm).ne).1;refine ⟨_,rfl,la,rfl,⟨_,bO.of kl2⟩,fun D hD=>lV (xs:=ls) (fun x=>!decide (x∈ks)) V.str (bO.of kl2) hD 0x2 (fun x Hz A B hx sz hAB=>?_) (fun Hz sz jU=>?_)⟩
 ·have hAB:=hAB _ 0x5C;have bz:=bk.same (s2.trans sz);refine ⟨Kp.set rfl 0x69,_,rfl,_,rfl,q.B,_,rfl,bz.gk,q.kn,_,rfl,.inl (bO.of bz.k),rfl,jM _,_,rfl,?_⟩
  show if (!inV (V.str x) (ks.map V.str))=true then _ else _
  rw [qK];refine iU 0x45 0x45
  ·rw [A0i c] at hAB;exact ⟨_,rfl,hAB⟩
  ·rw [A0e c] at hAB;exact hAB
 have fsub:∀ z∈ls.filter (fun x=>!decide (x∈ks)),z∈ls:=fun z hz=>(A0J.mp hz).1;have fle:(ls.filter fun x=>!decide (x∈ks)).length<=9:=by have:=A0K (fun x=>!decide (x∈ks)) ls;lia
 generalize (ls.filter fun x=>!decide (x∈ks))=fr at jU fsub fle;have s3:=s2.trans sz;have S3:=s3.seq hS;have kl3:=sz _ _ kl2;refine ⟨_,rfl,_,rfl,D,la,_,_,rfl,rfl,jU,kl3,(by rw [bV,bV];exact small 0x2),fun c1 hc1=>?_⟩;have e1':fr.map V.str++ls.map V.str=(fr++ls).map V.str:=by rw [jw]
 rw [e1'];have s4:=s3.trans (aM hc1 (.lst ((fr++ls).map V.str)));have k4:(upd Hz c1 (.lst ((fr++ls).map V.str))) c1=some (.lst ((fr++ls).map V.str)):=ao;have kD4:=(aM hc1 (.lst ((fr++ls).map V.str))) _ _ jU;have kl4:=(aM hc1 (.lst ((fr++ls).map V.str))) _ _ kl3;generalize upd Hz c1 (.lst ((fr++ls).map V.str))=H4 at s4 k4 kD4 kl4 ⊢;have S4:=s4.seq hS;have mxp:(0:Int)<(if ((fr.map V.str).length:Int) > 1 then ((fr.map V.str).length:Int) else 1):=by split <;> lia
 have mxl:(if ((fr.map V.str).length:Int) > 1 then ((fr.map V.str).length:Int) else 1)<=((fr++ls).length:Int):=by
  rw [bV,iw]
  split <;> lia
 obtain ⟨nw0,hn0,hnm⟩:=pK (zs:=fr++ls) (i:=d3 % (if ((fr.map V.str).length:Int) > 1 then ((fr.map V.str).length:Int) else 1)) (A0V _ 0x2) (by have:=A0N d3 mxp;lia)
 have hnw0:nw0∈ls:=by
  rcases A0x.mp hnm with z | z
  ·exact fsub _ z
  ·exact z
 refine ⟨_,rfl,d,_,_,_,rfl,rfl,S4,e3,_,rfl,D,_,rfl,.inl (bO.of kD4),_,_,rfl,_,_,rfl,rfl,mxp,c1,_,_,_,rfl,rfl,bO.of k4,hn0,?_⟩;dsimp only [uq];refine grab (a:=Ly _ _ _) (fun σ' Hx=>∃ est nw,σ'=[some (.ref q.B),some 0x48,some (.ref d),some (.int dy),some (.ref m),some (.ref la),some (.ref th),some (.str est),some (.str man),some 0x60,some (.str nw),none,none,none,none]/\Same H Hx/\nw∈ls/\PyData.strOk est=true) (fun σ' Hx hp=>?_) (fun go=>?_)
 rotate_left
 ·refine ⟨_,rfl,d,_,_,_,rfl,rfl,S4,e7,_,_,rfl,rfl,(by show (0:Int)<12;decide),_,_,rfl,rfl,_,rfl,?_⟩
  refine iU 0x86 0x86
  ·obtain ⟨nw1,hn1,hnm1⟩:=pK (zs:=ls) (i:=d3 % ((ls.map V.str).length:Int)) (A0V _ (by rw [bV];lia)) (by have:=A0N d3 (show (0:Int)<((ls.map V.str).length:Int) by rw [bV];lia);rw [bV] at this ⊢;exact this)
   refine ⟨_,rfl,_,rfl,d,_,_,_,rfl,rfl,S4,e3,_,rfl,la,_,rfl,.inl (bO.of kl4),_,_,rfl,rfl,(by rw [bV];show (0:Int)<((ls.length:Nat):Int);lia),la,_,_,_,rfl,rfl,bO.of kl4,hn1,?_⟩
   refine ⟨small 0xA,fun c2 hc2=>?_⟩;have sc2:=aM hc2 (.lst [.str ""]);refine ⟨_,rfl,c2,la,_,_,rfl,rfl,ao,sc2 _ _ kl4,(by rw [bV,A0r];exact small 0x2),fun c3 hc3=>?_⟩;have e3':[V.str ""]++ls.map V.str=(("" : Str)::ls).map V.str:=rfl;rw [e3'];have sc3:=sc2.trans (aM hc3 (.lst ((("" : Str)::ls).map V.str)));have k5:(upd (upd H4 c2 (.lst [.str ""])) c3 (.lst ((("" : Str)::ls).map V.str))) c3=some (.lst ((("" : Str)::ls).map V.str)):=ao
   change (fun σ' H'=>_) _ _
   obtain ⟨est1,he1,hem1⟩:=pK (zs:=("" : Str)::ls) (i:=d1 % 10) 0x2 (by rw [oX];lia);refine ⟨_,rfl,d,_,_,_,rfl,rfl,(sc3.seq S4),e1,_,_,rfl,rfl,(by show (0:Int)<10;decide),c3,_,_,_,rfl,rfl,bO.of k5,he1,?_⟩
   exact go _ _ ⟨est1,nw1,rfl,s4.trans sc3,hnm1,(A0d.mp hem1).elim (fun z=>by rw [z];decide +kernel) fun z=>((pl.ol est1 z).ne).2⟩
  ·exact go _ _ ⟨est0,nw0,rfl,s4,hnw0,by obtain ⟨y0,hy0,e0⟩:=eZ (hpt.mem_iff.mp hem0);rw [<- e0];exact W.ok y0 hy0⟩
 obtain ⟨est,nw,rfl,sx,hnw,hes⟩:=hp;have hns:=((pl.ol nw hnw).ne).2;have hms:=((pl.om man hmm).ne).2;have bx:=bk.same sx;have Sx:=sx.seq hS;obtain ⟨wv,hwv,w0,w1⟩:∃ wv:Int,(bH (lY es) (.inr est)).getD (.int 0)=.int wv/\0<=wv/\wv<=9999:=by
  by_cases c:est∈nms es
  ·obtain ⟨y,hy,rfl⟩:=eZ c;rw [cX W.nd hy];have b1:=W.bnd y hy;have b2:=W.Sd y hy;exact ⟨y.own,rfl,by lia,by lia⟩
  ·rw [qy c];exact ⟨0,rfl,by lia,by lia⟩
 refine ⟨_,rfl,q.B,_,rfl,bx.go,q.o,rfl,isD bx.o,_,rfl,_,dW.k (k:=.inr est) bx.o,?_⟩;rw [hwv];have mw:(0:Int)<(if wv > 1 then wv else 1):=by split <;> lia
 have mw2:(if wv > 1 then wv else 1)<=9999:=by split <;> lia
 have q40:=A0V d4 (Int.ne_of_gt mw);have q41:=A0N d4 mw;refine ⟨_,rfl,d,_,_,_,rfl,rfl,Sx,e4,_,rfl,_,_,rfl,_,_,rfl,rfl,mw,_,_,rfl,rfl,?_⟩;generalize d4 % (if wv > 1 then wv else 1)=q4 at q40 q41 ⊢
 dsimp only [uq];refine grab (a:=Ly _ _ _) (fun σ' Hy=>∃ many:Int,σ'=[some (.ref q.B),some 0x48,some (.ref d),some (.int dy),some (.ref m),some (.ref la),some (.ref th),some (.str est),some (.str man),some 0x60,some (.str nw),some (.int wv),some (.int many),none,none]/\Hy=Hx/\1<=many/\many<=9999) (fun σ' Hy hp=>?_) (fun go=>?_)
 rotate_left
 ·refine ⟨_,rfl,d,_,_,_,rfl,rfl,Sx,e7,_,_,rfl,rfl,(by show (0:Int)<12;decide),rfl,_,rfl,eq_int 0x86 0x86⟩
  ·refine ⟨_,rfl,_,_,rfl,rfl,_,rfl,d,_,_,_,rfl,rfl,Sx,e4,_,_,rfl,rfl,(by show (0:Int)<2;decide),_,_,rfl,rfl,_,_,rfl,go _ _ ⟨_,rfl,rfl,?_,?_⟩⟩
   ·split <;> lia
   ·split <;> lia
  ·exact go _ _ ⟨_,rfl,rfl,by lia,by lia⟩
 obtain ⟨many,rfl,rfl,mn1,mn2⟩:=hp;refine ⟨_,rfl,d,_,_,_,rfl,rfl,Sx,e0,_,_,rfl,rfl,(by show (0:Int)<13;decide),?_⟩
 dsimp only [uq];have y0:=A0V d0 (show (13:Int)≠0 by decide)
 have y1:=A0N d0 (show (0:Int)<13 by decide)
 have hwy:=hw d0 e0;generalize d0 % 13=way at y0 y1 hwy ⊢;obtain ⟨sr,hsr,hsm⟩:=oM (xs:=[V.int 0,.int 1,.int (d5 % 30),.int (9999 - d5 % 9)]) (i:=d6 % 4) 0x2 (by simp;lia);obtain ⟨sr,rfl,sr0,sr1⟩:∃ z:Int,sr=.int z/\0<=z/\z<=9999:=by
  simp only [A0d,A0u,A1m] at hsm;rcases hsm with rfl | rfl | rfl | rfl
  ·exact ⟨_,rfl,by lia,by lia⟩
  ·exact ⟨_,rfl,by lia,by lia⟩
  ·exact ⟨_,rfl,by lia,by lia⟩
  ·exact ⟨_,rfl,by lia,by lia⟩
 refine grab (a:=Ly _ _ _) (fun σ' Hw=>σ'=[some (.ref q.B),some 0x48,some (.ref d),some (.int dy),some (.ref m),some (.ref la),some (.ref th),some (.str est),some (.str man),some 0x60,some (.str nw),some (.int wv),some (.int many),some (.int way),none]/\Same H Hw/\4<=way/\(est=""->way∉[(4:Int),5,6,9,12])) (fun σ' Hw hp=>?_) (fun go=>?_)
 rotate_left
 ·have fin:∀ {Hw:Hp},Same H Hw->∀ r,Hw r=none->Q 0x71 (upd Hw r (.tup [.str "grant",.int dy,.str est,.str nw,.str man,.int many,.int sr])):=fun {Hw} sw r hr0=>k r (.grant est nw man many sr) _ (bK sw (sw.free hr0)) ao ⟨hnw,mn1,mn2,sr0,sr1⟩ ⟨hes,hns,hms⟩;refine ⟨_,rfl,_,_,rfl,rfl,_,rfl,iU 0x86 (fun c4=>?_)⟩
  ·refine dU ⟨_,rfl,_,rfl,_,rfl,_,rfl,_,rfl,_,rfl,d,_,_,_,rfl,rfl,Sx,e5,_,_,rfl,rfl,(by show (0:Int)<30;decide),_,rfl,d,_,_,_,rfl,rfl,Sx,e5,_,_,rfl,rfl,(by show (0:Int)<9;decide),_,_,rfl,rfl,small 0xA,fun c hc=>?_⟩
   have sc:=aM hc (.lst [.int 0,.int 1,.int (d5 % 30),.int (9999 - d5 % 9)]);refine ⟨_,rfl,d,_,_,_,rfl,rfl,(sc.seq Sx),e6,_,_,rfl,rfl,(by show (0:Int)<4;decide),c,_,_,_,rfl,rfl,bO.of ao,hsr,small 0xA,fun r hr0=>?_⟩
   exact fin (sx.trans sc) r hr0
  ·have c4':4<=way:=by simpa using c4
   refine ⟨_,rfl,rfl,_,rfl,eq_str (fun he=>?_) (fun he=>?_)⟩
   ·refine ⟨_,rfl,small 0xA,fun c hc=>⟨c,_,rfl,.inr (cj.of ao),rfl,rfl,_,rfl,a1b [4,5,6,9,12] (fun hin=>?_) (fun hin=>?_)⟩⟩
    ·have sc0:=aM hc (.tup [.int 4,.int 5,.int 6,.int 9,.int 12]);have Sx2:=sc0.seq Sx;refine ⟨_,rfl,_,rfl,_,rfl,_,rfl,_,rfl,_,rfl,d,_,_,_,rfl,rfl,Sx2,e5,_,_,rfl,rfl,(by show (0:Int)<30;decide),_,rfl,d,_,_,_,rfl,rfl,Sx2,e5,_,_,rfl,rfl,(by show (0:Int)<9;decide),_,_,rfl,rfl,small 0xA,fun c' hc'=>?_⟩
     have sc:=aM hc' (.lst [.int 0,.int 1,.int (d5 % 30),.int (9999 - d5 % 9)]);refine ⟨_,rfl,d,_,_,_,rfl,rfl,(sc.seq Sx2),e6,_,_,rfl,rfl,(by show (0:Int)<4;decide),c',_,_,_,rfl,rfl,bO.of ao,hsr,small 0xA,fun r hr0=>?_⟩
     exact fin ((sx.trans sc0).trans sc) r hr0
    ·exact go _ _ ⟨rfl,sx.trans (aM hc _),c4',fun _=>hin⟩
   ·refine cu ?_;exact go _ _ ⟨rfl,sx,c4',fun z=>absurd z he⟩
 obtain ⟨rfl,sw,c4,hcr⟩:=hp;have Sw:=sw.seq hS;have bw:=bk.same sw;have plw:=pl.same sw;have part:way∈[(4:Int),5,6,9,12]->est≠"":=fun h1 h2=>hcr h2 h1;have c7':¬ way<7:=by lia
 refine ⟨_,rfl,rfl,_,rfl,eq_int (fun hy=>absurd hy 0x2) 0x86⟩;refine ⟨_,rfl,rfl,_,rfl,eq_int (fun hy=>absurd hy 0x2) 0x86⟩;refine ⟨_,rfl,_,_,rfl,rfl,_,rfl,iU (fun c7=>absurd (by simpa using c7) c7') (fun c7=>?_)⟩;have Z5:∃ other,other∈mz/\other≠man:=by
  have h2:∃ a b r,mz=a::b::r:=by
   match mz,lm with
   | a::b::r,_=>exact ⟨a,b,r,rfl⟩
  obtain ⟨a,b,r,rfl⟩:=h2;have hab:a≠b:=fun z=>(A0M.mp pl.nm).1 (by rw [z];exact A0g)
  by_cases c:a=man
  ·exact ⟨b,by simp,fun z=>hab (c.trans z.symm)⟩
  ·exact ⟨a,by simp,c⟩
 refine ⟨_,rfl,rfl,_,rfl,eq_int (fun hy=>dU ?_) (fun n7=>?_)⟩
 ·refine ⟨_,rfl,m,rfl,⟨_,bO.of plw.m⟩,fun D2 hD2=>lV (xs:=mz) (fun x=>!decide (x=man)) V.str (bO.of plw.m) hD2 0x2 (fun x Hz2 A B hx Vw hAB=>?_) (fun Hz2 Vw Ay=>?_)⟩
  ·have hAB:=hAB _ 0x5C;refine ⟨Kp.set rfl 0x69,_,rfl,_,rfl,rfl,_,rfl,?_⟩;rw [gC];refine iU 0x45 0x45
   ·rw [A0i c] at hAB;exact ⟨_,rfl,hAB⟩
   ·rw [A0e c] at hAB;exact hAB
  ·obtain ⟨ot,ho1,ho2⟩:=Z5;have hpos:0<(mz.filter fun x=>!decide (x=man)).length:=A3j (A0J.mpr ⟨ho1,by rw [A0p ho2];rfl⟩);have Vd:∀ z∈mz.filter (fun x=>!decide (x=man)),z∈mz:=fun z hz=>(A0J.mp hz).1;generalize (mz.filter fun x=>!decide (x=man))=zs at Ay hpos Vd;obtain ⟨oth,hoa,hob⟩:=pK (zs:=zs) (i:=d3 % ((0x8C).length:Int)) (A0V _ (by rw [bV];lia)) (by have:=A0N d3 (show (0:Int)<((0x8C).length:Int) by rw [bV];lia);rw [bV] at this ⊢;exact this)
   have swz:=sw.trans Vw;refine ⟨_,rfl,_,rfl,_,rfl,_,rfl,d,_,_,_,rfl,rfl,(swz.seq hS),e3,_,rfl,D2,_,rfl,.inl (bO.of Ay),_,_,rfl,rfl,(by rw [bV];show (0:Int)<((zs.length:Nat):Int);lia),D2,_,_,_,rfl,rfl,bO.of Ay,hoa,small 0xA,fun r hr0=>?_⟩
   exact k r (.heir man oth) _ (bK swz (swz.free hr0)) ao a1e ⟨hms,((pl.om oth (Vd oth hob)).ne).2⟩
 refine ⟨_,rfl,rfl,_,rfl,eq_int (fun hy=>?_) (fun n11=>?_)⟩
 ·refine ⟨_,rfl,m,rfl,⟨_,bO.of plw.m⟩,fun D2 hD2=>lV (xs:=mz) (fun x=>!decide (x=man)) V.str (bO.of plw.m) hD2 0x2 (fun x Hz2 A B hx Vw hAB=>?_) (fun Hz2 Vw Ay=>?_)⟩
  ·have hAB:=hAB _ 0x5C;refine ⟨Kp.set rfl 0x69,_,rfl,_,rfl,rfl,_,rfl,?_⟩;rw [gC];refine iU 0x45 0x45
   ·rw [A0i c] at hAB;exact ⟨_,rfl,hAB⟩
   ·rw [A0e c] at hAB;exact hAB
  ·obtain ⟨ot,ho1,ho2⟩:=Z5;have hpos:0<(mz.filter fun x=>!decide (x=man)).length:=A3j (A0J.mpr ⟨ho1,by rw [A0p ho2];rfl⟩);have Vd:∀ z∈mz.filter (fun x=>!decide (x=man)),z∈mz:=fun z hz=>(A0J.mp hz).1;generalize (mz.filter fun x=>!decide (x=man))=zs at Ay hpos Vd;obtain ⟨oth,hoa,hob⟩:=pK (zs:=zs) (i:=d3 % ((0x8C).length:Int)) (A0V _ (by rw [bV];lia)) (by have:=A0N d3 (show (0:Int)<((0x8C).length:Int) by rw [bV];lia);rw [bV] at this ⊢;exact this)
   have swz:=sw.trans Vw;refine ⟨_,rfl,_,rfl,_,rfl,_,rfl,d,_,_,_,rfl,rfl,(swz.seq hS),e3,_,rfl,D2,_,rfl,.inl (bO.of Ay),_,_,rfl,rfl,(by rw [bV];show (0:Int)<((zs.length:Nat):Int);lia),D2,_,_,_,rfl,rfl,bO.of Ay,hoa,small 0xA,fun r hr0=>?_⟩
   exact k r (.heir man oth) _ (bK swz (swz.free hr0)) ao a1e ⟨hms,((pl.om oth (Vd oth hob)).ne).2⟩
 refine ⟨_,rfl,rfl,_,rfl,eq_int (fun hy=>absurd hy 0x2) 0x86⟩;refine ⟨_,rfl,rfl,_,rfl,eq_int (fun hy=>absurd hy 0x2) 0x86⟩;refine ⟨_,rfl,_,rfl,small 0xA,fun r hr0=>?_⟩;exact k r (.death man) _ (bK sw (sw.free hr0)) ao a1e hms
abbrev Az:Stmt:=top 75
theorem Ba (h:iQ H as dat) (k:Same H H'):iQ H' as dat:=⟨fun a ha=>⟨k a _ (h.1 a ha).1,(h.1 a ha).2⟩,h.2⟩
theorem Lh {bs:List Addr} (h:iQ H as dat) (p:bs.Perm as):iQ H bs dat:=⟨fun a ha=>h.1 a (p.mem_iff.mp ha),((p.map dat).nodup_iff).mpr h.2⟩
inductive vU (CC CR CK C:Addr) (K:W.Frag) (vs:List V) (H:Hp) (Q:VK) (cD:XK):Prop
 | mk (p fa l m la:Addr) (fs:List Int) (ms ls:List Str) (wd:Int) (all:List Addr) (dat:Addr->List V) (lE:Addr->Int) (lF:Addr->M.Ro) (_:vs=[.ref p,.ref fa,.ref l]) (_:Er H p m la ms ls wd) (_:H fa=some (.lst 0x7A)) (_:fs.length=160) (_:(∀ v∈fs,vZ v)) (_:H l=some (.lst 0x2E)) (_:all.length<=16) (_:iQ H all dat) (_:(∀ a∈all,Ak dat lE lF ls a)) (_:∀ c dc jl ll z q W qk ek kk jL ts out ws t0 b H',Same H H'->H c=none->out.Perm all->Fe dat out->JL (W0 (Fd wd t0)) (out.map fun a=>(lE a,lF a)) ws W->qH CC CR CK C H' c dc jl ll z q W ls qk ek kk jL ts out ws wd b->ek.map core=W.es.map core->Q (.ref c) H'):vU CC CR CK C K vs H Q cD
section
variable {CR:Addr}
theorem Ve:aO A5O A5O (aH Az):=0x0
theorem Oi (F:fK K "_law_court" "_law_court" Az f fd) 
  (G1:aJ P w K mg base bM 7 g1 d1 A6a (vP CC CR CK C K)) (MK1:Mk K CC g1) (mC:mg "Court"=some (.ref CC)) (b1:Binds K d1 A6a [])
  (G2:aJ P w K mg base bM 1 g2 d2 A6c (Ac K)) (M2:Ms K mg "_law_mixed" g2 d2 A6c) :
  aJ P w K mg base bM 9 f fd A5O (vU CC CR CK C K):=by
 refine F.ok Ve 0x1 0x3;obtain ⟨p,fa,l,m,la,fs,ms,ls,wd,all,dat,lE,lF,rfl,pl,hfa,hfl,hfo,hl,Z6,RO,RW,k⟩:=h;have hr1:cM 1 _:=hr.mono 0x5;refine ⟨_,aG (aV (sY (CX:=bM) (E:=E0) MK1 G1 hr rfl mC b1 .nil aX (aj (aP bI 0x32 aA 0x4) (aj (aY bY (aP bD 0xF aA 0x4) aA) (aj (bF G2 hr1 rfl M2.m M2.k M2.b .nil aX (aj 0x2B (aj (aP bD 0xF aA 0x4) aC))) aC))))),?_⟩;obtain ⟨v15,e15,o15⟩:=gY hfo (i:=15) 0x5 0x2;obtain ⟨v16,e16,o16⟩:=gY hfo (i:=16) 0x5 0x2;have hls:∀ n∈ls,n≠""/\PyData.strOk n=true:=fun n hn=>(pl.ol n hn).ne;refine ⟨_,rfl,p,_,_,_,rfl,rfl,cj.of pl.r,aL (j:=2) rfl,_,rfl,fa,_,_,_,rfl,rfl,bO.of hfa,e15,_,_,rfl,rfl,(by show (0:Int)<100;decide),_,rfl,_,rfl,fa,_,_,_,rfl,rfl,bO.of hfa,e16,l,v16,all,rfl,o16,bO.of hl,by lia,fun D out H1 s1 hD pm=>?_⟩
 intro c dc hc hdc ncd;have sc:Same H1 (upd (upd H1 dc (.own c)) c (.ins CC dc [])):=fun a u h=>by
  rw [ak (au h hc),ak (au h hdc)];exact h
 have sHc:=s1.trans sc;refine ⟨c,dc,D,wd,v15 % 100,out,dat,lE,lF,ls,rfl,ao,pl.w1,pl.w2,by lia,by lia,bO.of (sc _ _ hD),?_,Lh (Ba RO sHc) pm,fun a ha=>RW a (pm.mem_iff.mp ha),hls,fun jl ll z q W qk ek kk jL ts ou ws t0 H' kp pm' up J ct ce=>⟨rfl,?_⟩⟩
 ·rw [pm.length_eq];lia
 ·exact k c dc jl ll z q W qk ek kk jL ts ou ws t0 _ H' (fun a u h=>kp a u (au h (s1.free hc)) (sHc _ _ h)) (s1.free hc) (pm'.trans pm) up J ct ce
abbrev Y4:Stmt:=top 76
theorem Jo.ok {W W':Wo}{ro:Ro}{w:Str} (h:Jo W dy ro w W'):PyData.strOk w=true:=by
 cases h <;> decide +kernel
theorem JL.ok {W0 W:Wo}{rs:List (Int×Ro)} (J:JL W0 rs ws W):∀ w∈ws,PyData.strOk w=true:=by
 induction J with
 | nil=>intro w h;cases h
 | snoc J1 D ih =>
  intro w h;rcases A0x.mp h with h | h
  ·exact ih w h
  ·rw [A0c.mp h];exact D.ok
theorem Es:∀ {xs:List V}{ds:List PyData},xs.length=ds.length->(∀ (i:Nat) (v:V) (d:PyData),xs[i]?=some v->ds[i]?=some d->cN H v d)->dg H xs ds
 | [],[],_,_=>.nil
 | [],_::_,e,_=>by cases e
 | _::_,[],e,_=>by cases e
 | x::xs,d::ds,e,h=>.cons (h 0 x d rfl rfl) (Es (by simpa using e) fun i v d' h1 h2=>h (i+1) v d' (by simpa using h1) (by simpa using h2))
theorem Li:∀ {ds:List PyData},(∀ d∈ds,d.canLay0=true)->PyData.canLayAll0 ds=true
 | [],_=>rfl
 | d::ds,h=>by rw [PyData.canLayAll0,h d A0g,Li fun z hz=>h z (iT _ hz)];rfl
theorem Bb:∀ {ds:List PyData},(∀ d∈ds,d.depth<=n)->PyData.depthAll ds<=n
 | [],_=>A0X _
 | d::ds,h=>by
  rw [PyData.depthAll];have a:=h d A0g;have b:=Bb fun z hz=>h z (iT d hz);lia
def vV (H:Hp) (dat:Addr->List V) (r:Addr):Prop:=H r=some (.tup (dat r))/\(dat r).all ig=true/\(dat r).length<=1000
theorem Y5 {r:Addr} (h:vV H dat r):R5 H 2 0x71 0x71:=by
 refine .inr (.inl ⟨r,r,_,_,rfl,rfl,h.1,h.1,rfl,h.2.2,fun i x y e1 e2=>?_⟩);rw [e1] at e2;cases e2;have:=A1I.mp h.2.1 x (vY e1);cases x with
 | int _=>exact .inl ⟨rfl,rfl⟩
 | str _=>exact .inl ⟨rfl,rfl⟩
 | _=>cases this
theorem fP.get (a:fP H jl ts pr ws)  (h:ts[i]?=some t):∃ r w,pr[i]?=some r/\ws[i]?=some w/\H t=some (.tup [.ref r,.str w]):=by
 have hi:=(A0l.mp h).1;have h1:pr[i]?=some pr[i]!:=by rw [a.lt] at hi;rw [A4e,ju hi];rfl
 have h2:ws[i]?=some ws[i]!:=by rw [a.lt,<- a.lw] at hi;rw [A4e,ju hi];rfl
 exact ⟨_,_,h1,h2,a.at' i t _ _ h h1 h2⟩
theorem a1f {wl:Addr}{ts':List Addr} (a:fP H D ts pr ws) (b:fP H wl ts' pr ws) (hf:∀ r∈pr,vV H dat r) (hl:pr.length<=1000):R5 H 4 0x60 (.ref wl):=by
 refine .inr (.inr ⟨D,wl,_,_,rfl,rfl,a.l,b.l,by rw [bV,bV,a.lt,b.lt],by rw [bV,a.lt];exact hl,fun i x y e1 e2=>?_⟩);rw [jW] at e1 e2;obtain ⟨t,h1,rfl⟩:=A0v.mp e1;obtain ⟨t',h2,rfl⟩:=A0v.mp e2;obtain ⟨r,w,p1,p2,p3⟩:=a.get h1;have p4:=b.at' i t' r w h2 p1 p2;refine .inr (.inl ⟨t,t',_,_,rfl,rfl,p3,p4,rfl,by simp,fun j x y e1 e2=>?_⟩);rw [e1] at e2;cases e2
 match j,e1 with
 | 0,e1=>simp at e1;subst e1;exact Y5 (hf r (vY p1))
 | 1,e1=>simp at e1;subst e1;exact .inl ⟨rfl,rfl⟩
 | (j+2),e1=>simp at e1
def pairD (dat:Addr->List V) (x:Addr×Str):PyData:=.tuple [.tuple ((dat x.1).map gG),.str x.2]
theorem Et (a:fP H D ts pr ws) (hf:∀ r∈pr,vV H dat r):cN H 0x60 (.list ((pr.zip ws).map (pairD dat))):=by
 refine .lst a.l (Es (by rw [bV,bV,List.length_zip,a.lt,a.lw,Nat.min_self]) fun i v d e1 e2=>?_);rw [jW] at e1 e2;obtain ⟨t,h1,rfl⟩:=A0v.mp e1;obtain ⟨x,h2,rfl⟩:=A0v.mp e2;obtain ⟨r,w,p1,p2,p3⟩:=a.get h1;have:x=(r,w):=by
  rw [List.getElem?_zip_eq_some] at h2;rw [p1,p2] at h2;obtain ⟨x1,x2⟩:=x;rw [A0T h2.1,A0T h2.2]
 subst this;have f:=hf r (vY p1);exact .tup p3 (.cons (.tup f.1 (jQ _ f.2.1)) (.cons (.str w) .nil))
theorem Y6 (hf:∀ r∈pr,(dat r).all ig=true) (hw:∀ w∈ws,PyData.strOk w=true):(PyData.list ((pr.zip ws).map (pairD dat))).canLay0=true/\(PyData.list ((pr.zip ws).map (pairD dat))).depth<=8:=by
 have mem:∀ d∈(pr.zip ws).map (pairD dat),d.canLay0=true/\d.depth<=3:=fun d hd=>by
  obtain ⟨x,hx,rfl⟩:=A0j.mp hd;obtain ⟨x1,x2⟩:=x;have h1:=jq _ (hf x1 (A3K hx).1);have h2:=hw x2 (A3K hx).2
  constructor
  ·show (PyData.canLayAll0 ((dat x1).map gG)&&(PyData.strOk x2&&true))=true
   rw [h1,h2];rfl
  ·have:=nY (dat x1)
   show PyData.depthAll [PyData.tuple ((dat x1).map gG),PyData.str x2]+1<=3
   have:PyData.depthAll [PyData.tuple ((dat x1).map gG),PyData.str x2]<=2:=Bb fun d hd=>by
    rcases A0d.mp hd with e | e
    ·rw [e];show PyData.depthAll _+1<=2;lia
    ·rw [A0c.mp e];exact A1h rfl
   lia
 refine ⟨Li fun d hd=>(mem d hd).1,?_⟩;have:=Bb fun d hd=>(mem d hd).2
 show PyData.depthAll _+1<=8
 lia
theorem Vf {o o':List Addr} (hr:∀ a∈o,gA (dat a)) (h:Fe dat o) (h':Fe dat o') (p:o.Perm o'):o=o':=by
 refine A3I (le:=fun a b=>eV (dat a) (dat b)=true) (fun a b ha hb h1 h2=>?_) h h' p;have:=Ec (hr a ha) (hr b (p.mem_iff.mpr hb)) h1;rw [this] at h2;cases h2
theorem oN {ro:Ro} (tx:ro.Tx):(Ro.vs dy ro).all ig=true/\(Ro.vs dy ro).length<=1000:=by
 cases ro with
 | grant e n m a s=>exact ⟨by simp [Ro.vs,ig];exact ⟨by decide +kernel,tx.1,tx.2.1,tx.2.2⟩,by simp [Ro.vs]⟩
 | heir m h=>exact ⟨by simp [Ro.vs,ig];exact ⟨by decide +kernel,tx.1,tx.2⟩,by simp [Ro.vs]⟩
 | death m=>exact ⟨by simp [Ro.vs,ig];exact ⟨by decide +kernel,tx⟩,by simp [Ro.vs]⟩
theorem Vg {lE:Addr->Int}{lF:Addr->Ro} (h:H a=some (.tup (dat a))) (r:Ak dat lE lF ls a):vV H dat a :=
 ⟨h,by rw [r.e];exact (oN r.tx).1,by rw [r.e];exact (oN r.tx).2⟩
theorem qO {lE:Addr->Int}{lF:Addr->Ro}{all out out':List Addr}{ws':List Str}{W W':Wo}{t0 b0:Addr} (hr:∀ a∈all,gA (dat a)) (RW:∀ a∈all,Ak dat lE lF ls a) (hls:∀ n∈ls,n≠""/\PyData.strOk n=true) (w1:1<=wd) (w2:wd<=9999)
  (p:out.Perm all) (p':out'.Perm all) (u:Fe dat out) (u':Fe dat out') (J:JL (W0 (Fd wd t0)) (out.map fun a=>(lE a,lF a)) ws W) (J':JL (W0 (yr wd b b0)) (out'.map fun a=>(lE a,lF a)) ws' W'):out'=out/\ws'=ws/\AbW W W':=by
 have eo:out=out':=Vf (fun a ha=>hr a (p.mem_iff.mp ha)) u u' (p.trans p'.symm);subst eo;have h0:AbW (W0 (Fd wd t0)) (W0 (yr wd b b0)):=⟨.cons ⟨rfl,rfl,rfl,rfl,rfl,rfl⟩ .nil,rfl,rfl,rfl⟩;have:=JL.det hls h0 (qI (V4 wd b b0 ls w1 w2) rfl rfl rfl) J (fun r hr=>by
  obtain ⟨a,ha,rfl⟩:=A0j.mp hr;exact ⟨(RW a (p.mem_iff.mp ha)).ok,(RW a (p.mem_iff.mp ha)).tx⟩) J'
 exact ⟨rfl,this.1.symm,this.2⟩
inductive Vh (CC:Addr) (vs:List V) (H:Hp) (Q:VK) (cD:XK):Prop
 | mk (c dc jl ll z p m la l:Addr) (W:M.Wo) (ms ls:List Str) (wd n b:Int) (ts all out:List Addr) (ws:List Str) (t0:Addr) (dat:Addr->List V) (lE:Addr->Int) (lF:Addr->M.Ro) (_:vs=[.ref c,.ref p,.ref l]) (_:Er H p m la ms ls wd) (_:H l=some (.lst 0x2E)) (_:all.length<=16) (_:iQ H all dat) (_:(∀ a∈all,Ak dat lE lF ls a)) (_:H c=some (.ins CC dc (Fg n b z jl ll))) (_:fP H jl ts out ws) (_:out.Perm all) (_:Fe dat out) (_:JL (W0 (Fd wd t0)) (out.map fun a=>(lE a,lF a)) ws W) (_:∀ H',Same H H'->Q (.bl true) H'):Vh CC vs H Q cD
theorem Vi:aO A6b A5T (aH Y4):=0x0
def a2G:Scope:={ kind:=.function,names:=[0x79,("_law_row_here",.local),("_law_word_here",.local),("_law_same",.globalImplicit),("_law_court_here",.free)],isGenerator:=false,isCoroutine:=false }
theorem a2H:fu A6b (aH Y4) a2G ["_law_row_here", "_law_word_here"] ["_law_court_here"] [0]:=0xB
theorem Z7:((["_law_row_here", "_law_word_here"]:List Str)++(["_law_court_here"]:List Str)).Nodup:=by decide +kernel
theorem a1g (TC:o9 K CC) (F:fK K "_law_judged_right" "_law_judged_right" Y4 f fd) (m:MgS mg) 
  (G1:aJ P w K mg base bM 5 g1 d1 A5Y (qM K)) (M1:Ms K mg "_law_books" g1 d1 A5Y)
  (G2:aJ P w K mg base bM 1 g2 d2 A5S (Ai CC K)) (m2:Meth K CC "verdicts" g2) (b2:Binds K d2 A5S [])
  (G3:aJ P w K mg base bM 4 g3 d3 A5L (pG 4)) (M3:Ms K mg "_law_same" g3 d3 A5L)
  (G4:aJ P w K mg base bM 2 g4 d4 ["self", "row"] (Ii CC)) (m4:Meth K CC "verdict" g4) (b4:Binds K d4 ["self", "row"] []) :
  aJ P w K mg base bM 6 f fd A5T (Vh CC):=by
 refine F.ok Vi 0x1 0x3;obtain ⟨c,dc,jl,ll,z,p,mm,la,l,W,ms,ls,wd,n,b,ts,all,out,ws,t0,dat,lE,lF,rfl,pl,hl,Z6,RO,RW,hc,JA,pm,up,J,k⟩:=h;have G2:=aJ.mono (k:=5) G2 0x2;have G3:=aJ.mono (k:=5) G3 0x2;have G4:=aJ.mono (k:=5) G4 0x2;refine ⟨_,aq (aR (i:=3) Vi.nd rfl 0x7 (aP bI (bF G1 hr rfl M1.m M1.k M1.b .nil aX (aj 0x19 0x33)) aA 0x4))
  (aq (aR (i:=4) Vi.nd rfl 0x7 (ji (CX:=bM) (E:=E0) 0x32 TC.cl m2 G2 hr b2 .nil aX))
  (aq (bN (gP (dY (bF G3 hr rfl M3.m M3.k M3.b .nil aX (aj (pv 4) (aj 0x5D aC))))) cA aU)
  (aq (bL (ZF A0z PySem.F.slot_list_clear PySem.F.type_list_clear Qa (pv 4)))
  (aq (bN (aQ (Qt (u64 hr)) (ji (CX:=bM) (E:=E0) 0x32 TC.cl m2 G2 hr b2 .nil aX) 0x5D 0x61) cA aU)
  (aG (aV (bG (lN (K:=K) rfl hr.hd) rfl m.all uI (aj (gO rfl a2H (eY 0x5D) (fun s H fp C'=>⟨q8 (K:=K) (n:=2) rfl (bT (bC (i:=0) Z7 rfl 0x7) (bT (bC (i:=1) Z7 rfl 0x7) gM)),mj,bF G3 hr rfl M3.m M3.k M3.b .nil aX (aj (bU 0x2B TC.cl m4 G4 hr b4 .nil aX 0x82) 0x38)⟩)) aC)))))))),?_⟩
 have hls:∀ n∈ls,n≠""/\PyData.strOk n=true:=fun n hn=>(pl.ol n hn).ne;have fl:∀ {H'},Same H H'->∀ r∈out,vV H' dat r:=fun s r hr=>Vg (s _ _ (RO.1 r (pm.mem_iff.mp hr)).1) (RW r (pm.mem_iff.mp hr));have ol:out.length<=16:=by rw [pm.length_eq];exact Z6
 refine ⟨_,rfl,p,_,_,_,rfl,rfl,cj.of pl.r,aL (j:=2) rfl,_,rfl,l,wd,all,dat,lE,lF,ls,rfl,pl.w1,pl.w2,bO.of hl,by lia,RO,RW,hls,fun T wl q' W' ts' out' ws' b0 H1 s1 hT XH _ ap' Bk' Bx' Pu' fr' JB pm' up' J'=>?_⟩;obtain ⟨rfl,rfl,ab⟩:=qO (fun a ha=>(RO.1 a ha).2) RW hls pl.w1 pl.w2 pm pm' up up' J J';refine ⟨T,_,_,_,rfl,rfl,cj.of hT,aL (j:=1) rfl,?_⟩;have JA1:fP H1 jl ts out' ws':=JA.keep (by rw [s1 _ _ JA.l,JA.l]) fun c xs h=>s1 _ _ h;refine ⟨_,rfl,c,dc,_,rfl,s1 _ _ hc,rfl,c,dc,z,jl,ll,_,n,b,rfl,s1 _ _ hc,JA1.l,by rw [bV,JA1.lt];lia,fun D hD=>?_⟩
 apply 0o1 H1 D hD sD hDD H2
 have qR:=s1.free hD;have s2:=s1.trans sD;have JD2:fP H2 D ts out' ws':=⟨hDD,JA.lt,JA.lw,fun i t r w e1 e2 e3=>s2 _ _ (JA.at' i t r w e1 e2 e3)⟩;have JB2:fP H2 wl ts' out' ws':=JB.keep (by rw [sD _ _ JB.l,JB.l]) fun c xs h=>sD _ _ h;refine ⟨_,rfl,_,rfl,_,_,rfl,a1f JD2 JB2 (fl s2) 0x2,fun H3 s3=>⟨_,rfl,cu ?_⟩⟩;have hD3:=s3 _ _ hDD;refine ⟨_,rfl,.inl ⟨rfl,_,bO.of hD3⟩,D,_,rfl,rfl,hD3,?_⟩;have nwD:wl≠D:=fun e=>by rw [<- e,JB.l] at hD;cases hD
 have s4:Same H (upd H3 D 0x75):=fun a u h=>by
  rw [ak (au h qR)];exact s3 _ _ (s2 _ _ h)
 have JB4:fP (upd H3 D 0x75) wl ts' out' ws':=JB2.keep (by rw [ak nwD,s3 _ _ JB2.l,JB2.l]) fun c xs h=>by
  rw [ak (aZ h hDD 0x6)];exact s3 _ _ h
 generalize upd H3 D 0x75=H4 at s4 JB4 ⊢;have JA4:fP H4 jl ts out' ws':=JA.keep (by rw [s4 _ _ JA.l,JA.l]) fun c xs h=>s4 _ _ h;refine ⟨_,rfl,c,dc,_,rfl,s4 _ _ hc,rfl,c,dc,z,jl,ll,_,n,b,rfl,s4 _ _ hc,JA4.l,by rw [bV,JA4.lt];lia,fun D5 hD5=>?_⟩
 apply 0o1 H4 D5 hD5 sD5 hDD5 H5
 have s5:=s4.trans sD5;have JD5:fP H5 D5 ts out' ws':=⟨hDD5,JA.lt,JA.lw,fun i t r w e1 e2 e3=>s5 _ _ (JA.at' i t r w e1 e2 e3)⟩;have JB5:fP H5 wl ts' out' ws':=JB4.keep (by rw [sD5 _ _ JB4.l,JB4.l]) fun c xs h=>sD5 _ _ h;have JA5:fP H5 jl ts out' ws':=JA.keep (by rw [s5 _ _ JA.l,JA.l]) fun c xs h=>s5 _ _ h;obtain ⟨ly,dp⟩:=Y6 (fun r hr=>(fl s5 r hr).2.1) J.ok;refine ⟨_,rfl,_,_,Et JD5 (fl s5),Et JB5 (fl s5),ly,ly,dp,?_⟩;rw [PySem.SeqAt.eqv_refl _ ly];refine ⟨_,rfl,cu ?_⟩;refine ⟨_,rfl,wl,rfl,⟨_,bO.of JB5.l⟩,fun D6 hD6=>wW (K:=K) (xs:=ts'.map V.ref) (fun i ys Hx=>ys=(List.replicate i true).map V.bl/\Same H5 Hx/\Hx D6=some 0x78) (fun i ys Hx h=>h.2.1.seq (bO.of JB5.l)) ⟨rfl,aM hD6 _,ao⟩ (fun i ys Hx h=>h.2.2) ?_ ?_⟩
 ·rintro i ys Hx v hv ⟨rfl,sx,zT⟩;rw [jW] at hv;obtain ⟨t,ht,rfl⟩:=A0v.mp hv;have hi:=(A0l.mp ht).1;obtain ⟨r,w0,p1,p2,p3⟩:=JB5.get ht;have s6:=s5.trans sx;refine ⟨t,_,rfl,cj.of (sx _ _ p3),rfl,_,_,rfl,_,_,rfl,rfl,Kp.set rfl (Kp.set rfl 0x69),jN ?_⟩;refine ⟨_,rfl,c,dc,_,rfl,s6 _ _ hc,rfl,_,rfl,c,dc,z,jl,ll,n,b,ts,out',ws',dat,i,r,w0,rfl,s6 _ _ hc,JA.keep (by rw [s6 _ _ JA.l,JA.l]) (fun c xs h=>s6 _ _ h),fun a ha=>⟨(fl s6 a ha).1,(fl s6 a ha).2.1⟩,(Lh RO pm).2,p1,p2,?_⟩;refine ⟨_,rfl,_,_,rfl,.inl ⟨rfl,rfl⟩,fun H7 s7=>⟨s7 _ _ zT,?_,?_,bK (sx.trans s7) hD6,ao⟩⟩
  ·rw [bV,A1R];rw [JB5.lt] at hi;exact bR 0x2
  ·rw [A4j,jw];rfl
 ·rintro ys Hx ⟨rfl,sx,zT⟩;refine ⟨D6,_,rfl,bO.of zT,?_⟩;rw [all_true fun b hb=>A2m hb];exact k _ (s5.trans sx)
end
abbrev Iw:Stmt:=top 70
theorem Bc {l:List HS} (h:xs.map isI=l.map HS.num):KN l xs:=fun i s v h1 h2=>by
 have a:(xs.map isI)[i]?=some (isI v):=by rw [jW,h2];rfl
 have b:(l.map HS.num)[i]?=some s.num:=by rw [jW,h1];rfl
 rw [h,b] at a;exact (A0T a).symm
theorem Vj {ro:Ro} (tx:ro.Tx):gA (Ro.vs dy ro):=by
 cases ro with
 | grant e n m a s=>exact ⟨"grant",dy,_,[.d,.c,.n,.n,.a,.s],rfl,by decide +kernel,rfl,Bc rfl,(oN (ro:=.grant e n m a s) tx).1⟩
 | heir m h=>exact ⟨"heir",dy,_,[.d,.n,.n],rfl,by decide +kernel,rfl,Bc rfl,(oN (ro:=.heir m h) tx).1⟩
 | death m=>exact ⟨"death",dy,_,[.d,.n],rfl,by decide +kernel,rfl,Bc rfl,(oN (ro:=.death m) tx).1⟩
theorem Lj {ro:Ro} (tx:ro.Tx):(Ro.vs dy ro).all ig=true:=(oN tx).1
theorem yt {rs:List (List V)} (h:iM H as rs) (s:Same H H'):iM H' as rs:=by
 induction h with
 | nil=>exact .nil
 | cons a _ ih=>exact .cons (s _ _ a) ih
theorem Eu {r:List V}:∀ {as:List Addr}{rows:List (List V)},iM H as rows->H a=some (.tup r)->iM H (as++[a]) (rows++[r])
 | _,_,.nil,h=>.cons h .nil
 | _,_,.cons h t,h'=>.cons h (Eu t h')
def Vk (ls:List Str) (r:List V):Prop:=∃ (dy:Int) (cO:Ro),r=Ro.vs dy cO/\cO.Ok ls/\cO.Tx/\0<=dy/\dy<=9999
def rowAt (H:Hp) (a:Addr):List V:=match H a with
 | some (.tup r)=>r
 | _=>[]
theorem yu:∀ {all:List Addr}{rs:List (List V)},iM H all rs->all.map (rowAt H)=rs
 | _,_,.nil=>rfl
 | _,_,.cons h t=>by
  rw [A0h,yu t];unfold rowAt;rw [h]
theorem Iz {all:List Addr}{rs:List (List V)} (h:iM H all rs) (hr:∀ r∈rs,Vk ls r) (nd:rs.Nodup):iQ H all (rowAt H)/\∃ (lE:Addr->Int) (lF:Addr->Ro),∀ a∈all,Ak (rowAt H) lE lF ls a:=by
 have at':∀ a∈all,H a=some (.tup (rowAt H a))/\Vk ls (rowAt H a):=fun a ha=>by
  obtain ⟨q,hq,e⟩:=vB h a ha;have:rowAt H a=q:=by unfold rowAt;rw [e]
  rw [this];exact ⟨e,hr q hq⟩
 refine ⟨⟨fun a ha=>⟨(at' a ha).1,?_⟩,by rw [yu h];exact nd⟩,?_⟩
 ·obtain ⟨dy,cO,e,_,tx,_⟩:=(at' a ha).2;rw [e];exact Vj tx
 ·have ex:∀ a,∃ x:Int×Ro,a∈all->rowAt H a=Ro.vs x.1 x.2/\x.2.Ok ls/\x.2.Tx/\0<=x.1/\x.1<=9999:=fun a=>by
   by_cases c:a∈all
   ·obtain ⟨dy,cO,q⟩:=(at' a c).2;exact ⟨(dy,cO),fun _=>q⟩
   ·exact ⟨(0,.death ""),fun z=>absurd z c⟩
  refine ⟨fun a=>(Classical.choose (ex a)).1,fun a=>(Classical.choose (ex a)).2,fun a ha=>?_⟩;obtain ⟨q1,q2,q3,q4,q5⟩:=Classical.choose_spec (ex a) ha;exact ⟨q1,q2,q3,q4,q5⟩
theorem cut1 (v:V) (rest:List V):gK (v::rest) (some 1) none=rest:=by
 unfold gK;have e1:HT.eN (v::rest).length 0 (some 1)=1:=by
  rw [show (1:Int)=((1:Nat):Int) by rfl,HT.jZ]
  simp
 have e2:HT.eN (v::rest).length (v::rest).length none=(v::rest).length:=rfl;rw [e1,e2,List.drop_one,List.tail_cons,A3f 0xA]
inductive Bf (K:W.Frag) (vs:List V) (H:Hp) (Q:VK) (cD:XK):Prop
 | mk (fa p m la wy:Addr) (fs ways:List Int) (many:Int) (ms ls:List Str) (wd:Int) (_:vs=[.ref fa,.int 20,.int many,.ref p,.ref wy]) (_:H fa=some (.lst 0x7A)) (_:fs.length=160) (_:(∀ v∈fs,vZ v)) (_:0<=many) (_:many<=16) (_:Er H p m la ms ls wd) (_:H wy=some (.lst (ways.map V.int))) (_:0<ways.length) (_:ways.length<=20) (_:(∀ v∈ways,vZ v/\(v % 13<4\/v % 13=7\/v % 13=10\/v % 13=11))) (_:∀ R all rs H',Same H H'->H' R=some (.lst 0x2E)->H R=none->all.length<=16->iM H' all rs->(∀ r∈rs,Vk ls r)->rs.Nodup->Q (.ref R) H'):Bf K vs H Q cD
theorem jJ:aO ["_law_feed_here", "_law_at", "_law_many", "_law_pools_here", "_law_ways", "_law_book_here", "_law_rows_here", "_law_day", "_law_k", "_law_d", "_law_row_here"] A5M (aH Iw):=0x0
theorem Vl (F:fK K "_law_rows" "_law_rows" Iw f fd) (mr:mg "range"=none) (mn:mg "len"=none) (a1d:mg "min"=none)  (G1:aJ P w K mg base bM 1 g1 d1 ["_law_acres"] zA) (M1:Ms K mg "_law_book" g1 d1 ["_law_acres"])
  (G2:aJ P w K mg base bM 4 g2 d2 A5R (Vc K)) (M2:Ms K mg "_law_row" g2 d2 A5R)
  (G3:aJ P w K mg base bM 4 g3 d3 A5H tZ) (M3:Ms K mg "_law_word" g3 d3 A5H):aJ P w K mg base bM 5 f fd A5M (Bf K):=by
 refine F.ok jJ 0x1 0x3;obtain ⟨fa,p,m,la,wy,fs,ways,many,ms,ls,wd,rfl,hfa,hfl,hfo,m0,m1,pl,hwy,wp,wl,hwo,k⟩:=h;have hr1:cM 1 _:=hr.mono 0x5;refine ⟨_,aq (aR (i:=5) jJ.nd rfl 0x7 (bF G1 hr1 rfl M1.m M1.k M1.b .nil aX (aj (aP bI 0x5D aA 0x4) aC)))
  (aq (aR (i:=6) jJ.nd rfl 0x7 (dN aC))
  (aq (aR (i:=7) jJ.nd rfl 0x7 (aY bY 0x4B aA))
  (aq (bN (aQ dI (aY bY (aY jB 0x4B aA) aA) aA 0x61) (aG (aR (i:=7) jJ.nd rfl 0x7 (aY cZ aA (aY bY 0x4B aA)))) aU)
  (aq (gJ A0U rfl (lH rfl mr 0x33) (bC (i:=8) jJ.nd rfl 0x7)
   (aq (aR (i:=9) jJ.nd rfl 0x7 (fj jC 0x32 (cF (aY cZ 0xF (aY kY aA (pv 8)))) (cF (aY cZ (aY cZ 0xF (aY kY aA (pv 8))) aA))))
   (aq (aR (i:=10) jJ.nd rfl 0x7 (bF G2 hr rfl M2.m M2.k M2.b .nil aX (aj (pv 5) (aj 0x5D (aj (aY pA (dN (aj (aP bD (pv 4) (aY bY (aP bD (pv 9) aA 0x4) (bG cT rfl mn A1v (aj (pv 4) aC))) 0x4) aC)) (fj jC (pv 9) (cF aA) fY)) (aj (pv 7) aC))))))
   (aq (bN (aQ (O4 (u64 hr)) (pv 10) (pv 6) 0x11)
    (aq (bL (iz A0z A0Q A0R cQ (pv 6) (aj (pv 10) aC)))
    (aG (bL (bF G3 hr rfl M3.m M3.k M3.b .nil aX (aj (pv 5) (aj (pv 10) aC)))))) aU)
   (aG (aR (i:=7) jJ.nd rfl 0x7 (bG (wG rfl) rfl a1d Va (aj aA (aj (aY cZ (pv 7) (aP bD (dN (aj aA (aj aA (aj aA (aj aA (aj aA aC)))))) (aY bY (aY jB (aP bD (pv 9) aA 0x4) aA) aA) 0x4)) aC)))))))))
  (aG (aV (pv 6))))))),?_⟩
 refine ⟨_,rfl,p,_,_,_,rfl,rfl,cj.of pl.r,aL (j:=2) rfl,wd,rfl,fun B bl bh bo bd Il Im Io Ip b0 kvs H1 s1 hfree ndl BL BXL Om=>⟨small 0xA,fun R hR=>?_⟩⟩;obtain ⟨q,hq,apq⟩:∃ q:Ad,(q.B=B/\q.l=bl/\q.h=bh/\q.o=bo/\q.d=bd/\q.kn=Il/\q.dd=Im/\q.he=Io/\q.lg=Ip/\q.kvs=kvs)/\Ap q :=
  ⟨⟨0,0,[B,bl,bh,bo,bd,Il,Im,Io,Ip].sum+1,[B,bl,bh,bo,bd,Il,Im,Io,Ip].sum+2,[B,bl,bh,bo,bd,Il,Im,Io,Ip].sum+3,[B,bl,bh,bo,bd,Il,Im,Io,Ip].sum+4,[B,bl,bh,bo,bd,Il,Im,Io,Ip].sum+5,B,bl,bh,bo,bd,Il,Im,Io,Ip,kvs,wd⟩,⟨rfl,rfl,rfl,rfl,rfl,rfl,rfl,rfl,rfl,rfl⟩,five ndl⟩
 obtain ⟨rfl,rfl,rfl,rfl,rfl,rfl,rfl,rfl,rfl,rfl⟩:=hq;have B1:Bk q H1 [yr wd 0 b0] []:=BL;have X1:Bx q H1 (W0 (yr wd 0 b0)):=BXL;have RO':R∉iW q:=qL B1 X1 hR;have RB:R≠q.B:=fun z=>by rw [z,B1.b] at hR;cases hR
 have RG:R≠q.lg:=fun z=>by rw [z,X1.g] at hR;cases hR
 have a1a:∀ {c:Addr}{u:HO},H c=some u->c∉iW q:=fun {c u} hc z=>by
  have:H c=none:=hfree c (by simp only [iW,A0d,A0u,A1m] at z ⊢;rcases z with e | e | e | e | e | e | e <;> simp [e]);rw [this] at hc;cases hc
 have hR0:H R=none:=s1.free hR
 apply 0o1 H1 R hR sR R2 H2
 have s2:=s1.trans sR;have B2:Bk q H2 [yr wd 0 b0] []:=B1.same sR;have X2:Bx q H2 (W0 (yr wd 0 b0)):=X1.same sR;have fr2:∀ e∈[yr wd 0 b0],jF H2 e.tb e.due.1 e.due.2:=fun e he=>by rw [A0c.mp he];exact sR _ _ Om
 have hls:∀ n∈ls,n≠""/\PyData.strOk n=true:=fun n hn=>(pl.ol n hn).ne;obtain ⟨v14,e14,o14⟩:=gY hfo (i:=14) 0x5 0x2;obtain ⟨o14a,o14b⟩:=o14;have fa2:=s2 _ _ hfa;refine ⟨_,rfl,fa,_,_,_,rfl,rfl,bO.of fa2,e14,_,_,rfl,rfl,(by show (0:Int)<40;decide),?_⟩
 dsimp only [uq];refine grab (a:=Ly _ _ _) (fun σ' Hx=>∃ day:Int,σ'=[some (.ref fa),some (.int 20),some (.int many),some 0x48,some (.ref wy),some (.ref q.B),some (.ref R),some (.int day),none,none,none]/\Hx=H2/\0<=day/\day<=9999) (fun σ' Hx hp=>?_) (fun go=>?_)
 rotate_left
 ·refine ⟨_,rfl,fa,_,_,_,rfl,rfl,bO.of fa2,e14,_,_,rfl,rfl,⟨by decide,by decide⟩,_,_,rfl,rfl,(by show (0:Int)<8;decide),rfl,_,rfl,eq_int 0x86 0x86⟩
  ·exact ⟨_,rfl,fa,_,_,_,rfl,rfl,bO.of fa2,e14,_,_,rfl,rfl,(by show (0:Int)<15;decide),_,_,rfl,rfl,go _ _ ⟨_,rfl,rfl,by lia,by lia⟩⟩
  ·exact go _ _ ⟨_,rfl,rfl,by lia,by lia⟩
 obtain ⟨day0,rfl,rfl,dd0,dd1⟩:=hp;refine ⟨_,rfl,many,rfl,by lia,by lia,?_⟩;refine lK (lo:=0) (n:=many.toNat) (fun i σ Hx=>∃ (W:Wo) (all:List Addr) (rs:List (List V)) (day:Int) (u8 u9 u10:Option V),σ=[some (.ref fa),some (.int 20),some (.int many),some 0x48,some (.ref wy),some (.ref q.B),some (.ref R),some (.int day),u8,u9,u10]/\Same H Hx/\Bk q Hx W.es W.ks/\Bx q Hx W/\Wp W ls i wd/\(∀ e∈W.es,jF Hx e.tb e.due.1 e.due.2)/\Hx R=some (.lst 0x2E)/\all.length<=i/\iM Hx all rs/\(∀ r∈rs,Vk ls r)/\rs.Nodup/\0<=day/\day<=9999)
  ⟨W0 (yr wd 0 b0),[],[],day0,none,none,none,rfl,s2,B2,X2,qI (V4 wd 0 b0 ls pl.w1 pl.w2) rfl rfl rfl,fr2,R2,A0f _,.nil,(fun r hr=>nomatch hr),.nil,dd0,dd1⟩ ?_ ?_
 ·rintro i σ Hx hi ⟨W,all,rs,day,u8,u9,u10,rfl,sx,BX,XX,PX,fX,RX,al,RA,IR,nd,a2I,a2J⟩;have hi16:i<16:=by lia
  have fax:=sx _ _ hfa;have wyx:=sx _ _ hwy;refine ⟨_,rfl,_,rfl,_,rfl,_,_,rfl,rfl,.inl ⟨by decide,by decide⟩,_,_,rfl,rfl,_,rfl,_,rfl,_,rfl,_,_,rfl,rfl,.inl ⟨by decide,by decide⟩,_,_,rfl,rfl,_,_,rfl,rfl,_,rfl,fa,_,rfl,bO.of fax,fun D hD=>?_⟩;have ec:gK 0x7A (some (20+8 * (0+(i:Int)))) (some (20+8 * (0+(i:Int))+8))=((fs.drop (20+8 * i)).take 8).map V.int:=by
   have x1:20+8 * (0+(i:Int))=((20+8 * i:Nat):Int):=by lia
   have x2:20+8 * (0+(i:Int))+8=((20+8 * i+8:Nat):Int):=by lia
   rw [x2,x1,vR 0x2 0x2]
   congr 2
   lia
  rw [ec];have hdo:∀ v∈(fs.drop (20+8 * i)).take 8,vZ v:=Iv hfo;have dl:((fs.drop (20+8 * i)).take 8).length=8:=by rw [A0G,A1H];lia
  generalize (fs.drop (20+8 * i)).take 8=ds at hdo dl ⊢
  apply 0o1 Hx D hD sD kD HD
  have RD:HD R=some (.lst 0x2E):=sD _ _ RX;have sxD:=sx.trans sD;obtain ⟨d0,e0,o0⟩:=gY hdo (i:=0) 0x5 0x2;obtain ⟨d6,e6,o6⟩:=gY hdo (i:=6) 0x5 0x2;obtain ⟨dh,dt,rfl⟩:∃ a r,ds=a::r:=by
   cases ds with
   | nil=>simp at dl
   | cons a r=>exact ⟨a,r,rfl⟩
  have wpos:(0:Int)<((ways.map V.int).length:Int):=by rw [bV];lia
  obtain ⟨wv0,hwv,hwm⟩:=oM (xs:=ways.map V.int) (i:=d0 % ((ways.map V.int).length:Int)) (A0V _ (Int.ne_of_gt wpos)) (A0N _ wpos);obtain ⟨wv,hwv2,rfl⟩:=A0j.mp hwm;have hwo':=hwo wv hwv2;refine ⟨_,rfl,_,rfl,_,rfl,_,rfl,D,_,_,_,rfl,rfl,bO.of kD,e0,_,rfl,wy,_,rfl,.inl (bO.of (sD _ _ wyx)),_,_,rfl,rfl,wpos,wy,_,_,_,rfl,rfl,bO.of (sD _ _ wyx),hwv,small 0xA,fun L1 hL1=>?_⟩
  apply 0o1 HD L1 hL1 sL1 k1 HL1
  refine ⟨_,rfl,_,rfl,D,_,rfl,bO.of (sL1 _ _ kD),fun L2 hL2=>?_⟩;rw [A0h,cut1]
  apply 0o1 HL1 L2 hL2 sL2 k2 HL2
  have dtl:dt.length=7:=by simpa using dl
  refine ⟨L1,L2,_,_,rfl,rfl,sL2 _ _ k1,k2,(by rw [bV,A0r];exact small 0x2),fun L3 hL3=>?_⟩;have e3:[V.int wv]++dt.map V.int=(wv::dt).map V.int:=rfl;rw [e3]
  apply 0o1 HL2 L3 hL3 sL3 k3 HL3
  have sxL:=sL1.trans (sL2.trans sL3);have sx3:=sxD.trans sxL;have ln:=PX.E.P.ln;refine ⟨_,rfl,q,W.es,W.ks,p,L3,m,la,ms,ls,wd,day,wv::dt,rfl,apq,eO.same BX (sD.trans sxL),PX.E.P.W,by lia,pl.same sx3,bO.of k3,by rw [oX,dtl],fun v hv=>?_,fun x hx=>?_,fun r cO HR sr hr' hok htx=>?_⟩
  ·rcases A0d.mp hv with z | z
   ·rw [z];exact hwo'.1
   ·exact hdo v (iT _ z)
  ·have:wM ((wv::dt).map V.int) 0=some (V.int wv):=aL (j:=0) rfl;rw [this] at hx;injection hx with hx;injection hx with hx;rw [<- hx];exact hwo'.2
  ·have sXR:=(sD.trans sxL).trans sr;have sxR:=sx.trans sXR;have BR:=eO.same BX sXR;have XR:=XX.same sXR;have fR:∀ e∈W.es,jF HR e.tb e.due.1 e.due.2:=fun e he=>sXR _ _ (fX e he);have RR:=sXR _ _ RX;have DR:HR D=some (.lst ((dh::dt).map V.int)):=sr _ _ (sxL _ _ kD);have RAR:iM HR all rs:=yt RA sXR;have flat:∀ q∈rs,q.all ig=true:=fun q hq=>by
    obtain ⟨dy,rw2,e,_,tx,_⟩:=IR q hq;rw [e];exact Lj tx
   dsimp only [uq];refine grab (a:=Ly _ _ _) (fun σ' Hy=>∃ (W':Wo) (all':List Addr) (rs':List (List V)),σ'=[some (.ref fa),some (.int 20),some (.int many),some 0x48,some (.ref wy),some (.ref q.B),some (.ref R),some (.int day),some (.int (0+(i:Int))),some 0x60,some 0x71]/\Same H Hy/\Bk q Hy W'.es W'.ks/\Bx q Hy W'/\Wp W' ls (i+1) wd/\(∀ e∈W'.es,jF Hy e.tb e.due.1 e.due.2)/\Hy R=some (.lst (all'.map V.ref))/\all'.length<=i+1/\iM Hy all' rs'/\(∀ r∈rs',Vk ls r)/\rs'.Nodup/\Hy D=some (.lst ((dh::dt).map V.int))) (fun σ' Hy hp=>?_) (fun go=>?_)
   rotate_left
   ·refine ⟨_,rfl,_,rfl,r,R,all,Ro.vs day cO,rs,rfl,rfl,bO.of RR,hr',Lj htx,RAR,flat,?_⟩
    by_cases hin:Ro.vs day cO∈rs
    ·have eb:(rs.any fun q=>decide (q=Ro.vs day cO))=true:=by
      rw [List.any_eq_true];exact ⟨_,hin,A0k rfl⟩
     rw [eb];refine ⟨_,rfl,?_⟩;exact go _ _ ⟨W,all,rs,rfl,sxR,BR,XR,⟨PX.E.up (A2d i),PX.hv,Nat.le_succ_of_le PX.hl,Nat.le_succ_of_le PX.dl,PX.nd⟩,fR,RR,by lia,RAR,IR,nd,DR⟩
    ·have eb:(rs.any fun q=>decide (q=Ro.vs day cO))=false:=by
      rw [A3T];exact fun q hq=>by rw [A1M];exact fun z=>hin (z ▸ hq)
     rw [eb];refine ⟨_,rfl,?_⟩;refine ⟨_,rfl,.inl ⟨rfl,_,bO.of RR⟩,_,rfl,R,_,_,rfl,rfl,RR,by rw [bV];exact small 0x2,?_⟩;have nT:∀ {c:Addr}{xs:List V},HR c=some 0x35->(upd HR R 0x26) c=some 0x35:=fun h=>by rw [ak (aZ h RR 0x6)];exact h
     have nK:∀ {c:Addr}{kv:List 0x2C},HR c=some (.dK kv)->(upd HR R 0x26) c=some (.dK kv):=fun h=>by rw [ak (aZ h RR 0x6)];exact h
     have BA:Bk q (upd HR R 0x26) W.es W.ks:=Lf BR RB RO';have XA:Bx q (upd HR R 0x26) W:=Lg XR RG RO';have RAA:iM (upd HR R 0x26) all rs:=Paired.Ou RAR fun a b h=>nT h;have rA:=nT hr';have fA:∀ e∈W.es,jF (upd HR R 0x26) e.tb e.due.1 e.due.2:=fun e he=>nT (fR e he);have hRA:(upd HR R 0x26) R=some 0x26:=ao;have sA:Same H (upd HR R 0x26):=fun c u h=>by rw [ak (au h hR0)];exact sxR _ _ h
     have DA:(upd HR R 0x26) D=some (.lst ((dh::dt).map V.int)):=by
      rw [ak (au RX hD).symm];exact DR
     generalize upd HR R 0x26=HA at BA XA RAA rA fA hRA sA DA ⊢;refine ⟨_,rfl,_,rfl,q,W,ls,i,r,cO,day,wd,rfl,apq,BA,XA,PX,fA,hok,hls,by lia,rA,fun w1 W' HW J BW XW fW ob=>?_⟩;refine go _ _ ⟨W',all++[r],rs++[Ro.vs day cO],rfl,fun c u h=>?_,BW,XW,J.wp PX hok htx hls,fW,?_,?_,?_,?_,?_,?_⟩
     ·exact ob c u (a1a h) (sA _ _ h)
     ·rw [jw];exact ob R _ RO' hRA
     ·rw [iw,A0r];lia
     ·exact Eu (Paired.Ou RAA fun a b h=>Ao BA XA ob h) (Ao BA XA ob rA)
     ·intro x hx;rcases A0x.mp hx with z | z
      ·exact IR x z
      ·rw [A0c.mp z];exact ⟨day,cO,rfl,hok,htx,a2I,a2J⟩
     ·rw [A2b];exact ⟨nd,by simp,fun a ha b hb=>by rw [A0c.mp hb];exact fun z=>hin (z ▸ ha)⟩
     ·exact ob D _ (qL BX XX hD) DA
   ·obtain ⟨W',all',rs',rfl,sy,By,Xy,Py,fy,Ry,ay,RAy,IRy,ndy,Dy⟩:=hp;refine ⟨_,rfl,small 0xA,fun L hL=>?_⟩;have sL:=aM hL (.lst [V.int 1,V.int 1,V.int 0,V.int 5,V.int 300]);have kL:(upd Hy L (.lst [V.int 1,V.int 1,V.int 0,V.int 5,V.int 300])) L=some (.lst [V.int 1,V.int 1,V.int 0,V.int 5,V.int 300]):=ao;have RL:=sL _ _ Ry;have DL:=sL _ _ Dy;have sHL:=sy.trans sL;have BL':=eO.same By sL;have XL':=Xy.same sL;have fL:∀ e∈W'.es,jF (upd Hy L (.lst [V.int 1,V.int 1,V.int 0,V.int 5,V.int 300])) e.tb e.due.1 e.due.2:=fun e he=>sL _ _ (fy e he);have RAL:=yt RAy sL;generalize upd Hy L (.lst [V.int 1,V.int 1,V.int 0,V.int 5,V.int 300])=HL at sL kL RL DL sHL BL' XL' fL RAL ⊢;obtain ⟨x,ex,mx⟩:=oM (xs:=[V.int 1,V.int 1,V.int 0,V.int 5,V.int 300]) (i:=d6 / 4 % 5) (A0V _ 0x5) (A0N _ 0x5);obtain ⟨x',rfl,x0,x1⟩:∃ x':Int,x=.int x'/\0<=x'/\x'<=300:=by
     simp only [A0d,A0u,A1m] at mx;rcases mx with rfl | rfl | rfl | rfl | rfl <;> exact ⟨_,rfl,by decide,by decide⟩
    refine ⟨_,rfl,D,_,_,_,rfl,rfl,bO.of DL,e6,_,_,rfl,rfl,⟨by decide,by decide⟩,_,_,rfl,rfl,(by show (0:Int)<5;decide),L,_,_,_,rfl,rfl,bO.of kL,ex,_,_,rfl,rfl,_,_,rfl,?_⟩
    refine ⟨W',all',rs',_,_,_,_,rfl,sHL,BL',XL',Py,fL,RL,ay,RAL,IRy,ndy,?_,?_⟩ <;> split <;> lia
 ·rintro σ Hx ⟨W,all,rs,day,u8,u9,u10,rfl,sx,BX,XX,PX,fX,RX,al,RA,IR,nd,_,_⟩;exact ⟨_,rfl,k R all rs Hx sx RX hR0 0x2 RA IR nd⟩
abbrev sEi:Stmt:=top 73
abbrev sLi:Stmt:=top 74
theorem qP {q:Addr} (hp:H p=some 0x23) (hq:H q=some 0x23) (hl:ss.length<=1000):R5 H 3 0x48 (.ref q):=by
 refine .inr (.inr ⟨p,q,_,_,rfl,rfl,hp,hq,rfl,by rw [bV];exact hl,fun i x y h1 h2=>?_⟩);rw [h1] at h2;cases h2;rw [jW] at h1;obtain ⟨z,_,rfl⟩:=A0v.mp h1;exact .inl ⟨rfl,rfl⟩
theorem a2K {q:Addr}{x y:Int} (hp:H p=some (.tup [.int x,.int y])) (hq:H q=some (.tup [.int x,.int y])):R5 H 2 0x48 (.ref q):=by
 refine .inr (.inl ⟨p,q,_,_,rfl,rfl,hp,hq,rfl,by simp,fun i u v h1 h2=>?_⟩);rw [h1] at h2;cases h2;have:u=.int x\/u=.int y:=by
  match i,h1 with
  | 0,h1=>exact .inl (by simpa using h1.symm)
  | 1,h1=>exact .inr (by simpa using h1.symm)
  | (i+2),h1=>simp at h1
 rcases this with rfl | rfl <;> exact .inl ⟨rfl,rfl⟩
theorem Oj (o:Option Str):YJ (iY o)=true:=by cases o <;> rfl
theorem Y7 {q ta tb:Addr}{m:Str}{o:Option Str}{i j:Int}{d:Int×Int} (hp:H p=some (.tup [.str m,iY o,.int i,.int j,.ref ta])) (hq:H q=some (.tup [.str m,iY o,.int i,.int j,.ref tb])) (h1:jF H ta d.1 d.2) (h2:jF H tb d.1 d.2):R5 H 3 0x48 (.ref q):=by
 refine .inr (.inl ⟨p,q,_,_,rfl,rfl,hp,hq,rfl,by simp,fun i u v e1 e2=>?_⟩)
 match i,e1,e2 with
 | 0,e1,e2=>simp at e1 e2;subst e1 e2;exact .inl ⟨rfl,rfl⟩
 | 1,e1,e2=>simp at e1 e2;subst e1 e2;exact .inl ⟨rfl,Oj o⟩
 | 2,e1,e2=>simp at e1 e2;subst e1 e2;exact .inl ⟨rfl,rfl⟩
 | 3,e1,e2=>simp at e1 e2;subst e1 e2;exact .inl ⟨rfl,rfl⟩
 | 4,e1,e2=>simp at e1 e2;subst e1 e2;exact a2K h1 h2
 | (i+5),e1,e2=>simp at e1
inductive a1h (C:Addr) (vs:List V) (H:Hp) (Q:VK) (cD:XK):Prop
 | mk (q:Ad) (es:List aN) (ks ls:List Str) (j:Nat) (e:aN) (_:vs=[.ref q.x,.ref q.B,.str e.n]) (_:Rel C q H es ks ls j) (_:e∈es) (_:es.length<=18) (_:∀ H',Same H H'->Q (.bl true) H'):a1h C vs H Q cD
inductive a1i (C:Addr) (vs:List V) (H:Hp) (Q:VK) (cD:XK):Prop
 | mk (q:Ad) (es:List aN) (ks ls:List Str) (j:Nat) (_:vs=[.ref q.x,.ref q.B]) (_:Rel C q H es ks ls j) (_:es.length<=18) (_:∀ H',Same H H'->Q (.bl true) H'):a1i C vs H Q cD
theorem a1j:aO ["_law_land", "_law_book_here", "_law_estate", "_law_told", "_law_due"] A5X (aH sEi):=0x0
theorem a2L (T:dX K C) (F:fK K "_law_estate_is" "_law_estate_is" sEi f fd) {g7 g8 g9 g10 g11 g12:Addr}{d7 d8 d9 d10 d11 d12:FuncData}
  (G1:aJ P w K mg base bM 3 g1 d1 A5y (uQ C)) (m1:Meth K C "holder" g1) (b1:Binds K d1 A5y [])
  (G2:aJ P w K mg base bM 3 g2 d2 A5y (Gh C)) (m2:Meth K C "lord" g2) (b2:Binds K d2 A5y [])
  (G3:aJ P w K mg base bM 3 g3 d3 A5y (JR C)) (m3:Meth K C "own" g3) (b3:Binds K d3 A5y [])
  (G4:aJ P w K mg base bM 3 g4 d4 A5y (rB C)) (m4:Meth K C "breadth" g4) (b4:Binds K d4 A5y [])
  (G5:aJ P w K mg base bM 3 g5 d5 A5y (rC C)) (m5:Meth K C "service" g5) (b5:Binds K d5 A5y [])
  (G6:aJ P w K mg base bM 3 g6 d6 A5y (z7 C)) (m6:Meth K C "chain" g6) (b6:Binds K d6 A5y [])
  (G7:aJ P w K mg base bM 1 g7 d7 A5y (ql C)) (m7:Meth K C "there" g7) (b7:Binds K d7 A5y [])
  (G8:aJ P w K mg base bM 3 g8 d8 A5y (tE C)) (m8:Meth K C "under" g8) (b8:Binds K d8 A5y [])
  (G9:aJ P w K mg base bM 2 g9 d9 A5z a0E) (M9:Ms K mg "_law_breadth" g9 d9 A5z)
  (G10:aJ P w K mg base bM 1 g10 d10 A5z T4) (M10:Ms K mg "_law_chain" g10 d10 A5z)
  (G11:aJ P w K mg base bM 1 g11 d11 A5z Dw) (M11:Ms K mg "_law_under" g11 d11 A5z)
  (G12:aJ P w K mg base bM 3 g12 d12 A5L (pG 3)) (Lk:Ms K mg "_law_same" g12 d12 A5L) :
  aJ P w K mg base bM 4 f fd A5X (a1h C):=by
 refine F.ok a1j 0x1 0x3;obtain ⟨q,es,ks,ls,j,e,rfl,R,he,hl,k⟩:=h;have G7:=aJ.mono (k:=3) G7 0x2;have G9:=aJ.mono (k:=3) G9 0x2;have G10:=aJ.mono (k:=3) G10 0x2;have G11:=aJ.mono (k:=3) G11 0x2;refine ⟨_,(aq (aR (i:=3) a1j.nd rfl 0x7 (cP (aj (bU 0x32 T.cl m1 G1 hr b1 .nil aX 0x33) (aj (bU 0x32 T.cl m2 G2 hr b2 .nil aX 0x33) (aj (bU 0x32 T.cl m3 G3 hr b3 .nil aX 0x33) (aj (bU 0x32 T.cl m4 G4 hr b4 .nil aX 0x33) (aj (bU 0x32 T.cl m5 G5 hr b5 .nil aX 0x33) aC)))))))
  (aq (aR (i:=4) a1j.nd rfl 0x7 (cP (aj (bf 0x17 0x68 0x2B 0x4) (aj (bf 0x17 0x68 0x2B 0x4) (aj (bf 0x17 0x68 0x2B 0x4) (aj (bF G9 hr rfl M9.m M9.k M9.b .nil aX (aj 0xF 0x33)) aC))))))
  (aq (bN (gP (dY (bF G12 hr rfl Lk.m Lk.k Lk.b .nil aX (aj 0x5D (aj (aY VL (pv 4) (cP (aj (bf 0x17 0x68 0x2B 0x4) aC))) aC))))) cA aU)
  (aq (bN (PW.pt (ug (gP (dY (bF G12 hr rfl Lk.m Lk.k Lk.b .nil aX (aj (bU 0x32 T.cl m6 G6 hr b6 .nil aX 0x33) (aj (bF G10 hr rfl M10.m M10.k M10.b .nil aX (aj 0xF 0x33)) aC))))) (oZ (gP (dY (bF G12 hr rfl Lk.m Lk.k Lk.b .nil aX (aj (bU 0x32 T.cl m7 G7 hr b7 .nil aX 0x33) (aj Bt aC)))))))) cA aU)
  (aG (aV (bF G12 hr rfl Lk.m Lk.k Lk.b .nil aX (aj (bU 0x32 T.cl m8 G8 hr b8 .nil aX 0x33) (aj (bF G11 hr rfl M11.m M11.k M11.b .nil aX (aj 0xF 0x33)) aC))))))))),?_⟩
 have W:=R.W;have L:=R.L;have bk:=R.B;have ap:=R.ap;have hen:e.n∈nms es:=A0j.mpr ⟨e,he,rfl⟩;have hs:(bH (jr es) (.inr e.n)).isSome=true:=by rw [nQ,A0k hen]
 obtain ⟨f1,f2,_⟩:=R.fr e he;obtain ⟨l,hch,hll⟩:=W.chain he;refine ⟨_,rfl,q.x,q.dx,_,rfl,L.o,rfl,_,rfl,q.x,q.dx,q.a1,q.a2,q.a3,q.a4,q.a5,_,_,_,_,_,e.n,_,rfl,L,hs,cX W.nd he,_,rfl,q.x,q.dx,_,rfl,L.o,rfl,_,rfl,q.x,q.dx,q.a1,q.a2,q.a3,q.a4,q.a5,_,_,_,_,_,e.n,_,rfl,L,hs,cX W.nd he,_,rfl,q.x,q.dx,_,rfl,L.o,rfl,_,rfl,q.x,q.dx,q.a1,q.a2,q.a3,q.a4,q.a5,_,_,_,_,_,e.n,_,rfl,L,hs,cX W.nd he,_,rfl,q.x,q.dx,_,rfl,L.o,rfl,_,rfl,q.x,q.dx,q.a1,q.a2,q.a3,q.a4,q.a5,_,_,_,_,_,e.n,_,rfl,L,hs,cX W.nd he,_,rfl,q.x,q.dx,_,rfl,L.o,rfl,_,rfl,q.x,q.dx,q.a1,q.a2,q.a3,q.a4,q.a5,_,_,_,_,_,e.n,_,rfl,L,hs,cX W.nd he,small 0xA,fun t1 ht1=>?_⟩
 apply 0o1 H t1 ht1 s1 k1 H1
 have R1:=R.same s1;refine ⟨_,rfl,q.B,_,rfl,R1.B.gh,_,rfl,q.h,_,rfl,WX R1.B.h W.nd he,_,rfl,q.B,_,rfl,R1.B.gl,_,rfl,q.l,_,rfl,WX R1.B.l W.nd he,_,rfl,q.B,_,rfl,R1.B.go,_,rfl,q.o,_,rfl,WX R1.B.o W.nd he,_,rfl,_,rfl,q,es,ks,e,rfl,ap,R1.B,W,he,hl,fun H2 s2=>⟨small 0xA,fun t2 ht2=>?_⟩⟩
 apply 0o1 H2 t2 ht2 s3 k2 H3
 have s13:=s2.trans s3;have s03:=s1.trans s13;have R3:=R.same s03;refine ⟨_,rfl,_,rfl,_,rfl,q.B,_,rfl,R3.B.gd,_,rfl,q.d,_,rfl,WX R3.B.d W.nd he,small 0xA,fun t3 ht3=>?_⟩;have s4:=aM ht3 (.tup [.ref e.tb]);refine ⟨t2,t3,_,_,rfl,rfl,cj.of (s4 _ _ k2),cj.of ao,0xA,small 0xA,(fun z=>absurd z 0xA),fun _ t4 ht4=>?_⟩;have s5:=aM ht4 (.tup [.str e.man,iY e.lord,.int e.own,.int e.br,.ref e.tb]);have s35:=s4.trans s5;refine ⟨_,_,rfl,Y7 (d:=e.due) (s35 _ _ (s13 _ _ k1)) ao (s35 _ _ (s03 _ _ f1)) (s35 _ _ (s03 _ _ f2)),fun H6 s6=>⟨_,rfl,cu ?_⟩⟩;have s06:=(s03.trans s35).trans s6;have R6:=R.same s06;refine ⟨_,rfl,q.x,q.dx,_,rfl,R6.L.o,rfl,_,rfl,q.x,q.dx,q.a1,q.a2,q.a3,q.a4,q.a5,_,_,_,_,_,e.n,l,rfl,R6.L,hs,hch,by lia,fun r1 H7 s7 hr1 hr1'=>?_⟩;have R7:=R6.same s7;refine ⟨_,rfl,_,rfl,q,es,ks,e.n,l,rfl,ap,R7.B,W,hen,hch,by lia,fun r2 H8 s8 hr2 hr2'=>?_⟩;refine ⟨_,_,rfl,qP (s8 _ _ hr1') hr2' 0x2,fun H9 s9=>⟨_,rfl,cu ?_⟩⟩;have s09:=((s06.trans s7).trans s8).trans s9;have R9:=R.same s09;refine ⟨_,rfl,q.x,q.dx,_,rfl,R9.L.o,rfl,_,rfl,q.x,q.dx,q.a1,q.a2,q.a3,q.a4,q.a5,_,_,_,_,_,e.n,rfl,R9.L,?_⟩;rw [hs];refine ⟨_,_,rfl,.inl ⟨rfl,rfl⟩,fun H10 s10=>⟨_,rfl,cu ?_⟩⟩;have s010:=s09.trans s10;have R10:=R.same s010;refine ⟨_,rfl,q.x,q.dx,_,rfl,R10.L.o,rfl,_,rfl,q.x,q.dx,q.a1,q.a2,q.a3,q.a4,q.a5,_,_,_,_,_,e.n,rfl,R10.L,hs,Dt,YL,by rw [iJ];lia,fun r3 ss H11 s11 hr3 a1k hp hso=>?_⟩;have R11:=R10.same s11;refine ⟨_,rfl,_,rfl,q,es,ks,e.n,rfl,ap,R11.B,W.nd,by lia,fun r4 ss' H12 s12 hr4 hr4' hp' hso'=>?_⟩;have ess:ss=ss':=mH ((Kd hp).trans hp'.symm) hso hso';subst ess;have hsl:ss.length<=es.length:=by
  rw [hp'.length_eq,bV];exact A0K _ _
 exact ⟨_,_,rfl,qP (s12 _ _ a1k) hr4' 0x2,fun H13 s13=>k _ (((s010.trans s11).trans s12).trans s13)⟩
theorem a1l:aO A5U ["_law_land", "_law_book_here"] (aH sLi):=0x0
def a2M:Scope:={ kind:=.function,names:=[0x79,("_law_one",.local)],isGenerator:=false,isCoroutine:=false }
theorem a2N:fu A5U (aH sLi) a2M ["_law_one"] [] []:=0xB
theorem a2O:((["_law_one"]:List Str)++([]:List Str)).Nodup:=by decide +kernel
def a2P:Scope:={ kind:=.function,names:=[0x79,("_law_man",.local),("_law_same",.globalImplicit),("_law_held",.globalImplicit),("_law_book_here",.free),("_law_land",.free)],isGenerator:=false,isCoroutine:=false }
theorem a2Q:fu A5U (aH sLi) a2P ["_law_man"] ["_law_book_here", "_law_land"] [1,0]:=0xB
theorem a2R:((["_law_man"]:List Str)++(["_law_book_here", "_law_land"]:List Str)).Nodup:=by decide +kernel
def a2S:Scope:={ kind:=.function,names:=[0x79,("_law_estate",.local),("_law_estate_is",.globalImplicit),("_law_book_here",.free),("_law_land",.free)],isGenerator:=false,isCoroutine:=false }
theorem a2T:fu A5U (aH sLi) a2S ["_law_estate"] ["_law_book_here", "_law_land"] [1,0]:=0xB
theorem a2U:((["_law_estate"]:List Str)++(["_law_book_here", "_law_land"]:List Str)).Nodup:=by decide +kernel
theorem a1m:bootBuiltins "set"=some (.type "set"):=by decide +kernel
theorem yw {α:Type} (l:List α):l.filter (fun _=>true)=l:=List.filter_eq_self.mpr fun _ _=>rfl
theorem a2V (T:dX K C) (F:fK K "_law_land_is" "_law_land_is" sLi f fd) (m:MgS mg) (ms:mg "sorted"=none) (mse:mg "set"=none) 
  (G1:aJ P w K mg base bM 1 g1 d1 A5S (rD C)) (m1:Meth K C "estates" g1) (b1:Binds K d1 A5S [])
  (G2:aJ P w K mg base bM 1 g2 d2 A5S (GZ C)) (m2:Meth K C "folk" g2) (b2:Binds K d2 A5S [])
  (G3:aJ P w K mg base bM 1 g3 d3 A5K (za C)) (m3:Meth K C "held" g3) (b3:Binds K d3 A5K [])
  (G4:aJ P w K mg base bM 1 g4 d4 A5J Kg) (M4:Ms K mg "_law_held" g4 d4 A5J)
  (G5:aJ P w K mg base bM 3 g5 d5 A5L (pG 3)) (M5:Ms K mg "_law_same" g5 d5 A5L)
  (G6:aJ P w K mg base bM 4 g6 d6 A5X (a1h C)) (M6:Ms K mg "_law_estate_is" g6 d6 A5X) :
  aJ P w K mg base bM 5 f fd ["_law_land", "_law_book_here"] (a1i C):=by
 refine F.ok a1l 0x1 0x3;obtain ⟨q,es,ks,ls,j,rfl,R,hl,k⟩:=h;have G1:=aJ.mono (k:=4) G1 0x2;have G2:=aJ.mono (k:=4) G2 0x2;have G3:=aJ.mono (k:=4) G3 0x2;have G4:=aJ.mono (k:=4) G4 0x2;have G5:=aJ.mono (k:=4) G5 0x2;refine ⟨_,(aq (aR (i:=2) a1l.nd rfl 0x7 (bG fQ rfl ms fV (aj (pF (gO rfl a2N (tD 0x68) (fun s H fp C'=>⟨bC (i:=0) a2O rfl 0x7,kI (aQ nF 0x32 aK 0x61),pv 0⟩))) aC)))
  (aq (aR (i:=3) a1l.nd rfl 0x7 (bG (qw hr.hd) rfl ms fV (aj (fU (GP hr.hd) rfl mse a1m (aj (fU (GC hr.hd) rfl m.list oG (aj (N8 0x68) aC)) aC)) aC)))
  (aq (bN (PW.pt (ug (gP (dY (bF G5 hr rfl M5.m M5.k M5.b .nil aX (aj (ji 0x32 T.cl m1 G1 hr b1 .nil aX) 0x33)))) (oZ (gP (dY (bF G5 hr rfl M5.m M5.k M5.b .nil aX (aj (ji 0x32 T.cl m2 G2 hr b2 .nil aX) (aj 0x5D aC)))))))) cA aU)
  (aq (bN (gP (dY (bG (lN (K:=K) rfl hr.hd) rfl m.all uI (aj (gO rfl a2Q (eY 0x5D) (fun s H fp C'=>⟨bC (i:=0) a2R rfl 0x7,mj,(bF G5 hr rfl M5.m M5.k M5.b .nil aX (aj (bU 0x2B T.cl m3 G3 hr b3 .nil aX 0x82) (aj (bF G4 hr rfl M4.m M4.k M4.b .nil aX (aj 0xF 0x82)) aC)))⟩)) aC)))) cA aU)
  (aG (aV (bG (lN (K:=K) rfl hr.hd) rfl m.all uI (aj (gO rfl a2T (eY (aY pA (dN (aj aK aC)) 0x2B)) (fun s H fp C'=>⟨bC (i:=0) a2U rfl 0x7,mj,(bF G6 hr rfl M6.m M6.k M6.b .nil aX (aj 0x2B (aj 0xF 0x82)))⟩)) aC)))))))),?_⟩
 have W:=R.W;have bk:=R.B;have ap:=R.ap;have nB:q.B≠q.l:=bW ap 5 6 rfl rfl 0x5;have gB:∀ {o:Obj}{Hz:Hp},Same (upd H q.l (.gH o (.dK (jr es)))) Hz->dW Hz q.B (V.str "lords") (some (.ref q.l)):=fun sz=>gZ (sz _ _ (by rw [ak nB];exact bk.b)) bk.vl;refine rH (fun y=>!decide (y.n="")) bk.l 0x2 (fun o R' hR=>⟨_,rfl,q.B,_,rfl,gB 0x5C,hR⟩) (fun o y Hz A B hy sz hAB=>?_) (fun D Hz sz qR jU=>?_)
 ·refine ⟨Kp.set rfl 0x69,_,rfl,rfl,_,rfl,?_⟩;rw [gC];refine iU 0x45 0x45
  ·rw [A0i c] at hAB;exact ⟨_,rfl,hAB⟩
  ·rw [A0e c] at hAB;exact hAB
 have fle:(es.filter fun y:aN=>!decide (y.n=("" : Str))).length<=es.length:=A0K _ _;refine ⟨D,_,rfl,bO.of jU,(by rw [bV];lia),fun r1 ns hr1 hpn hsn=>?_⟩;have s1:=sz.trans (aM hr1 (.lst (ns.map V.str)));have k1:(upd Hz r1 (.lst (ns.map V.str))) r1=some (.lst (ns.map V.str)):=ao;generalize upd Hz r1 (.lst (ns.map V.str))=H1 at s1 k1 ⊢;have R1:=R.same s1;have nl:ns.length<=es.length:=by rw [hpn.length_eq,bV];exact fle
 refine ⟨_,rfl,q.B,_,rfl,R1.B.gh,q.h,_,rfl,R1.B.h,fun v1 hv1=>?_⟩
 apply 0o1 H1 v1 hv1 sv kv1 Ha
 refine ⟨v1,q.h,_,rfl,kv1,sv _ _ R1.B.h,fun l1 hl1=>?_⟩;have em:(hoL es).map (·.2)=(0x3A).map V.str:=by rw [A0S,A0S];rfl
 rw [em];have sl:=sv.trans (aM hl1 (.lst ((0x3A).map V.str)));have kl1:(upd Ha l1 (.lst ((0x3A).map V.str))) l1=some (.lst ((0x3A).map V.str)):=ao;generalize upd Ha l1 (.lst ((0x3A).map V.str))=Hb at sl kl1 ⊢;refine ⟨l1,_,rfl,bO.of kl1,(by rw [bV];lia),fun se hse=>?_⟩;have al:=qx 0x3A;rw [bV] at al;have ss0:=sl.trans (aM hse (jo P w se (lB 0x3A)));have kse:(upd Hb se (jo P w se (lB 0x3A))) se=some (jo P w se (lB 0x3A)):=ao;refine ⟨se,_,rfl,ao,by lia,fun r2 fk hr2 hpf hsf=>?_⟩;have hr2':(upd Hb se (jo P w se (lB 0x3A))) r2=none:=hr2;have s12:=ss0.trans (aM hr2' (.lst (fk.map V.str)));have s2:=s1.trans s12;have k1':=s12 _ _ k1;have k2:(upd (upd Hb se (jo P w se (lB 0x3A))) r2 (.lst (fk.map V.str))) r2=some (.lst (fk.map V.str)):=ao
 change (OJ _ _) _ _ (upd (upd Hb se (jo P w se (lB 0x3A))) r2 (.lst (fk.map V.str)))
 generalize upd (upd Hb se (jo P w se (lB 0x3A))) r2 (.lst (fk.map V.str))=H2 at s2 k1' k2 ⊢;have R2:=R.same s2;have fl:fk.length<=es.length:=by rw [hpf.length_eq];exact al
 refine ⟨_,rfl,q.x,q.dx,_,rfl,R2.L.o,rfl,q.x,q.dx,q.a1,q.a2,q.a3,q.a4,q.a5,_,_,_,_,_,rfl,R2.L,Dt,by rw [iJ];lia,fun r3 ss H3 s3 hr3 a1k hp3 hs3=>?_⟩;have e3:ss=ns:=by
  rw [tL] at hp3;exact mH (hp3.trans hpn.symm) hs3 hsn
 subst e3;refine ⟨_,rfl,_,_,rfl,qP a1k (s3 _ _ k1') 0x2,fun H4 s4=>⟨_,rfl,cu ?_⟩⟩;have s04:=(s2.trans s3).trans s4;have R4:=R.same s04;refine ⟨_,rfl,q.x,q.dx,_,rfl,R4.L.o,rfl,q,es,rfl,R4.L,by lia,fun r5 ff H5 s5 hr5 hr5' Vr Vp=>?_⟩;have e5:ff=fk:=GR (Vr.trans hpf.symm) Vp hsf;subst e5;have k2':=s4 _ _ (s3 _ _ k2);refine ⟨_,rfl,_,_,rfl,qP hr5' (s5 _ _ k2') 0x2,fun H6 s6=>⟨_,rfl,cu ?_⟩⟩;have s06:=(s04.trans s5).trans s6;have k26:=s6 _ _ (s5 _ _ k2');have k16:=s6 _ _ (s5 _ _ (s4 _ _ (s3 _ _ k1')));refine ⟨_,rfl,r2,rfl,⟨_,bO.of k26⟩,fun D2 hD2=>lV (xs:=ff) (fun _=>true) (fun _=>V.bl true) (bO.of k26) hD2 0x2 (fun x Hz2 A B hx Vw hAB=>?_) (fun Hz2 Vw Ay=>?_)⟩
 ·refine ⟨Kp.set rfl 0x69,jN ?_⟩;have s07:=s06.trans Vw;have R7:=R.same s07;refine ⟨_,rfl,q.x,q.dx,_,rfl,R7.L.o,rfl,_,rfl,q.x,q.dx,q.a1,q.a2,q.a3,q.a4,q.a5,_,_,_,_,_,x,rfl,R7.L,Dt,YM,by rw [iJ];lia,fun r8 s8l H8 s8 hr8 hr8' hp8 hs8=>?_⟩;have R8:=R7.same s8;refine ⟨_,rfl,_,rfl,q,es,ks,x,rfl,ap,R8.B,W.nd,by lia,fun r9 s9l H9 s9 hr9 hr9' hp9 hs9=>?_⟩;have e9:s8l=s9l:=by
   rw [tL] at hp8;have ef:(es.filter fun e=>decide (V.str e.man=V.str x))=es.filter fun y=>decide (y.man=x):=A2r fun y _=>gC;have hp8':s8l.Perm ((es.filter fun y=>decide (y.man=x)).map (·.n)):=by rw [<- ef];exact hp8
   exact mH (hp8'.trans hp9.symm) hs8 hs9
  subst e9;have l8:s8l.length<=es.length:=by rw [hp9.length_eq,bV];exact A0K _ _
  refine ⟨_,_,rfl,qP (s9 _ _ hr8') hr9' 0x2,fun H10 s10=>?_⟩;have:=hAB _ ((s8.trans s9).trans s10);rw [A0i rfl] at this;exact this
 have ebl:(ff.filter fun _=>true).map (fun _=>V.bl true)=(List.replicate ff.length true).map V.bl:=by rw [yw,List.map_const',A4O]
 refine ⟨D2,List.replicate ff.length true,rfl,bO.of (by rw [<- ebl];exact Ay),?_⟩;rw [all_true fun b hb=>A2m hb];refine ⟨_,rfl,cu ?_⟩;have s07:=s06.trans Vw;have k17:=Vw _ _ k16;refine ⟨small 0xA,fun c1 hc1=>?_⟩;have sc1:=aM hc1 (.lst [.str ""]);refine ⟨_,rfl,c1,r1,_,_,rfl,rfl,ao,sc1 _ _ k17,(by rw [bV,A0r];exact small 0x2),fun c2 hc2=>?_⟩;have sc2:=sc1.trans (aM hc2 (.lst ([.str ""]++ss.map V.str)));have kc2:(upd (upd Hz2 c1 (.lst [.str ""])) c2 (.lst ([.str ""]++ss.map V.str))) c2=some (.lst (((("" : Str)::ss)).map V.str)):=ao;generalize upd (upd Hz2 c1 (.lst [.str ""])) c2 (.lst ([.str ""]++ss.map V.str))=H11 at sc2 kc2 ⊢;have s011:=s07.trans sc2;refine ⟨c2,rfl,⟨_,bO.of kc2⟩,fun D3 hD3=>lV (xs:=""::ss) (fun _=>true) (fun _=>V.bl true) (bO.of kc2) hD3 (by rw [oX];lia) (fun x Hz3 A B hx sz3 hAB=>?_) (fun Hz3 sz3 hDz3=>?_)⟩
 ·refine ⟨Kp.set rfl 0x69,jN ?_⟩;have hxn:x∈nms es:=by
   rcases A0d.mp hx with z | z
   ·rw [z];exact W.mem0
   ·obtain ⟨y,hy,rfl⟩:=A0j.mp (hpn.mem_iff.mp z);exact A0j.mpr ⟨y,(A0J.mp hy).1,rfl⟩
  obtain ⟨y,hy,rfl⟩:=eZ hxn;refine ⟨_,rfl,_,rfl,_,rfl,q,es,ks,ls,j,y,rfl,R.same (s011.trans sz3),hy,hl,fun H12 s12=>?_⟩;have:=hAB _ s12;rw [A0i rfl] at this;exact this
 have ebl3:((("" : Str)::ss).filter fun _=>true).map (fun _=>V.bl true)=(List.replicate (("" : Str)::ss).length true).map V.bl:=by rw [yw,List.map_const',A4O]
 refine ⟨D3,List.replicate (("" : Str)::ss).length true,rfl,bO.of (by rw [<- ebl3];exact hDz3),?_⟩;rw [all_true fun b hb=>A2m hb];exact k _ (s011.trans sz3)
abbrev IK:Stmt:=top 77
inductive Ew (K:W.Frag) (vs:List V) (H:Hp) (Q:VK) (cD:XK):Prop
 | mk (a:Addr) (ns:List Int) (_:vs=[.ref a]) (_:bO K H a 0x42) (_:ns.length<=63) (_:∀ H',Q (.bl true) H'):Ew K vs H Q cD
theorem Y8 {y dy b3 b4 b5:Addr}{q:Ad}{ek es E:List aN} (m:Mix E ek es) (L:cg C H y dy b1 b2 b3 b4 b5 (jr ek) (hoL ek) (lY ek) (Oq ek) (Dr ek)) (B:Bk q H es ks) (P:Pu es ks ls j wd) (fa:∀ e∈ek,jF H e.ta e.due.1 e.due.2) (fb:∀ e∈es,jF H e.tb e.due.1 e.due.2)
  (nd:[b1,b2,b3,b4,b5,q.B,q.l,q.h,q.o,q.d,q.kn,q.dd,q.he,q.lg].Nodup):Rel C ⟨y,dy,b1,b2,b3,b4,b5,q.B,q.l,q.h,q.o,q.d,q.kn,q.dd,q.he,q.lg,q.kvs,wd⟩ H E ks ls j:=by
 have P':=m.ab.pu P;refine ⟨nd,?_,?_,P'.W,fun e he=>⟨?_,?_,P'.bd e he⟩,P'.kn,P'.ln,P'.lk,P'.nl,P'.tot⟩
 ·show cg C H y dy b1 b2 b3 b4 b5 (jr E) (hoL E) (lY E) (Oq E) (Dr E)
  rw [m.a1,m.a2,m.a3,m.a4,m.a5];exact L
 ·show eO H q.B q.l q.h q.o q.d q.kn q.dd q.kvs (jr E) (hoL E) (lY E) (xV E) ks
  rw [m.b1,m.b2,m.b3,m.b4];exact B
 ·obtain ⟨a,ha,e1,e2⟩:=m.fa e he;rw [e1,e2];exact fa a ha
 ·obtain ⟨a,ha,e1,e2⟩:=m.fb e he;rw [e1,e2];exact fb a ha
theorem Y9 {b3 b4 b5:Addr}{l:List Addr} (ap:QK b1 b2 b3 b4 b5) (h:∀ a∈l,H a=none) (nl:l.Nodup) (hb:∀ b∈[b1,b2,b3,b4,b5],∃ u,H b=some u):([b1,b2,b3,b4,b5]++l).Nodup:=by
 rw [A2b];refine ⟨?_,nl,fun a ha b hb' e=>?_⟩
 ·have:=ap.n12;have:=ap.n13;have:=ap.n14;have:=ap.n15;have:=ap.n23;have:=ap.n24;have:=ap.n25;have:=ap.n34;have:=ap.n35;have:=ap.n45;simp [*]
 ·obtain ⟨u,hu⟩:=hb a ha;subst e;rw [h a hb'] at hu;cases hu
section
variable {CR:Addr}
theorem Ey:aO ["_law_script", "_law_feed_here", "_law_pools_here", "_law_rows_here", "_law_court_here"] ["_law_script"] (aH IK):=0x0
theorem a1n (TC:o9 K CC) (T:dX K C) (F:fK K "law" "law" IK f fd) {g7 g8:Addr}{d7 d8:FuncData}
  (G1:aJ P w K mg base bM 1 g1 d1 ["_law_script", "_law_many"] (Gp K)) (M1:Ms K mg "_law_feed" g1 d1 ["_law_script", "_law_many"])
  (G2:aJ P w K mg base bM 2 g2 d2 ["_law_feed_here"] (Aw K)) (M2:Ms K mg "_law_pools" g2 d2 ["_law_feed_here"])
  (G3:aJ P w K mg base bM 5 g3 d3 A5M (Bf K)) (M3:Ms K mg "_law_rows" g3 d3 A5M)
  (G4:aJ P w K mg base bM 9 g4 d4 A5O (vU CC CR CK C K)) (M4:Ms K mg "_law_court" g4 d4 A5O)
  (G5:aJ P w K mg base bM 6 g5 d5 A5T (Vh CC)) (M5:Ms K mg "_law_judged_right" g5 d5 A5T)
  (G6:aJ P w K mg base bM 6 g6 d6 ["self", "day"] (vN CC C)) (m6:Meth K CC "land" g6) (b6:Binds K d6 ["self", "day"] [])
  (G7:aJ P w K mg base bM 5 g7 d7 A5Y (qM K)) (M7:Ms K mg "_law_books" g7 d7 A5Y)
  (G8:aJ P w K mg base bM 5 g8 d8 ["_law_land", "_law_book_here"] (a1i C)) (M8:Ms K mg "_law_land_is" g8 d8 ["_law_land", "_law_book_here"]) :
  aJ P w K mg base bM 10 f fd ["_law_script"] (Ew K):=by
 refine F.ok Ey 0x1 0x3;obtain ⟨a,ns,rfl,hS,hns,kk⟩:=h;have G1:=aJ.mono (k:=9) G1 0x2;have G2:=aJ.mono (k:=9) G2 0x2;have G3:=aJ.mono (k:=9) G3 0x2;have G5:=aJ.mono (k:=9) G5 0x2;have G6:=aJ.mono (k:=9) G6 0x2;have G7:=aJ.mono (k:=9) G7 0x2;have G8:=aJ.mono (k:=9) G8 0x2;refine ⟨_,aq (aR (i:=1) Ey.nd rfl 0x7 (bF G1 hr rfl M1.m M1.k M1.b .nil aX (aj 0x32 (aj aA aC))))
  (aq (aR (i:=2) Ey.nd rfl 0x7 (bF G2 hr rfl M2.m M2.k M2.b .nil aX 0x38))
  (aq (aR (i:=3) Ey.nd rfl 0x7 (bF G3 hr rfl M3.m M3.k M3.b .nil aX (aj 0xF (aj aA (aj (aY bY (aP bD 0xF aA 0x4) aA) (aj 0x2B (aj (dN (aj aA (aj aA (aj aA (aj aA (aj aA (aj aA (aj aA (aj aA aC))))))))) aC)))))))
  (aq (aR (i:=4) Ey.nd rfl 0x7 (bF G4 hr rfl M4.m M4.k M4.b .nil aX (aj 0x2B (aj 0xF (aj 0x5D aC)))))
  (aG (aV (nj (bF G5 hr rfl M5.m M5.k M5.b .nil aX (aj (pv 4) (aj 0x2B (aj 0x5D aC)))) (um (bF G8 hr rfl M8.m M8.k M8.b .nil aX (aj (bU (CX:=bM) (E:=E0) (pv 4) TC.cl m6 G6 hr b6 .nil aX (aj aA aC)) (aj (aP bI (bF G7 hr rfl M7.m M7.k M7.b .nil aX (aj (aP bI 0x2B aA 0x4) (aj 0x5D aC))) aA 0x4) aC)))))))))),?_⟩
 refine ⟨_,rfl,a,ns,160,rfl,hS,hns,by decide,by decide,fun r H1 fs s1 hr0 hr1 hlen hok=>?_⟩;have hfl:fs.length=160:=by lia
 refine ⟨_,rfl,r,fs,rfl,bO.of hr1,by lia,hok,fun rp m la ms ls wd H2 s2 pl=>?_⟩;obtain ⟨v0,e0,o0⟩:=gY hok (i:=0) 0x5 0x2;have hr2:=s2 _ _ hr1;refine ⟨_,rfl,_,rfl,r,_,_,_,rfl,rfl,bO.of hr2,e0,_,_,rfl,rfl,(by show (0:Int)<17;decide),_,rfl,small 0xA,fun wy hwy=>?_⟩
 have sw:=aM hwy (.lst (([0,1,2,7,10,11,10,3]:List Int).map V.int));refine ⟨r,rp,m,la,wy,fs,[0,1,2,7,10,11,10,3],_,ms,ls,wd,rfl,sw _ _ hr2,hfl,hok,by lia,by lia,pl.same sw,ao,by decide,by decide,fun v hv=>?_,fun R all rs H3 s3 hR hR0 Z6 RA hrs nd=>?_⟩
 ·simp only [A0d,A0u,A1m] at hv;rcases hv with h | h | h | h | h | h | h | h <;> (rw [h];exact ⟨⟨by decide,by decide⟩,by decide⟩)
 have s23:=sw.trans s3;obtain ⟨RO,lE,lF,RW⟩:=Iz RA hrs nd;have pl3:=pl.same s23;refine ⟨_,rfl,_,rfl,_,rfl,rp,r,R,m,la,fs,ms,ls,wd,all,rowAt H3,lE,lF,rfl,pl3,s23 _ _ hr2,hfl,hok,hR,Z6,RO,RW,fun c dc jl ll z q W qk ek Vt jL ts out ws t0 b H4 s4 hc0 pm up J ct ce=>?_⟩;have hls:∀ n∈ls,n≠""/\PyData.strOk n=true:=fun n hn=>(pl.ol n hn).ne;refine ⟨_,rfl,_,rfl,_,rfl,c,dc,jl,ll,z.z,rp,m,la,R,W,ms,ls,wd,wd,b,ts,all,out,ws,t0,rowAt H3,lE,lF,rfl,pl3.same s4,s4 _ _ hR,Z6,Ba RO s4,RW,ct.o,ct.J,pm,up,J,fun H5 s5=>⟨_,rfl,dU ?_⟩⟩;have Vm:=ct.same s5;have s45:=s4.trans s5;have ake:jz ek W.es:=Lb Vm.K.W Vm.P.E.P.W ce;have ll5:=Vm.ln;have ol:out.length<=16:=by rw [pm.length_eq];exact Z6
 refine ⟨_,rfl,c,dc,_,rfl,Vm.o,rfl,c,dc,z.z,jl,ll,qk,ek,jL,wd,b,wd,rfl,Vm.o,Vm.Ld,Vm.K.L,by lia,(ake.crb Vm.P.E.B).val Vm.K.W.nd,pl.w1,pl.w2,fun y dy b1 b2 b3 b4 b5 H6 s6 LA y0 q1 q2 q3 q4 q5 ap5=>?_⟩;have s46:=s45.trans s6;refine ⟨_,rfl,rp,_,_,_,rfl,rfl,cj.of (pl3.same s46).r,aL (j:=2) rfl,_,rfl,R,wd,all,rowAt H3,lE,lF,ls,rfl,pl.w1,pl.w2,bO.of (s46 _ _ hR),by lia,Ba RO s46,RW,hls,fun T wl q' W' ts' out' ws' b0 H7 s7 hT XH fresh ap' Bk' Bx' Pu' fr' JB pm' up' J'=>⟨T,_,_,_,rfl,rfl,cj.of hT,aL (j:=0) rfl,?_⟩⟩;obtain ⟨rfl,rfl,ab⟩:=qO (fun a ha=>(RO.1 a ha).2) RW hls pl.w1 pl.w2 pm pm' up up' J J';obtain ⟨E,mx⟩:=mix (Lb Vm.K.W Pu'.E.P.W (ce.trans ab.1.core));have nl:[q'.B,q'.l,q'.h,q'.o,q'.d,q'.kn,q'.dd,q'.he,q'.lg].Nodup:=(A2b.mp (show ([q'.a1,q'.a2,q'.a3,q'.a4,q'.a5]++[q'.B,q'.l,q'.h,q'.o,q'.d,q'.kn,q'.dd,q'.he,q'.lg]).Nodup from ap')).2.1
 have nd:=Y9 ap5 fresh nl fun b hb=>by
  simp only [A0d,A0u,A1m] at hb;rcases hb with h | h | h | h | h <;> rw [h]
  ·exact ⟨_,LA.l1⟩
  ·exact ⟨_,LA.l2⟩
  ·exact ⟨_,LA.l3⟩
  ·exact ⟨_,LA.l4⟩
  ·exact ⟨_,LA.l5⟩
 have Re:=Y8 mx (LA.same s7) Bk' Pu'.E.P (fun e he=>(s6.trans s7) _ _ (Vm.K.fr e he)) fr' nd;have ln:=Re.ln;exact ⟨_,E,W'.ks,ls,_,rfl,Re,by lia,fun H8 _=>kk H8⟩
end
def Bnd (x q:Str) (st:Stmt) (ps:List Str):Prop:=∀ (kV doc pm:Value) (an:Option Addr) (cdv ct:Value) (us:List Value),us.length=ps.length->bindArgs (PySem.W.fnOf x q (m9 st) (iB st) (aH st) .none kV doc pm an cdv ct) ⟨us,[]⟩=pure (ps.zip us)
def Dq (K:PySem.W.Frag) (x q:Str) (st:Stmt) (f:Addr):Prop:=∃ oc od kV dc pm an cd ct sl,K.lookup f=some ⟨oc,od,.func (PySem.W.fnOf x q (m9 st) (iB st) (aH st) .none kV dc pm an cd ct),sl⟩/\PySem.W.codeIn K cd q=true/\PySem.W.keepIn K 0x4E=true
def Df (K:PySem.W.Frag):List (Str×Stmt×List Str×Addr)->Prop
 | []=>True
 | (x,st,ps,f)::r=>(PySem.W.nsIn K mainGlobals x=some (some 0x4E)/\Dq K x x st f/\Bnd x x st ps)/\Df K r
def Mf (K:PySem.W.Frag) (C:Addr) (c:Str):List (Str×Stmt×List Str×Addr)->Prop
 | []=>True
 | (x,st,ps,f)::r=>(PySem.W.findIn K 0x87 x=some (some 0x4E)/\PySem.W.isFn K 0x4E=true/\Dq K x (c++x) st f/\Bnd x (c++x) st ps)/\Mf K C c r
def Na (K:PySem.W.Frag) (C:Addr):List Str->Prop
 | []=>True
 | x::r=>PySem.W.findIn K 0x87 x=some none/\Na K C r
def Nn (K:PySem.W.Frag):List Str->Prop
 | []=>True
 | x::r=>PySem.W.nsIn K mainGlobals x=some none/\Nn K r
def Nz (mg:Str->Option Value):List Str->Prop
 | []=>True
 | x::r=>mg x=none/\Nz mg r
def Qn (K:PySem.W.Frag):List 0x73->Prop
 | []=>True
 | (x,v)::r=>PySem.W.nsIn K mainGlobals x=some (some v)/\Qn K r
def Qm (mg:Str->Option Value):List 0x73->Prop
 | []=>True
 | (x,v)::r=>mg x=some v/\Qm mg r
theorem on0 {P:List Value->Prop} (h:P []):∀ us:List Value,us.length=0->P us
 | [],_=>h
theorem onS {P:List Value->Prop} (h:∀ (a:Value) (us:List Value),us.length=n->P (a::us)):∀ us:List Value,us.length=n+1->P us
 | a::us,e=>h a us (Nat.succ.inj e)
theorem Vn {d:Option Addr}{it:Array Value}{ss:Array (Option Value)} (h:K.lookup a=some ⟨.type "tuple",d,.seq it n,ss⟩) (hs:it.size<=sizeLine) (hv:Vals xs it.toList):KTp K a xs:=⟨_,it,n,h,rfl,rfl,hs,hv⟩
section
variable {x:Str}
theorem dq_f (h:Dq K x q st f):∃ fd,fK K x q st f fd/\PySem.W.keepIn K 0x4E=true:=by
 obtain ⟨oc,od,kV,dc,pm,an,cd,ct,sl,L,c,k⟩:=h;exact ⟨_,Qd L c k,k⟩
theorem mV (X:K.In h) (G:h.Ns mainGlobals mg) (a:PySem.W.nsIn K mainGlobals x=some (some 0x4E)/\Dq K x x st f/\Bnd x x st ps):∃ d,fK K x x st f d/\Ms K mg x f d ps:=by
 obtain ⟨a,l,b⟩:=a;obtain ⟨d,F,k⟩:=dq_f l;exact ⟨d,F,F.binds b,k,PySem.W.mg_of X G a⟩
theorem pL (a:PySem.W.findIn K 0x87 x=some (some 0x4E)/\PySem.W.isFn K 0x4E=true/\Dq K x q st f/\Bnd x q st ps):∃ d,fK K x q st f d/\Meth K C x f/\Binds K d ps []:=by
 obtain ⟨a,i,l,b⟩:=a;obtain ⟨d,F,k⟩:=dq_f l;exact ⟨d,F,⟨a,i,k⟩,F.binds b⟩
theorem Nn.m (X:K.In h) (G:h.Ns mainGlobals mg):∀ {l:List Str},Nn K l->Nz mg l
 | [],_=>True.intro
 | _::_,⟨a,b⟩=>⟨PySem.W.mg_none_of X G a,Nn.m X G b⟩
theorem Qn.m (X:K.In h) (G:h.Ns mainGlobals mg):∀ {l:List 0x73},Qn K l->Qm mg l
 | [],_=>True.intro
 | (_,_)::_,⟨a,b⟩=>⟨PySem.W.mg_of X G a,Qn.m X G b⟩
end
theorem all_mk {l:PySem.W.OpenLaw}{fa f1 f2 f3 f4 f5 f6 f7 f8 f9 Vu f11 f12 f13 f14 f15 f16 f17 f18 f19 f20 f21 f22 f23 f24 f25 f26 f27 f28 f29 f30 f31 f32 f33 f34 f35 f36 f37 f38 f39 f_I f_Th f_Es f_Ho f_Lo f_Ow f_Br f_Se f_Ch f_He f_Un f_Fo f_Gr f_Co f_Fa f_Ck f_Ad f_Sa f_Tw f_KI f_KH f_KX f_KT f_KD f_RI f_CI f_Ed f_Vs f_Vd f_Ld CR aF aB aW aD b1_ b2_ b3_ b4_ b5_ b6_ b7_ uw1 uw2 uw3 ud1 ud2 ud3 ud4 z1_ z2_ z3_ z4_ z5_ z6_ z7_:Addr}{tC:Tok}{esaB esaF esaW esaD:Array DictEntry}{naB naF naW naD:Nat}{a1o a1p:Array Value}{nb2_ nb4_:Nat}{db2_ db4_:Option Addr}{sb2_ sb4_:Array (Option Value)} (X:K.In h) (G:h.Ns mainGlobals mg) (hfa:mg "law"=some (.ref fa))
  (A:Df K (("fits",JT,["sort", "piece"],f1)::("check_acres",a0m,["acres"],f2)::("judged_order",zW,["rows"],f3)::("place_in_order",Hu,["row"],f4)::("judge",vq,A5I,f5)::("word_of_new",sWN,A5I,f6)::("word_of_living",sWL,A5I,f7)::("do_grant",sDG,A5I,f8)::("do_heir",sDH,A5I,f9)::("do_death",sDD,A5I,Vu)::("check_land",Ah,["acres", "bears"],f11)::("by_days",Ae,["rows"],f12)::("_law_feed",R0,["_law_script", "_law_many"],f13)::("_law_same",CV,A5L,f14)::("_law_names",Ar,["_law_d", "_law_many"],f15)::("_law_book",CW,["_law_acres"],f16)::("_law_under",WT,A5z,f17)::("_law_breadth",a0A,A5z,f18)::("_law_held",WW,A5J,f19)::("_law_why",a04,A5H,f20)::("_law_fall",a0H,A5z,f21)::("_law_new",sNew,A5N,f22)::("_law_taker",Am,A5J,f23)::("_law_do",sDo,A5H,f24)::("_law_word",Ik,A5H,f25)::("_law_kinds",Hv,[],f26)::("_law_sorted",zX,["_law_rows_here"],f27)::("_law_ahead",HJ,A5Z,f28)::("_law_books",Aq,A5Y,f29)::("_law_pools",Iu,["_law_feed_here"],f30)::("_law_row",Vb,A5R,f31)::("_law_rows",Iw,A5M,f32)::("_law_mixed",HN,A6c,f33)::("_law_chain",a0B,A5z,f34)::("_law_estate_is",sEi,A5X,f35)::("_law_land_is",sLi,["_law_land", "_law_book_here"],f36)::("_law_court",Az,A5O,f37)::("_law_judged_right",Y4,A5T,f38)::("law",IK,["_law_script"],f39)::[]))
  (B0:Mf K C "Land." (("__init__",QF,A5V,f_I)::("there",Gb,A5y,f_Th)::("estates",qj,A5S,f_Es)::("holder",yW,A5y,f_Ho)::("lord",QG,A5y,f_Lo)::("own",a0f,A5y,f_Ow)::("breadth",uO,A5y,f_Br)::("service",uP,A5y,f_Se)::("chain",Gd,A5y,f_Ch)::("held",JN,A5K,f_He)::("under",yX,A5y,f_Un)::("folk",JQ,A5S,f_Fo)::("grant",Ge,A5Q,f_Gr)::("convey",yZ,["self", "estate", "man"],f_Co)::("fall_back",QH,A5y,f_Fa)::("check_there",Gg,A5y,f_Ck)::("add_estate",a0g,A5P,f_Ad)::("same",Gf,["self", "other"],f_Sa)::("twin",QJ,A5S,f_Tw)::[]))
  (B1:Mf K CK "Kin." (("__init__",Tq,A5S,f_KI)::("name_heir",Hg,["self", "man", "heir"],f_KH)::("die",a0N,A5K,f_KX)::("taker",Hh,A5K,f_KT)::("is_dead",zM,A5K,f_KD)::[]))
  (B2:Mf K CR "Realm." (("__init__",zP,A5V,f_RI)::[]))
  (B3:Mf K CC "Court." (("__init__",Aj,A6a,f_CI)::("end_day",Af,["self", "day"],f_Ed)::("verdicts",Ig,A5S,f_Vs)::("verdict",Uy,["self", "row"],f_Vd)::("land",Ag,["self", "day"],f_Ld)::[]))
  (cC:Cls K C/\PySem.W.makesIn K C=true/\PySem.W.keepIn K 0x87=true/\Na K C ["lord_of", "holder_of", "own_of", "service_of", "breadth_of"])
  (cCK:Cls K CK/\PySem.W.makesIn K CK=true/\PySem.W.keepIn K (.ref CK)=true/\Na K CK ["heir_of", "gone"])
  (cCR:Cls K CR/\PySem.W.makesIn K CR=true/\PySem.W.keepIn K (.ref CR)=true/\Na K CR ["ground", "kin", "used", "lieges", "deaths"])
  (cCC:Cls K CC/\PySem.W.makesIn K CC=true/\PySem.W.keepIn K (.ref CC)=true/\Na K CC ["many_acres", "coins", "realm", "judged", "lands"])
  (Z:Nn K ["isinstance", "bool", "int", "str", "list", "tuple", "len", "all", "zip", "range", "sorted", "set", "max", "min", "dict"])
  (Q:Qn K (("CROWN",.str "" tC)::("STANDS",.str "stands" tS)::("BOUNDS",.ref aB)::("FORMS",.ref aF)::("WORDS",.ref aW)::("DEEDS",.ref aD)::("Land",.ref C)::("Kin",.ref CK)::("Realm",.ref CR)::("Court",.ref CC)::[]))
  (kaB:K.lookup aB=some ⟨.type "dict",none,.dict esaB naB,#[]⟩)
  (eaB:gF w.params esaB.toList [("day",.ref b1_),("acres",.ref b2_),("service",.ref b3_),("bears",.ref b4_),("edge",.ref b5_),("number",.ref b6_),("entry",.ref b7_)])
  (laB:(aB==sysModules)=false)
  (kaF:K.lookup aF=some ⟨.type "dict",none,.dict esaF naF,#[]⟩)
  (eaF:gF w.params esaF.toList [("heir",.ref z1_),("grant",.ref z2_),("part",.ref z3_),("convey",.ref z4_),("liege",.ref z5_),("surrender",.ref z6_),("death",.ref z7_)])
  (laF:(aF==sysModules)=false)
  (kaW:K.lookup aW=some ⟨.type "dict",none,.dict esaW naW,#[]⟩)
  (eaW:gF w.params esaW.toList [("heir",.ref f7),("grant",.ref f6),("part",.ref f6),("convey",.ref uw1),("liege",.ref uw2),("surrender",.ref uw3),("death",.ref f7)])
  (laW:(aW==sysModules)=false)
  (kaD:K.lookup aD=some ⟨.type "dict",none,.dict esaD naD,#[]⟩)
  (eaD:gF w.params esaD.toList [("heir",.ref f9),("grant",.ref f8),("part",.ref ud1),("convey",.ref ud2),("liege",.ref ud3),("surrender",.ref ud4),("death",.ref Vu)])
  (laD:(aD==sysModules)=false)
  (tb2_:K.lookup b2_=some ⟨.type "tuple",db2_,.seq a1o nb2_,sb2_⟩)
  (zb2_:a1o.size<=sizeLine)
  (vb2_:Vals [.int 1,.int 9999] a1o.toList)
  (tb4_:K.lookup b4_=some ⟨.type "tuple",db4_,.seq a1p nb4_,sb4_⟩)
  (zb4_:a1p.size<=sizeLine)
  (vb4_:Vals [.int 0,.int 99] a1p.toList) :
  ∃ fd:FuncData,(∀ (s:Shared) (v:Value),BindsTo s fd ⟨[v],[]⟩ [("_law_script",v)])/\∀ base:Heap,K.In base->base.Ns mainGlobals mg->aJ l.prog w K mg base bM 10 fa fd ["_law_script"] (Ew K):=by
 obtain ⟨h1,h2,h3,h4,h5,h6,h7,h8,h9,h10,h11,h12,h13,h14,h15,Z6,h17,h18,h19,h20,h21,h22,h23,h24,h25,h26,h27,h28,h29,h30,h31,h32,h33,h34,h35,h36,h37,h38,h39,_⟩:=A;obtain ⟨x0,⟨oc,od,kV,dc,pm,an,cd,ct,sl,L,c,kp⟩,_⟩:=h39;cases hfa.symm.trans (PySem.W.mg_of X G x0);have F39:=Qd (st:=IK) L c kp;refine ⟨PySem.W.fnOf "law" "law" (m9 IK) (iB IK) (aH IK) .none kV dc pm an cd ct,fun s v=>.of_eq rfl,fun base _ _=>?_⟩;obtain ⟨_,F1,M1⟩:=mV X G h1;obtain ⟨_,F2,M2⟩:=mV X G h2;obtain ⟨_,F3,M3⟩:=mV X G h3;obtain ⟨_,F4,M4⟩:=mV X G h4;obtain ⟨_,F5,M5⟩:=mV X G h5;obtain ⟨_,F6,M6⟩:=mV X G h6;obtain ⟨_,F7,M7⟩:=mV X G h7;obtain ⟨_,F8,M8⟩:=mV X G h8;obtain ⟨_,F9,M9⟩:=mV X G h9;obtain ⟨_,F10,M10⟩:=mV X G h10;obtain ⟨_,F11,M11⟩:=mV X G h11;obtain ⟨_,F12,Lk⟩:=mV X G h12;obtain ⟨_,F13,M13⟩:=mV X G h13;obtain ⟨_,F14,M14⟩:=mV X G h14;obtain ⟨_,F15,M15⟩:=mV X G h15;obtain ⟨_,F16,M16⟩:=mV X G Z6;obtain ⟨_,F17,M17⟩:=mV X G h17;obtain ⟨_,F18,M18⟩:=mV X G h18;obtain ⟨_,F19,M19⟩:=mV X G h19;obtain ⟨_,F20,M20⟩:=mV X G h20;obtain ⟨_,F21,M21⟩:=mV X G h21;obtain ⟨_,F22,M22⟩:=mV X G h22;obtain ⟨_,F23,M23⟩:=mV X G h23;obtain ⟨_,F24,M24⟩:=mV X G h24;obtain ⟨_,F25,M25⟩:=mV X G h25;obtain ⟨_,F26,M26⟩:=mV X G h26;obtain ⟨_,F27,M27⟩:=mV X G h27;obtain ⟨_,F28,M28⟩:=mV X G h28;obtain ⟨_,F29,M29⟩:=mV X G h29;obtain ⟨_,F30,M30⟩:=mV X G h30;obtain ⟨_,F31,M31⟩:=mV X G h31;obtain ⟨_,F32,M32⟩:=mV X G h32;obtain ⟨_,F33,M33⟩:=mV X G h33;obtain ⟨_,F34,M34⟩:=mV X G h34;obtain ⟨_,F35,M35⟩:=mV X G h35;obtain ⟨_,F36,M36⟩:=mV X G h36;obtain ⟨_,F37,M37⟩:=mV X G h37;obtain ⟨_,F38,M38⟩:=mV X G h38;obtain ⟨xI,xTh,xEs,xHo,xLo,xOw,xBr,xSe,xCh,xHe,xUn,xFo,sV,xCo,xFa,xCk,xAd,xSa,xTw,_⟩:=B0;obtain ⟨_,F_I,m_I,b_I⟩:=pL xI;obtain ⟨_,F_Th,a1q,a1r⟩:=pL xTh;obtain ⟨_,F_Es,m_Es,b_Es⟩:=pL xEs;obtain ⟨_,F_Ho,m_Ho,b_Ho⟩:=pL xHo;obtain ⟨_,F_Lo,m_Lo,b_Lo⟩:=pL xLo;obtain ⟨_,F_Ow,m_Ow,b_Ow⟩:=pL xOw;obtain ⟨_,F_Br,m_Br,b_Br⟩:=pL xBr;obtain ⟨_,F_Se,m_Se,b_Se⟩:=pL xSe;obtain ⟨_,F_Ch,m_Ch,b_Ch⟩:=pL xCh;obtain ⟨_,F_He,m_He,b_He⟩:=pL xHe;obtain ⟨_,F_Un,m_Un,b_Un⟩:=pL xUn;obtain ⟨_,F_Fo,m_Fo,b_Fo⟩:=pL xFo;obtain ⟨_,F_Gr,m_Gr,b_Gr⟩:=pL sV;obtain ⟨_,F_Co,m_Co,b_Co⟩:=pL xCo;obtain ⟨_,F_Fa,m_Fa,b_Fa⟩:=pL xFa;obtain ⟨_,F_Ck,IV,IW⟩:=pL xCk;obtain ⟨_,F_Ad,m_Ad,b_Ad⟩:=pL xAd;obtain ⟨_,F_Sa,m_Sa,b_Sa⟩:=pL xSa;obtain ⟨_,F_Tw,a1s,a1t⟩:=pL xTw;obtain ⟨xKI,xKH,xKX,xKT,xKD,_⟩:=B1;obtain ⟨_,F_KI,m_KI,b_KI⟩:=pL xKI;obtain ⟨_,F_KH,m_KH,b_KH⟩:=pL xKH;obtain ⟨_,F_KX,m_KX,b_KX⟩:=pL xKX;obtain ⟨_,F_KT,m_KT,b_KT⟩:=pL xKT;obtain ⟨_,F_KD,a1u,a1v⟩:=pL xKD;obtain ⟨xRI,_⟩:=B2;obtain ⟨_,F_RI,m_RI,b_RI⟩:=pL xRI;obtain ⟨xCI,xEd,xVs,xVd,xLd,_⟩:=B3;obtain ⟨_,F_CI,m_CI,b_CI⟩:=pL xCI;obtain ⟨_,F_Ed,m_Ed,b_Ed⟩:=pL xEd;obtain ⟨_,F_Vs,m_Vs,b_Vs⟩:=pL xVs;obtain ⟨_,F_Vd,m_Vd,b_Vd⟩:=pL xVd;obtain ⟨_,F_Ld,m_Ld,b_Ld⟩:=pL xLd;obtain ⟨kC,mkC,kpC,aC1,aC2,aC3,aC4,aC5,_⟩:=cC;obtain ⟨kCK,mkCK,kpCK,aCK1,aCK2,_⟩:=cCK;obtain ⟨kCR,mkCR,kpCR,aCR1,aCR2,aCR3,aCR4,aCR5,_⟩:=cCR;obtain ⟨kCC,mkCC,kpCC,aCC1,aCC2,aCC3,aCC4,aCC5,_⟩:=cCC;obtain ⟨Bg,a1w,a2W,a2X,Bh,Yb,vW,a2Y,a2Z,Bj,iR,a3a,a3b,Z8,a1x,_⟩:=Z.m X G;obtain ⟨u0,vX,Ez,Yc,Yd,Ye,Vo,a3c,Yg,Yh,_⟩:=Q.m X G;have ms:MgS mg:=⟨Bg,a1w,a2W,a2X,Bh,Yb,vW,a2Y,a2Z⟩;have T:dX K C:=⟨kC,aC1,aC2,aC3,aC4,aC5⟩;have TK:wB K CK:=⟨kCK,aCK1,aCK2⟩;have TR:mO K CR:=⟨kCR,aCR1,aCR2,aCR3,aCR4,aCR5⟩;have TC:o9 K CC:=⟨kCC,aCC1,aCC2,aCC3,aCC4,aCC5⟩;have mo:Ws K w.params mg:=⟨⟨aB,b1_,b2_,b3_,b4_,b5_,b6_,b7_,Ez,⟨⟨_,_,kaB,eaB⟩,laB⟩,Vn tb2_ zb2_ vb2_⟩,⟨tC,u0⟩⟩;have mb:ModB K w.params mg:=⟨⟨aB,b1_,b2_,b3_,b4_,b5_,b6_,b7_,Ez,⟨⟨_,_,kaB,eaB⟩,laB⟩,Vn tb4_ zb4_ vb4_⟩⟩;have fo:Forms K w.params mg:=⟨aF,_,Yc,⟨⟨_,_,kaF,eaF⟩,laF⟩,rfl⟩;have TB:Tabs K w.params mg f6 f7 f8 f9 Vu:=⟨⟨aW,f6,uw1,uw2,uw3,Yd,⟨⟨_,_,kaW,eaW⟩,laW⟩⟩,⟨aD,ud1,ud2,ud3,ud4,Ye,⟨⟨_,_,kaD,eaD⟩,laD⟩⟩⟩;have G1:=0o7 Wt F1 mo;have GfB:=0o7 Uz F1 mb;have G2:=0o7 a0o F2 G1 M1;have G11:=0o7 Od F11 G2 M2 GfB M1;have G_I:=0o7 Wu T F_I mo G2 M2;have a1y:=0o7 QM T F_Th;have J0:=0o7 Mu T F_Ck a1y a1q a1r;have G_Ho:=0o7 Mv T F_Ho J0 IV IW;have G_Lo:=0o7 Wi T F_Lo J0 IV IW;have G_Ow:=0o7 a0i T F_Ow J0 IV IW;have G_Br:=0o7 Gi T F_Br J0 IV IW
 have G_Se:=0o7 Gj T F_Se J0 IV IW;have G_Ch:=0o7 QV T F_Ch J0 IV IW;have G_Es:=0o7 Gk T u0 iR F_Es;have G_He:=0o7 Wj T iR F_He;have G_Un:=0o7 QX T iR F_Un J0 IV IW;have G_Fo:=0o7 WR T iR F_Fo;have G_Ad:=0o7 a0j T F_Ad;have G_Co:=0o7 Mz T F_Co;have G_Gr:=0o7 QZ T F_Gr G_Ad m_Ad b_Ad;have G_Fa:=0o7 Wm T F_Fa G_Un m_Un b_Un;have G_Sa:=0o7 Tw T F_Sa;have a1z:=0o7 Tz T F_Tw mo a1x G_I ⟨mkC,m_I.at_,m_I.fn,kpC⟩ Vo b_I;have G_KI:=0o7 Xg TK F_KI;have a1A:=0o7 X6 TK F_KD;have G_KH:=0o7 X5 TK u0 F_KH;have G_KX:=0o7 a0P TK u0 F_KX;have G_KT:=0o7 Tt TK F_KT a1A a1u a1v;have G_RI:=0o7 NQ T TR F_RI G_I ⟨mkC,m_I.at_,m_I.fn,kpC⟩ Vo b_I G_KI ⟨mkCK,m_KI.at_,m_KI.fn,kpCK⟩ a3c b_KI;have G6:=0o7 a2p T TK TR F6 vX a1y a1q a1r a1A a1u a1v G_Ow m_Ow b_Ow;have G7:=0o7 a2q (C:=C) TK TR F7 vX a1A a1u a1v;have G8:=0o7 a2s (CK:=CK) T TR F8 (aJ.mono (k:=4) G_Gr 0x2) m_Gr b_Gr;have G9:=0o7 a2t (C:=C) TK TR F9 (aJ.mono (k:=4) G_KH 0x2) m_KH b_KH;have G10:=0o7 a2u T TK TR F10 G_KX m_KX b_KX G_KT m_KT b_KT G_He m_He b_He G_Fa m_Fa b_Fa (aJ.mono (k:=4) G_Co 0x2) m_Co b_Co;have G5:=0o7 U0 F5 vX TB G6 M6 G7 M7 G8 M8 G9 M9 G10 M10;have G4:=0o7 U8 F4 fo Bh;have G3:=0o7 O2 F3 iR G4 M4;have G12:=0o7 O7 F12 G3 M3;have G_Ed:=0o7 Oa (CK:=CK) TC TR T F_Ed a1z a1s a1t G_Sa m_Sa b_Sa;have G_CI:=0o7 Oc TC TR T F_CI G11 M11 G_RI ⟨mkCR,m_RI.at_,m_RI.fn,kpCR⟩ Yg b_RI a1z a1s a1t G12 Lk G5 M5 G_Ed m_Ed b_Ed;have G_Vs:=0o7 Ur TC F_Vs Bh;have G_Vd:=0o7 Xx TC F_Vd;have G_Ld:=0o7 Ob TC T F_Ld a1z a1s a1t;have G13:=0o7 Wn F13 Bj vW;have G14:=0o7 zp F14 ms M14 3;have Gs4:=0o7 zp F14 ms M14 4;have G15:=0o7 V8 F15 vW Bj;have G16:=0o7 Wv F16;have G17:=0o7 a0C iR F17;have G19:=0o7 a0D iR F19;have G18:=0o7 a0F F18 G17 M17;have G34:=0o7 a0G F34;have G20:=0o7 a05 F20;have G21:=0o7 a2n F21 G17 M17;have G22:=0o7 a0J F22;have G23:=0o7 a2x F23;have G24:=0o7 a2y F24 G22 M22 G23 M23 G19 M19 G21 M21;have G25:=0o7 V3 F25 G20 M20 G24 M24;have G26:=0o7 U7 F26;have G28:=0o7 Ue F28 G26 M26;have G27:=0o7 O5 F27 vW G28 M28;have G29:=0o7 Og F29 G16 M16 G27 M27 G25 M25;have G30:=0o7 V9 F30 G15 M15;have G31:=0o7 a1c F31 iR Bh vW a3b Z8;have G32:=0o7 Vl F32 Bj vW Z8 G16 M16 G31 M31 G25 M25;have G33:=0o7 Uj F33 vW;have G35:=0o7 a2L T F35 G_Ho m_Ho b_Ho G_Lo m_Lo b_Lo G_Ow m_Ow b_Ow G_Br m_Br b_Br G_Se m_Se b_Se G_Ch m_Ch b_Ch a1y a1q a1r G_Un m_Un b_Un G18 M18 G34 M34 G17 M17 G14 M14;have G36:=0o7 a2V T F36 ms iR a3a G_Es m_Es b_Es G_Fo m_Fo b_Fo G_He m_He b_He G19 M19 G14 M14 G35 M35;have G37:=0o7 Oi F37 G_CI ⟨mkCC,m_CI.at_,m_CI.fn,kpCC⟩ Yh b_CI G33 M33;have G38:=0o7 a1g TC F38 ms G29 M29 G_Vs m_Vs b_Vs Gs4 M14 G_Vd m_Vd b_Vd;exact a1n TC T F39 G13 M13 G30 M30 G32 M32 G37 M37 G38 M38 G_Ld m_Ld b_Ld G29 M29 G36 M36
theorem walk {l:PySem.W.OpenLaw}{q:Program}{d:DefRec}{K:Params->PySem.W.Frag} (hn:l.most=some 63) (hdf:d.params.defaults=[])
  (hY:∀ (w:World) (h:Heap),YP w h->(K w.params).In h)
  (F:∀ (w:World) (mg:Str->Option Value) (fa:Addr) (h:Heap),(K w.params).In h->h.Ns mainGlobals mg->mg d.name=some (.ref fa) ->
   ∃ fd:FuncData,(∀ (s:Shared) (u:Value),BindsTo s fd ⟨[u],[]⟩ [("_law_script",u)])/\∀ base:Heap,(K w.params).In base->base.Ns mainGlobals mg->aJ l.prog w (K w.params) mg base bM 10 fa fd ["_law_script"] (Ew (K w.params))) :
  PySem.W.WalkO q loose XP YP l.row.toRowW d [] (fun f vs=>PySem.call f vs) :=
 L2.VR (n:=63) (k:=10) (x:="_law_script") (CX:=fun _=>bM) (sp:=fun w=>Ew (K w.params)) hn 0x5 hdf ⟨rfl,by decide,by decide⟩ hY F (fun _ _ a ns hl _ hS=>⟨a,ns,rfl,hS,hl,fun _=>rfl⟩) fun _ _ _ _ _ z=>z
end M
namespace PySem.W.Fast
def tw1616517763554326238:=0
def tw14714602501632994735:=0
def tw10863955096305679845:=0
def tw509248268631363550:=0
def tw16453941160729922494:=0
def tw17542797218072645734:=0
def tw13883158999325081898:=0
def tw593061809123636904:=0
def tw2386151188423221901:=0
def tw11939132854300932522:=0
def tw4699899338602296494:=0
def tw10187470176168887715:=0
def tw4850824379046492704:=0
def tw7185222914602722094:=0
def tw8686885757566974831:=0
def tw12055530386053750175:=0
def tw2243313371290336404:=0
def tw12937544886901394106:=0
def tw5146151776832984188:=0
def tw10273165634463947948:=0
def tw10992779192617633793:=0
def tw13241709383697651160:=0
def tw1488152686674673177:=0
def tw5785834983955480458:=0
def tw12666023456216900287:=0
def tw9360641054344704943:=0
def tw15396514326018900053:=0
def tw7940377934036179094:=0
def tw17432058829180492630:=0
def tw9027207389549620668:=0
def tw2324858320521718843:=0
def tw7149393756202764642:=0
def tw6144239049703067350:=0
def tw7985546846064551405:=0
def tw16477479981108300455:=0
def tw4313481791791893795:=0
def tw5613345646975712654:=0
def tw13822259298259495492:=0
def tw5166591000672711435:=0
def tw12530182956641922802:=0
def tw3495805941111013306:=0
def tw3453848090753631349:=0
def tw14835066910765768930:=0
def tw2029080443778085434:=0
def tw16987561784151640212:=0
def tw11388949337729532957:=0
def tw319897822733154936:=0
def tw14956523514282778732:=0
def tw6368644792772872514:=0
def tw12033589546354619881:=0
def tw11222494734008983101:=0
def tw17596320065904028429:=0
def tw15641234638706873123:=0
def tw5765673230937360298:=0
def tw11422097090809438186:=0
def tw815679742918722524:=0
def tw11269597129048182958:=0
def tw7260894691522006042:=0
def tw2751016720041119727:=0
def tw3469838313643058887:=0
def tw6475553641079976931:=0
def tw10552994209667305268:=0
def tw17493979612867583160:=0
def tw12162482559293688786:=0
def tw14958030408141570756:=0
def tw11802951162723744547:=0
def tw4081614891945275124:=0
def tw1038219003239177598:=0
def tw8400113379058948920:=0
def tw2164915911174481813:=0
def tw17838870585205347162:=0
def tw11554879447829834609:=0
def tw1319098106995986679:=0
def tw8015691586271778145:=0
def tw17341311398581231782:=0
def tw6457373057088022918:=0
def tw15703424896137907393:=0
def tw12811856907761177395:=0
def tw13908883443009568785:=0
def tw584999397647752004:=0
def tw471387054916719125:=0
def tw7526350122757733008:=0
def tw9918122189132344251:=0
def tw10214082761132007471:=0
def tw6337531063103640531:=0
def tw5366195390716463735:=0
def tw17551697796154275239:=0
def tw2619421798796534056:=0
def tw10745780424746305325:=0
def tw14558659356297632249:=0
def tw2631333834949549904:=0
def tw16285141768187317757:=0
def tw18426632938693025587:=0
def tw7063295797028243642:=0
def tw8580193438082405511:=0
def tw18236025600274387430:=0
def tw2032138563399738618:=0
def tw5393202572045760625:=0
def tw10981447273097187131:=0
def tw1670784093629078394:=0
def tw11279631003127956409:=0
def tw14529478936963374859:=0
def tw1016962223319202030:=0
def tw5514237461740008287:=0
def tw12190353293334242902:=0
def tw6051295545629194339:=0
def tw7198855258797695902:=0
def tw12905804575868446894:=0
def tw5042294989847137817:=0
def tw9448913786252063011:=0
def tw5593578834153863625:=0
def tw2104596707630705607:=0
def tw16311829349288394393:=0
def tw3145701671408794431:=0
def tw7597240914820998589:=0
def tw1683099076104012305:=0
def tw6887548729879081393:=0
def tw6479858995436528544:=0
def tw10764541773806343107:=0
def tw17663281508596771267:=0
def tw15373002317016412903:=0
def tw1317395971396072891:=0
def tw5762851161343167762:=0
def tw14844583304346414055:=0
def tw13070845739446260210:=0
def tw9832261903919192736:=0
def tw11794350349878903171:=0
def tw1503768448082803972:=0
def tw16387182176101817935:=0
def tw255743133491381890:=0
def tw12062099444702111173:=0
def tw6102302000240870170:=0
def tw658828502648122088:=0
def tw1227539810987946098:=0
def tw2418138145304889549:=0
def tw10532051238828711537:=0
def tw4639466124133721535:=0
def tw1206851125880582165:=0
def tw6101036341741441652:=0
def tw4630669734655481141:=0
def tw9787017778737787600:=0
def tw6543136537183734994:=0
def tw17953734392263863578:=0
def tw3136635055412239590:=0
def tw1830190868457927731:=0
def tw5016302620131756081:=0
def tw395386542248443115:=0
def tw7533702140601386650:=0
def tw15569451639048126512:=0
def tw17463141752833593830:=0
def tw3012213735918398527:=0
def tw18177500561851235846:=0
def tw17503443739896382772:=0
def tw5552459442862014779:=0
def tw4016840927224522411:=0
def tw13805560255419948772:=0
def tw5173011710726153927:=0
def tw1816689202690361960:=0
def tw8248431320314226659:=0
def tw10598079847462572314:=0
def tw14765465578015198275:=0
def tw2597908605646173813:=0
def tw9707871729591406389:=0
def tw9590051252112297815:=0
def tw15272874090002362698:=0
def tw16502136453814116564:=0
def tw12248462554551186443:=0
def tw6205970406949860543:=0
def tw1922637070925695509:=0
def tw5262694651189225912:=0
def tw1996787653454669606:=0
def tw2039246834761400031:=0
def tw15669333370531684139:=0
def tw8893469312151731983:=0
def tw2078229119634620949:=0
def tw15500805278886048070:=0
def tw1888786809568750572:=0
def tw17936833066184256098:=0
def tw14829973149635673700:=0
def tw17345638273215422434:=0
def tw12816939442136596752:=0
def tw1429764751429985556:=0
def tw8927336897797805128:=0
def tw8962039424876483909:=0
def tw16280214536400128202:=0
def tw17952333503936105878:=0
def tw3422783127046519369:=0
def tw10469288854874822045:=0
def tw11345730236993982843:=0
def tw5477117754886562109:=0
def tw10859021957008677384:=0
def tw3066428280025447040:=0
def tw14275950619627862212:=0
def tw7492845671141970360:=0
def tw12372810896957142280:=0
def tw16552833138729162155:=0
def tw1852961368692359991:=0
def tw3377751480021227523:=0
def tw2337527674420215935:=0
def tw10648586040468763599:=0
def tw12359559359716517676:=0
def tw11672907507856640457:=0
def tw10588636938962581196:=0
def tw6474155619358080341:=0
def tw2419060880580605080:=0
def tw15432563175725966731:=0
def tw4854699058071978388:=0
def tw5044205144906995563:=0
def tw8628053586720003251:=0
def tw12620305925405059457:=0
def tw7149226720285155891:=0
def tw8203703285680991141:=0
def tw4937866856216009504:=0
def tw6072776583131391953:=0
def tw10620514835284702606:=0
def tw5047631539287871081:=0
def tw3478135753513858497:=0
def tw14423325906347123775:=0
def tw11146641590629139445:=0
def tw10234734855346346984:=0
def tw9648870046834715867:=0
def tw13644202655388155371:=0
def tw3196537668563961197:=0
def tw13700296154503264271:=0
def tw5231144625960821839:=0
def tw7142522476580023994:=0
def tw6895148262654944794:=0
def tw2906849386688072334:=0
def tw3730546147439759261:=0
def tw5874053521569898403:=0
def tw12197030256412045006:=0
def tw12087085389818959394:=0
def tw11949609053661886669:=0
def tw17712465288078512744:=0
def tw9882459076173848841:=0
def tw8214594177470878793:=0
def tw16796240656206370009:=0
def tw4354410267704407236:=0
def tw3569054010877765201:=0
def tw14923192756401357804:=0
def tw9522173840010177311:=0
def tw12830965414987161813:=0
def tw7871522504478498590:=0
def tw4603113041119177905:=0
def tw407336623263448941:=0
def tw2516698190650767875:=0
def tw9174334769017219497:=0
end PySem.W.Fast
open PySem PySem.W PyProof.Rows
set_option maxRecDepth 100000 in
set_option maxHeartbeats 0 in
theorem PySem.Challenge.cw_manrent_k15_deaths_and_heirs_judged_holds : PySem.Challenge.rw_manrent_k15_deaths_and_heirs_judged.Holds := by
 w_on;o_law;k_head;(case hw=>w_witness2)
 k_fill
 refine M.walk (l:=PySem.Challenge.rw_manrent_k15_deaths_and_heirs_judged) rfl rfl (fun w h Y=>PySem.W.kIn_of Y) ?F
 case F =>
  intro w mg fa h KX G hmg
  refine' M.all_mk KX G hmg ?A ?B0 ?B1 ?B2 ?B3 ?cC ?cCK ?cCR ?cCC ?Z ?Q ?kaB ?eaB ?laB ?kaF ?eaF ?laF ?kaW ?eaW ?laW ?kaD ?eaD ?laD ?tb2_ ?zb2_ ?vb2_ ?tb4_ ?zb4_ ?vb4_
  (case Q=>(repeat refine ⟨by k_is,?_⟩);exact True.intro)
  (case A=>(repeat refine ⟨⟨by k_is,⟨_,_,_,_,_,_,_,_,_,by k_is,by k_is,by k_is⟩,fun _ _ _ _ _ _=>by (repeat refine M.onS fun _=>?_);exact M.on0 rfl⟩,?_⟩);exact True.intro)
  (case B0=>(repeat refine ⟨⟨by k_is,by k_is,⟨_,_,_,_,_,_,_,_,_,by k_is,by k_is,by k_is⟩,fun _ _ _ _ _ _=>by (repeat refine M.onS fun _=>?_);exact M.on0 rfl⟩,?_⟩);exact True.intro)
  (case B1=>(repeat refine ⟨⟨by k_is,by k_is,⟨_,_,_,_,_,_,_,_,_,by k_is,by k_is,by k_is⟩,fun _ _ _ _ _ _=>by (repeat refine M.onS fun _=>?_);exact M.on0 rfl⟩,?_⟩);exact True.intro)
  (case B2=>(repeat refine ⟨⟨by k_is,by k_is,⟨_,_,_,_,_,_,_,_,_,by k_is,by k_is,by k_is⟩,fun _ _ _ _ _ _=>by (repeat refine M.onS fun _=>?_);exact M.on0 rfl⟩,?_⟩);exact True.intro)
  (case B3=>(repeat refine ⟨⟨by k_is,by k_is,⟨_,_,_,_,_,_,_,_,_,by k_is,by k_is,by k_is⟩,fun _ _ _ _ _ _=>by (repeat refine M.onS fun _=>?_);exact M.on0 rfl⟩,?_⟩);exact True.intro)
  (case cC=>exact ⟨⟨by k_is,by k_is,by k_is,by k_is⟩,by k_is,by k_is,⟨by k_is,⟨by k_is,⟨by k_is,⟨by k_is,⟨by k_is,True.intro⟩⟩⟩⟩⟩⟩)
  (case cCK=>exact ⟨⟨by k_is,by k_is,by k_is,by k_is⟩,by k_is,by k_is,⟨by k_is,⟨by k_is,True.intro⟩⟩⟩)
  (case cCR=>exact ⟨⟨by k_is,by k_is,by k_is,by k_is⟩,by k_is,by k_is,⟨by k_is,⟨by k_is,⟨by k_is,⟨by k_is,⟨by k_is,True.intro⟩⟩⟩⟩⟩⟩)
  (case cCC=>exact ⟨⟨by k_is,by k_is,by k_is,by k_is⟩,by k_is,by k_is,⟨by k_is,⟨by k_is,⟨by k_is,⟨by k_is,⟨by k_is,True.intro⟩⟩⟩⟩⟩⟩)
  (case Z=>(repeat refine ⟨by k_is,?_⟩);exact True.intro)
  case kaB=>k_is
  (case eaB=>exact ⟨⟨⟨_,rfl⟩,rfl,rfl⟩,⟨⟨_,rfl⟩,rfl,rfl⟩,⟨⟨_,rfl⟩,rfl,rfl⟩,⟨⟨_,rfl⟩,rfl,rfl⟩,⟨⟨_,rfl⟩,rfl,rfl⟩,⟨⟨_,rfl⟩,rfl,rfl⟩,⟨⟨_,rfl⟩,rfl,rfl⟩,True.intro⟩)
  (case laB=>rfl)
  case kaF=>k_is
  (case eaF=>exact ⟨⟨⟨_,rfl⟩,rfl,rfl⟩,⟨⟨_,rfl⟩,rfl,rfl⟩,⟨⟨_,rfl⟩,rfl,rfl⟩,⟨⟨_,rfl⟩,rfl,rfl⟩,⟨⟨_,rfl⟩,rfl,rfl⟩,⟨⟨_,rfl⟩,rfl,rfl⟩,⟨⟨_,rfl⟩,rfl,rfl⟩,True.intro⟩)
  (case laF=>rfl)
  case kaW=>k_is
  (case eaW=>exact ⟨⟨⟨_,rfl⟩,rfl,rfl⟩,⟨⟨_,rfl⟩,rfl,rfl⟩,⟨⟨_,rfl⟩,rfl,rfl⟩,⟨⟨_,rfl⟩,rfl,rfl⟩,⟨⟨_,rfl⟩,rfl,rfl⟩,⟨⟨_,rfl⟩,rfl,rfl⟩,⟨⟨_,rfl⟩,rfl,rfl⟩,True.intro⟩)
  (case laW=>rfl)
  case kaD=>k_is
  (case eaD=>exact ⟨⟨⟨_,rfl⟩,rfl,rfl⟩,⟨⟨_,rfl⟩,rfl,rfl⟩,⟨⟨_,rfl⟩,rfl,rfl⟩,⟨⟨_,rfl⟩,rfl,rfl⟩,⟨⟨_,rfl⟩,rfl,rfl⟩,⟨⟨_,rfl⟩,rfl,rfl⟩,⟨⟨_,rfl⟩,rfl,rfl⟩,True.intro⟩)
  (case laD=>rfl)
  case tb2_=>k_is
  (case zb2_=>exact M.small (Nat.le_of_ble_eq_true rfl))
  (case vb2_=>exact .cons ⟨_,rfl⟩ (.cons ⟨_,rfl⟩ (.nil)))
  case tb4_=>k_is
  (case zb4_=>exact M.small (Nat.le_of_ble_eq_true rfl))
  (case vb4_=>exact .cons ⟨_,rfl⟩ (.cons ⟨_,rfl⟩ (.nil)))
