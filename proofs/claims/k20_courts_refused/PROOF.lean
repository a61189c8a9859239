import PyProof.Rows.All
import KE.RegKIsAll
import KE.RegKTryMore
import Wide.All
import OpenK.KLine
import OpenK.KWalk
import OpenK.KOwn
import Wide.FinOn
import PyProof.EqAt
import PyProof.EqKinds
import PyProof.TupleCall
import PyProof.P3Eq
import PyProof.NeData
import KE.KTryDeep
import KE.KTryMore
import KE.KIsAll
import PyProof.NsDelKeeps
import PyProof.ExcArgsOwn
import OpenK.KTop
import PyProof.ExcBaseAll.ValueError
import PyProof.EnumMake
import PyProof.Draws
import KE.KSetDisp
import PyProof.SetRoads
import PyProof.Rows.SortStr
import PyProof.Rows.SortWalk
import PyProof.DictItems
import PyProof.DictValues
import KE.KSortTup
import PyProof.SetKind
import KE.KDictList
import KE.KItemsList
import KE.KDictOf
import PyProof.Rows.SetFrom
import KE.KEqDict
import KE.KDictLaws
import PyProof.ListRange
import KE.KSortKey
import KE.KListMore
import PyProof.AutoListH
import PyProof.DictTruth
import PyProof.Rows.SumAny
import PyProof.AttrMissHeap
import PyProof.DictFindH
import PySem.Challenge.RW_manrent_k20_courts_refused
set_option compiler.extract_closed false
set_option hygiene false
local macro_rules
|`(0x0)=>`(⟨rfl,rfl,rfl,by decide +kernel,rfl,by decide +kernel,by decide +kernel⟩)
|`(0x1)=>`(fun vs H Q E h=>by cases h;subst_vars;rfl)
|`(0x2)=>`(fun _ _=>rfl)
|`(0x3)=>`(fun cdv A outer s H vs Q E hr h=>?_)
|`(0x4)=>`(by lia)
|`(0x5)=>`(by decide)
|`(0x6)=>`(by intro z;cases z)
|`(0x7)=>`(by decide +kernel)
|`(0x8)=>`(Or.inl rfl)
|`(0x9)=>`(model X.prog X.w)
|`(0xA)=>`(by simp)
|`(0xB)=>`(bf 0x32 rfl)
|`(0xC)=>`(by intro q;cases q)
|`(0xD)=>`(fun _=>rfl)
|`(0xE)=>`(⟨rfl,by decide +kernel,by decide +kernel,by decide +kernel,rfl,by decide +kernel⟩)
|`(0xF)=>`(pv 1)
|`(0x10)=>`(es.filter fun y=>decide (y.n≠e0.n))
|`(0x11)=>`(s.heap.objs.size+1)
|`(0x12)=>`(by with_unfolding_all rfl)
|`(0x13)=>`(model prog w)
|`(0x14)=>`(.tup [.str "grant",.str "part"])
|`(0x15)=>`(.inr n)
|`(0x16)=>`(.dK kvs)
|`(0x17)=>`(u1 hr)
|`(0x18)=>`(.inr e)
|`(0x19)=>`(⟨_,rfl,r,_,_,_,rfl,rfl,bN.of hx,aH (j:=0) rfl,rfl,_,rfl,cJ 0x7 ?_⟩)
|`(0x1A)=>`(aN aY 0xF aA 0x2)
|`(0x1B)=>`(bA 0x17 0x32 aM 0x2)
|`(0x1C)=>`(⟨_,rfl,r,_,_,_,rfl,rfl,bN.of x1,aH (j:=0) rfl,rfl,_,rfl,cJ 0x7 ?_⟩)
|`(0x1D)=>`(oY (sx.1 * acres) (sx.2 * qe))
local macro_rules
|`(0x1E)=>`(Addr×Obj)
|`(0x1F)=>`(putK ow 0x18 (.int (own - acres)))
|`(0x20)=>`(mod y.n (nG m) es)
|`(0x21)=>`(Prod L2.Key V)
|`(0x22)=>`(cO e0.n p e0.own es)
|`(0x23)=>`(.tup xs)
|`(0x24)=>`(x==("__debug__" : Str))
|`(0x25)=>`(.builtin "object.__class__")
|`(0x26)=>`(fun _ z=>by cases z)
|`(0x27)=>`(fQ items.size items.size hi - fQ items.size 0 lo)
|`(0x28)=>`(.lst (all.map V.ref++[V.ref r]))
|`(0x29)=>`(all.map Value.ref)
|`(0x2A)=>`(fO p1 p2 p3 p4 p5 ph pd p8)
|`(0x2B)=>`(Key×V)
|`(0x2C)=>`(aj 0xF aC)
|`(0x2D)=>`((false,eval e X.env))
|`(0x2E)=>`(show false=true from hs)
|`(0x2F)=>`(fun z=>nomatch z)
|`(0x30)=>`(.ref s.heap.objs.size)
|`(0x31)=>`(aN bD 0x3B aA 0x2)
|`(0x32)=>`(pv 0)
|`(0x33)=>`(A0g _)
|`(0x34)=>`(starEach es X.env)
|`(0x35)=>`(.lst (ss.map V.str))
|`(0x36)=>`(ns.map V.int)
|`(0x37)=>`(EP X pins σ Q)
|`(0x38)=>`(List Key×V)
|`(0x39)=>`(.builtin "getset_descriptor.__get__")
|`(0x3A)=>`(.ListComp elt [⟨tg,iter,ifs,0⟩] scope pos)
|`(0x3B)=>`(pv 2)
local macro_rules
|`(0x3C)=>`(fun c=>?_)
|`(0x3D)=>`(by simpa using c)
|`(0x3E)=>`(ha pins s σ H _ I h)
|`(0x3F)=>`(cF I q 0xA)
|`(0x40)=>`(Pn X (ts++fr) scope s H fp C)
|`(0x41)=>`(cj rfl mC ⟨_,rfl⟩ (v:=.str ""))
|`(0x42)=>`(stp y es t1 t2 b1 b2 cN)
|`(0x43)=>`(ks.map Value.ref)
|`(0x44)=>`(putK br 0x18 (.int (qe - acres)))
|`(0x45)=>`(s.heap.push PySem.W.emptyDict)
|`(0x46)=>`(.ref p)
|`(0x47)=>`(fun _ _ _ _=>rfl)
|`(0x48)=>`(.ref f)
|`(0x49)=>`(he pins s σ H _ I h)
|`(0x4A)=>`(all.map V.ref)
|`(0x4B)=>`(I.hok.fresh 0x33)
|`(0x4C)=>`(aN bD 0x32 aA 0x2)
|`(0x4D)=>`(.lst xs)
|`(0x4E)=>`(.ref a)
|`(0x4F)=>`(.ref D)
|`(0x50)=>`(.inr y.n)
|`(0x51)=>`(.grant y.n n m a s)
|`(0x52)=>`(pv 3)
|`(0x53)=>`(kv f es)
|`(0x54)=>`(.lst [])
|`(0x55)=>`(qw (wQ P w) P w K mg base N qual scope f cd A outer s H E)
|`(0x56)=>`(bW X.prog X.w)
|`(0x57)=>`(backToKw pos (keywordEach kws env))
|`(0x58)=>`(.ref t)
|`(0x59)=>`(.ref C)
local macro_rules
|`(0x5A)=>`(("many_acres",.int n))
|`(0x5B)=>`(by rw [e];exact True.intro)
|`(0x5C)=>`(.iY o 0x16)
|`(0x5D)=>`(.ins CC dc (FT n b m.z jl ll))
|`(0x5E)=>`(envOfC qual scope s.heap.objs.size f cd)
|`(0x5F)=>`(.inl rfl)
|`(0x60)=>`(.ref r)
|`(0x61)=>`(bF _)
|`(0x62)=>`((∀ n∈ls,n≠""/\PyData.strOk n=true))
|`(0x63)=>`(bZ 0x32 T.cl m1 G1 hr b1 .nil bC 0x2C)
|`(0x64)=>`(.inl ⟨rfl,rfl⟩)
|`(0x65)=>`(aj 0x3B aC)
|`(0x66)=>`(out.map V.ref)
|`(0x67)=>`(⟨_,rfl,r,_,_,_,rfl,rfl,bN.of hx,aH (j:=0) rfl,rfl,_,rfl,wG 0x7 ?_⟩)
|`(0x68)=>`(nms es)
|`(0x69)=>`(.part y.n n m a)
|`(0x6A)=>`(W.dd++[(a,dy)])
|`(0x6B)=>`(tupleKind knd)
|`(0x6C)=>`(ha pos pins s σ H _ I h)
|`(0x6D)=>`(Same.refl _)
|`(0x6E)=>`(bs.map PyData.bool)
|`(0x6F)=>`(by simpa using a)
|`(0x70)=>`(backTo pos 0x34)
|`(0x71)=>`(ho pins s σ H _ I h)
|`(0x72)=>`(aN aY 0x32 aA 0x2)
|`(0x73)=>`(bA 0x17 0xB 0xF 0x2)
|`(0x74)=>`(es1.map g2)
|`(0x75)=>`(bN.of ao)
|`(0x76)=>`(a==sysModules)
|`(0x77)=>`(putK (qO W.es) 0x15 0x58)
local macro_rules
|`(0x78)=>`(HT.fQ xs.length xs.length hi - HT.fQ xs.length 0 lo)
|`(0x79)=>`(.tup [V.int 0,V.ref y])
|`(0x7A)=>`(Ro.vs dy ro)
|`(0x7B)=>`(PySem.W.instObj C s.heap.objs.size)
|`(0x7C)=>`(putK se 0x18 0x60)
|`(0x7D)=>`(Wo.mk W.es W.ks W.hs 0x6A W.lg)
|`(0x7E)=>`(A0q (A0v e) I.ok.above)
|`(0x7F)=>`(y.lord.getD "")
|`(0x80)=>`(.iY oD (.dK (rE gs)))
|`(0x81)=>`(Str×V)
|`(0x82)=>`(aj 0x1A aC)
|`(0x83)=>`(fun z=>by rw [z,hy0] at hc;cases hc)
|`(0x84)=>`(aG (aZ aM))
|`(0x85)=>`(bO 0x4)
|`(0x86)=>`(fr e he)
|`(0x87)=>`(List Key×Addr×Value)
|`(0x88)=>`(.ref it)
|`(0x89)=>`(.lst ys)
|`(0x8A)=>`(show u=Value.ref b from ry)
|`(0x8B)=>`(show u=Value.ref a from rx)
|`(0x8C)=>`(fun p:Str×Addr=>V.ref p.2)
|`(0x8D)=>`(zs.map V.str)
|`(0x8E)=>`(fs.map V.int)
|`(0x8F)=>`(.builtin "isinstance")
|`(0x90)=>`(aj 0x52 aC)
|`(0x91)=>`(Str×Value)
|`(0x92)=>`(.tup [V.ref r,V.str w'])
|`(0x93)=>`(Builtin.SmallTypes.nextOf 0x88)
set_option Elab.async false
set_option linter.all false
set_option maxHeartbeats 16000000
set_option maxRecDepth 100000
set_option hygiene false
abbrev A5b:List PySem.Str:=["realm","row"]
abbrev A5c:List PySem.Str:=["self","estate"]
abbrev A5d:List PySem.Str:=["_law_book_here","_law_man"]
abbrev A5e:List PySem.Str:=["_law_book_here","_law_estate"]
abbrev A5f:List PySem.Str:=["_law_book_here","_law_pools_here","_law_d","_law_day","_law_men","_law_lands","_law_there","_law_estate","_law_man","_law_fresh","_law_new_here","_law_wide","_law_many","_law_way","_law_others"]
abbrev A5g:List PySem.Str:=["_law_book_here","_law_row_here"]
abbrev A5h:List PySem.Str:=["self","man"]
abbrev A5i:List PySem.Str:=["self","name","lord","holder","acres","service"]
abbrev A5j:List PySem.Str:=["_law_feed_here","_law_at","_law_many","_law_pools_here","_law_ways"]
abbrev A5k:List PySem.Str:=["_law_book_here","_law_row_here","_law_lord","_law_due"]
abbrev A5l:List PySem.Str:=["_law_script","_law_feed_here","_law_pools_here","_law_rows_here","_law_wide","_law_rich","_law_marks","_law_court","_law_words","_law_row_here","_law_found"]
abbrev A5m:List PySem.Str:=["self","estate","new","man","acres","service"]
abbrev A5n:List PySem.Str:=["_law_book_here","_law_pools_here","_law_d","_law_day"]
abbrev A5o:List PySem.Str:=["_law_book_here","_law_men","_law_man","_law_number"]
abbrev A5p:List PySem.Str:=["_law_found","_law_due"]
abbrev A5q:List PySem.Str:=["_law_acres","_law_bears_so","_law_rows_here"]
abbrev A5r:List PySem.Str:=["grant","part","convey","surrender"]
abbrev A5s:List PySem.Str:=["self","acres"]
abbrev A5t:List PySem.Str:=["grant","part"]
abbrev A5u:List PySem.Str:=["_law_d","_law_many","_law_letters","_law_k","_law_base","_law_at","_law_names_here","_law_sign","_law_name"]
abbrev A5v:List PySem.Str:=["self","estate","new","man","acres"]
abbrev A5w:List PySem.Str:=["sort","piece"]
abbrev A5x:List PySem.Str:=["self","acres","bears","rows"]
abbrev A5y:List PySem.Str:=["self","estate","man"]
abbrev A5z:List PySem.Str:=["self"]
abbrev A5G:List PySem.Str:=["_law_one","_law_other"]
abbrev A5H:List PySem.Str:=["acres","bears"]
abbrev A5I:List PySem.Str:=["_law_acres","_law_rows_here"]
local macro_rules | `(tactic| apply 0o1 $H $t $ht $s:ident $k:ident $X:ident) => `(tactic| (generalize hX : upd $H $t _ = $X; have $s : Same $H $X := hX ▸ aK $ht _; have $k := (congrFun hX $t).symm.trans ao; clear hX))
local macro_rules
  |`(0o7 $f $a*)=>`($f (P:=l.prog) (w:=w) (mg:=mg) (base:=base) $a*)
def cM{α β:Type _}{as:List α}(f:α->β):(as.map f).length=as.length:=List.length_map f
def lG{α:Type _}{l:List α}{i:Nat}(h:i<l.length):l[i]?=some l[i]:=List.getElem?_eq_getElem h
def wR{α:Type _}{l:List α}{i:Nat}{a:α}:l.getD i a=l[i]?.getD a:=List.getD_eq_getElem?_getD
def qg{p:Prop}[inst:Decidable p](h:decide p=true):p:=of_decide_eq_true h
def pF{α β:Type _}{f:α->β}{l:List α}{i:Nat}:(l.map f)[i]?=Option.map f l[i]?:=List.getElem?_map
def iD{α:Type _}{as bs:List α}:(as++bs).length=as.length+bs.length:=List.length_append
def jK{α:Type _}(y:α){a:α}{l:List α}(h:a∈l):a∈y::l:=List.mem_cons_of_mem y h
def wO{α:Type _}{a:α}{as:List α}:(a::as).length=as.length+1:=List.length_cons
def wU{α:Type _}{l:List α}{i:Nat}{a:α}(e:l[i]?=some a):a∈l:=List.mem_of_getElem? e
def j9{α β:Type _}{f:α->β}{l₁ l₂:List α}:(l₁++l₂).map f=l₁.map f++l₂.map f:=List.map_append
section
open PySem PySem.Spec PyProof.Rows
def A0a:=@wpAny_bind
def A0b:=@List.mem_singleton
def A0c:=@Heap.get?_push_of_some
def A0d:=@List.mem_cons
def A0e:=@List.mem_map
def A0f:=@if_neg
def A0g:=@Nat.le_refl
def A0h:=@List.map_cons
def A0i:=@if_pos
def A0j:=@List.getElem?_eq_some_iff
def A0k:=@decide_eq_true
def A0l:=@List.mem_append
def A0m:=@Ne.symm
def A0n:=@wpAny_pure
def A0o:=@List.mem_cons_self
def A0p:=@decide_eq_false
def A0q:=@Nat.lt_of_lt_of_le
def A0r:=@Bool.false_ne_true
def A0s:=@List.not_mem_nil
def A0t:=@List.length_singleton
def A0u:=@List.size_toArray
def A0v:=@Heap.lt_size
def A0w:=@List.mem_filter
def A0x:=@Heap.get?_push_size
def A0y:=@Nat.lt_of_sub_eq_succ
def A0z:=@Nat.le_trans
def A0G:=@List.mem_append_right
def A0H:=@List.length_take
def A0I:=@List.sum_cons
def A0J:=@Option.map_eq_some_iff
def A0K:=@PySem.F.plainAttrs_list
def A0L:=@List.nodup_cons
def A0M:=@Nat.ne_of_lt
def A0N:=@List.length_filter_le
def A0O:=@Nat.lt_of_le_of_lt
def A0P:=@Int.emod_lt_of_pos
def A0Q:=@PassesOwn.never
def A0R:=@PySem.F.slot_list_append
def A0S:=@PySem.F.type_list_append
def A0T:=@List.map_map
def A0U:=@List.getElem_mem
def A0V:=@Nat.le_of_ble_eq_true
def A0W:=@List.mem_append_left
def A0X:=@List.getElem?_append_right
def A0Y:=@Bool.and_eq_true
def A0Z:=@List.lookup_cons
def A1a:=@Int.emod_nonneg
def A1b:=@Option.some.inj
def A1c:=@List.foldl_cons
def A1d:=@or_false
def A1e:=@List.take_add_one
def A1f:=@List.take_length
def A1g:=@List.filter_cons_of_pos
def A1h:=@Bool.eq_iff_iff
def A1i:=@wpAny_mono
def A1j:=@Nat.zero_le
def A1k:=@List.getElem?_append_left
def A1l:=@decide_eq_true_iff
def A1m:=@PyProof.Rows.slot_tuple_getitem
def A1n:=@beq_eq_false_iff_ne
def A1o:=@Array.length_toList
def A1p:=@List.map_congr_left
def A1q:=@List.cons_append
def A1r:=@List.filter_cons_of_neg
def A1s:=@List.pairwise_iff_getElem
def A1t:=@List.append_nil
def A1u:=@List.nil_append
def A1v:=@sizeLine_eq
def A1w:=@PySem.mem_of_lookup
def A1x:=@List.replicate_succ
def A1y:=@wpAny_callSpecial?_slot
def A1z:=@wpAny_Call_Name_kw
def A1G:=@PySem.boot_len
def A1H:=@Nat.lt_irrefl
def A1I:=@PySem.W.kia_one
def A1J:=@List.length_drop
def A1K:=@Calls.callWith_builtin
def A1L:=@List.all_eq_true
def A1M:=@wpAny_truthy_bool
def A1N:=@wpAny_field
def A1O:=@Option.isSome_iff_exists
def A1P:=@Nat.le_of_lt
def A1Q:=@Calls.spliced_cons
def A1R:=@congrArg
def A1S:=@Calls.evalArgs_plain
def A1T:=@List.mem_iff_getElem
def A1U:=@wpAny_holding
def A1V:=@wpAny_newObj_type
def A1W:=@List.find?_cons_of_pos
def A1X:=@List.find?_cons_of_neg
def A1Y:=@decide_eq_true_eq
def A1Z:=@Heap.get?_update_ne
def A2a:=@PySem.F.slot_dict_get
def A2b:=@wpAny_call_entry
def A2c:=@Bool.false_eq_true
def A2d:=@tupleKind_room_in1
def A2e:=@List.mem_of_mem_take
def A2f:=@PySem.F.plainAttrs_dict
def A2g:=@List.find?_cons
def A2h:=@List.take_of_length_le
def A2i:=@Nat.le_succ
def A2j:=@List.all_cons
def A2k:=@List.any_cons
def A2l:=@PySem.W.callWith_K
def A2m:=@F.slot_tuple_iterator_next
def A2n:=@wpAny_seqItems
def A2o:=@wpAny_setField_rec
def A2p:=@of_decide_eq_false
def A2q:=@List.foldl_nil
def A2r:=@List.length_replicate
def A2s:=@wpAny_passesOwn
def A2t:=@Calls.spliced_nil
def A2u:=@List.flatten_cons
def A2v:=@Bool.eq_false_iff
def A2w:=@Nat.pow_le_pow_right
def A2x:=@List.filter_congr
def A2y:=@List.nodup_append
def A2z:=@List.pairwise_append
def A2G:=@List.filterMap_cons
def A2H:=@List.flatten_append
def A2I:=@Heap.size_push
def A2J:=@beq_self_eq_true
def A2K:=@Nat.succ_le_succ
def A2L:=@List.getElem?_cons_succ
def A2M:=@PySem.F.slot_list_index
def A2N:=@PySem.F.slot_list_getattribute
def A2O:=@Int.mul_pos
def A2P:=@beq_iff_eq
def A2Q:=@codeAny_mono
def A2R:=@call_meetsIn
def A2S:=@PySem.F.entry_dict_get
def A2T:=@List.filter_append
def A2U:=@Int.mul_comm
def A2V:=@F.slot_zip_next
def A2W:=@List.sum_append
def A2X:=@Nat.min_eq_left
def A2Y:=@Paired.length
def A2Z:=@wpAny_standAt
def A3a:=@Int.mul_assoc
def A3b:=@PyProof.Rows.callWith_type1
def A3c:=@List.append_assoc
def A3d:=@wpAny_Call_method
def A3e:=@List.getElem?_set_ne
def A3f:=@if_false
def A3g:=@List.mem_of_mem_drop
def A3h:=@Array.perm_iff_toList_perm
def A3i:=@Nat.ne_of_gt
def A3j:=@if_true
def A3k:=@Nat.lt_trans
def A3l:=@Nat.sub_self
def A3m:=@List.mem_of_find?_eq_some
def A3n:=@List.drop_eq_getElem_cons
def A3o:=@wpAny_attempt
def A3p:=@PySem.F.slot_dict_itemiterator_iter
def A3q:=@List.idxOf_lt_length_iff
def A3r:=@wpAny_execs_nil
def A3s:=@List.filter_map
def A3t:=@List.mem_filterMap
def A3u:=@strKind_is
def A3v:=@List.getElem_idxOf
def A3w:=@List.getElem?_replicate
def A3x:=@List.getElem?_cons_zero
def A3y:=@List.pairwise_singleton
def A3z:=@PySem.F.type_list_index
def A3G:=@List.getElem?_set_self
def A3H:=@Bool.false_and
def A3I:=@List.any_eq_false
def A3J:=@Int.toNat_natCast
def A3K:=@List.map_nil
def A3L:=@List.nodup_nil
def A3M:=@List.length_pos_of_mem
def A3N:=@PySem.W.methodCall_KW
def A3O:=@List.mem_iff_getElem?
def A3P:=@wpAny_rule
def A3Q:=@Nat.lt_succ_self
def A3R:=@wpAny_call
def A3S:=@decide_eq_decide
def A3T:=@List.prefix_refl
def A3U:=@List.getElem!_eq_getElem?_getD
def A3V:=@Bool.true_and
def A3W:=@wpAny_updateSeq_pair
def A3X:=@wpAny_loadPart'
def A3Y:=@List.forIn_cons
def A3Z:=@F.args_tuple_iterator_next_1
def A4a:=@not_or
def A4b:=@Option.map_some
def A4c:=@PySem.F.slot_dict_setdefault
def A4d:=@PySem.W.plainGet_of
def A4e:=@PySem.W.callWith_K0
def A4f:=@List.filter_sublist
def A4g:=@F.entry_tuple_iterator_next
def A4h:=@Int.ne_of_gt
def A4i:=@Array.getD_eq_getD_getElem?
def A4j:=@SeqAt.EqAt.int_str
def A4k:=@SeqAt.EqAt.str_int
def A4l:=@Calls.Name_function_global
def A4m:=@assignInOrder_cons
def A4n:=@SeqAt.EqAt.str_str
def A4o:=@call_meets
def A4p:=@PySem.F.excAttr_ValueError
def A4q:=@PySem.F.excBase_ValueError
def A4r:=@wpAny_pyIter_list
def A4s:=@slot_list_getitem
def A4t:=@Nat.lt_succ_of_lt
def A4u:=@F.args_zip_next_1
def A4v:=@Bool.not_eq_true'
def A4w:=@Paired.snoc
def A4x:=@Option.isSome_map
def A4y:=@not_false_eq_true
def A4z:=@List.getElem_take
def A4G:=@Nat.le_succ_of_le
def A4H:=@wpAny_onRaise
def A4I:=@listUpdate_at
def A4J:=@wpAny_eqBool_int
def A4K:=@F.entry_zip_next
def A4L:=@List.getElem_map
def A4M:=@SeqAt.eqAt_reads
def A4N:=@wpAny_typeOf
def A4O:=@List.of_mem_zip
def A4P:=@codeAny_builtin
def A4Q:=@List.length_nil
def A4R:=@Nat.not_lt_zero
def A4S:=@get?_update_seq
def A4W:=@wpAny_letGo
def A4Y:=@List.map_id
end
namespace M
inductive Io where
 |d|n|c|a|s
 deriving DecidableEq
end M
variable{ds its us:List PySem.Value}{C CC CK L NE a b b1 b2 c dc dx f g1 g2 g3 g4 g5 i1 i2 it jl li ll sl t1 t2 z:PySem.Addr}{cd u vl vu:PySem.Value}{P prog:PySem.Program}{w:PySem.World}{base h h' h2:PySem.Heap}{e iter tg value:PySem.Expr}{pins:List (PySem.Addr×PySem.Obj)}{s s':PySem.Shared}{ep i j n t' x1:Nat}{as ch fp ni pr ts:List PySem.Addr}{N ks ks' loose ls ps ss ws zs:List PySem.Str}{A:PySem.Around}{E Q:PySem.Value->PySem.Shared->Prop}{apos cpos pos pos' tp:PySem.Pos}{op:PySem.CmpOp}{K:PySem.W.Frag}{st:PySem.Stmt}{elts es:List PySem.Expr}{body:List PySem.Stmt}{l name p q qual:PySem.Str}{d dy hi lo wd:Int}{r:Option PySem.Str}{mA mg:PySem.Str->Option PySem.Value}{pl:PySem.Sem Bool}{kw:List (PySem.Str×PySem.Value)}{env:PySem.Env}{d1 d2 d3 d4 d5 fd:PySem.FuncData}{outer:List PySem.Env}{scope:PySem.Scope}{T:String}{XP:(PySem.Str->Option PySem.Value)->PySem.Heap->Prop}{YP:PySem.World->PySem.Heap->Prop}{B:Prop}{ix:List Nat}{hv:PySem.Str->Option PySem.Str}{lg:List (PySem.Str×Int×PySem.Str)}{tS:PySem.Tok}
namespace L2
open PySem PySem.Spec PyProof.Rows
abbrev Key:=Sum Int Str
def uG:Key->Value->Bool
 | .inl k,v=>Value.isInt k v
 | .inr x,v=>Value.isStrOf x v
def keyH(w:World):Key->Int
 | .inl k=>hashInt k
 | .inr x=>hashStr w x
theorem dU:∀{k:Key}{v:Value},uG k v=true->(∃i t,k=Sum.inl i/\v=Value.int i t)\/(∃x t,k=Sum.inr x/\v=Value.str x t)
 | .inl i,v,h=>by
  obtain⟨t,e⟩:=Value.isInt_shape (k:=i) (v:=v) h;exact .inl ⟨i,t,rfl,e⟩
 | .inr x,v,h=>by
  obtain⟨t,e⟩:=Value.isStrOf_shape (x:=x) (v:=v) h;exact .inr ⟨x,t,rfl,e⟩
def Mh(i:Int)(t:Tok):uG (.inl i) (.int i t)=true:=by simp[uG,Value.isInt]
def Mi(x:Str)(t:Tok):uG (.inr x) (.str x t)=true:=by simp[uG,Value.isStrOf]
def a0i(a b:Int):decide ((Sum.inl a:Key)=Sum.inl b)=(a==b):=by
 by_cases e:a=b
 ·subst e;simp
 ·have h:¬(Sum.inl a:Key)=Sum.inl b:=fun q=>e (Sum.inl.inj q);rw[A0p h];exact(A1n.mpr e).symm
def a0j(a b:Str):decide ((Sum.inr a:Key)=Sum.inr b)=decide (a=b):=by
 by_cases e:a=b
 ·subst e;simp
 ·have h:¬(Sum.inr a:Key)=Sum.inr b:=fun q=>e (Sum.inr.inj q);rw[A0p h,A0p e]
def a0k(a:Int)(b:Str):decide ((Sum.inl a:Key)=Sum.inr b)=false:=A0p (fun q=>nomatch q)
def a0l(a:Str)(b:Int):decide ((Sum.inr a:Key)=Sum.inl b)=false:=A0p (fun q=>nomatch q)
def bW(prog:Program)(w:World):PySem.KeyKind prog w Key where
 is:=uG
 hash:=keyH w
 inj:=fun v a b ha hb=>by
  rcases dU ha with⟨i,t,rfl,rfl⟩|⟨x,t,rfl,rfl⟩
  ·rcases dU hb with⟨j,u,rfl,e⟩|⟨y,u,rfl,e⟩
   ·injection e with e1 _;rw[e1]
   ·exact nomatch e
  ·rcases dU hb with⟨j,u,rfl,e⟩|⟨y,u,rfl,e⟩
   ·exact nomatch e
   ·injection e with e1 _;rw[e1]
 byValue:=fun k v h=>by
  rcases dU h with⟨i,t,rfl,rfl⟩|⟨x,t,rfl,rfl⟩<;>rfl
 pyHash:=fun hv h=>by
  rcases dU hv with⟨i,t,rfl,rfl⟩|⟨x,t,rfl,rfl⟩
  ·exact wpAny_pyHash_int h
  ·exact wpAny_pyHash_str h
 eqBool:=fun hu hv h=>by
  rcases dU hu with⟨i,t,rfl,rfl⟩|⟨x,t,rfl,rfl⟩
  ·rcases dU hv with⟨j,u,rfl,rfl⟩|⟨y,u,rfl,rfl⟩
   ·rw[a0i]at h;exact A4J h
   ·rw[a0k]at h;exact A4j i t y u _ _ _ _ h
  ·rcases dU hv with⟨j,u,rfl,rfl⟩|⟨y,u,rfl,rfl⟩
   ·rw[a0l]at h;exact A4k x t j u _ _ _ _ h
   ·rw[a0j]at h;exact wpAny_eqBool_str h
 «strs»:=fun k x t v h=>by
  rcases dU h with⟨i,u,rfl,e⟩|⟨y,u,rfl,e⟩
  ·exact nomatch e
  ·injection e with e1 _;subst e1;cases v<;>rfl
def Ce(prog:Program)(w:World)(i:Int)(t:Tok):(bW prog w).is (.inl i) (.int i t)=true:=Mh i t
def Cg(prog:Program)(w:World)(x:Str)(t:Tok):(bW prog w).is (.inr x) (.str x t)=true:=Mi x t
inductive V where
 |non|bl (b:Bool)|int (i:Int)|str (x:Str)|Mj (b:Array UInt8)|flt (b:UInt64)|ref (a:Addr)|ty (n:String)
 deriving DecidableEq
variable{jB xs ys:List V}{v y:V}{fs':List 0x81}{du ho hs kvs ow:List 0x2B}{dat:Addr->List V}
def RelV:V->Value->Prop
 | .non,u=>u=Value.none
 | .bl b,u=>u=Value.bool b
 | .int i,u=>∃t,u=Value.int i t
 | .str x,u=>∃t,u=Value.str x t
 | .Mj b,u=>∃t,u=Value.bytes b t
 | .flt b,u=>∃t,u=Value.float b t
 | .ref a,u=>u=Value.ref a
 | .ty n,u=>u=Value.type n
abbrev Vals:List V->List Value->Prop:=Paired RelV
def Vals.length(r:Vals xs us):xs.length=us.length:=A2Y r
theorem Vals.get:∀{xs:List V}{us:List Value}{i:Nat}{x:V},Vals xs us->xs[i]?=some x->∃u,us[i]?=some u/\RelV x u
 |_,_,_,_,.nil,e=>by simp at e
 |_,_,0,_,.cons r _,e=>by simp at e;subst e;exact⟨_,rfl,r⟩
 | _,_,i+1,x,.cons _ t,e=>by
  obtain⟨u,h1,h2⟩:=Vals.get (i:=i) (x:=x) t (by simpa using e);exact⟨u,by simpa using h1,h2⟩
theorem Vals.append:∀{xs ys:List V}{us ws:List Value},Vals xs us->Vals ys ws->Vals (xs++ys) (us++ws)
 |_,_,_,_,.nil,s=>s
 |_,_,_,_,.cons r t,s=>.cons r (Vals.append t s)
theorem Vals.take:∀{xs:List V}{us:List Value}(n:Nat),Vals xs us->Vals (xs.take n) (us.take n)
 |_,_,0,_=>.nil
 |_,_,_+1,.nil=>.nil
 |_,_,n+1,.cons r t=>.cons r (Vals.take n t)
theorem Vals.drop:∀{xs:List V}{us:List Value}(n:Nat),Vals xs us->Vals (xs.drop n) (us.drop n)
 |_,_,0,r=>r
 |_,_,_+1,.nil=>.nil
 |_,_,n+1,.cons _ t=>Vals.drop n t
def Vals.none_of:∀{xs:List V}{us:List Value}{i:Nat},Vals xs us->xs[i]?=none->us[i]?=none:=fun{xs us i}r e=>by
 have h1:=r.length;have h2:xs.length<=i:=List.getElem?_eq_none_iff.mp e;exact List.getElem?_eq_none_iff.mpr 0x4
def jz:Option V->Option Value->Prop
 |some v,some u=>RelV v u
 |none,none=>True
 |_,_=>False
def KV{κ:Type}:List (κ×V)->List (κ×Value)->Prop:=Paired fun(p:κ×V)(q:κ×Value)=>p.1=q.1/\RelV p.2 q.2
def kV:Key->V
 | .inl i=>.int i
 | .inr x=>.str x
inductive HO where
 |lst (xs:List V)
 |tup (xs:List V)
 |dK (kvs:List 0x2B)|dT (kvs:List 0x38)
 |set (S:Int->Bool) (n:Nat)
 |ins (C dx:Addr) (fs:List 0x81)
 |own (x:Addr)
 |xd (fs:List 0x81)
 |met (f x:Addr)
 |rng (lo hi:Int)
 |iY (o:Obj) (u:HO)
 |Zd (ps:Array Value)
 |ext (φ:Heap->Prop)
variable{o:HO}
abbrev Hp:=Addr->Option HO
variable{H H' H1 H2:Hp}
def upd(H:Hp)(a:Addr)(o:HO):Hp:=fun b=>if b=a then some o else H b
def ao:upd H a o a=some o:=by unfold upd;rw[A0i rfl]
def ak(h:b≠a):upd H a o b=H b:=by unfold upd;rw[A0f h]
def Wu{u:HO}:upd (upd H a o) a u=upd H a u:=by
 funext b;unfold upd;split<;>rfl
def aO{u:HO}(h:H a=some o)(h':H b=some u)(d:o≠u):a≠b:=by
 intro e;subst e;rw[h]at h';exact d (A1b h')
def au(h:H a=some o)(h':H b=none):a≠b:=by
 intro e;subst e;rw[h]at h';cases h'
section
variable(P:Program)(w:World)
def dW(H:Hp)(h:Heap)(a:Addr):HO->Prop
 | .lst xs=>xs.length<=sizeLine/\∃(its:List Value)(n:Nat),Vals xs its/\h.get? a=some {cls:=.type "list",data:=.seq its.toArray n}
 | .tup xs=>xs.length<=sizeLine/\∃its:List Value,Vals xs its/\IsTup h a its.toArray
 | .dK kvs=>kvs.length<=sizeLine/\0x76=false/\∃vs,KV kvs vs/\h.DictOf (bW P w) a vs
 | .dT kvs=>kvs.length<=sizeLine/\0x76=false/\∃xs:List 0x87,
   Paired (fun(p:List Key×V)(q:List Key×Addr×Value)=>p.1=q.1/\H q.2.1=some (.tup (p.1.map kV))/\RelV p.2 q.2.2) kvs xs/\
   ∃o es ep,h.get? a=some o/\o.ExactDict/\o.data=.dict es ep/\es.toList=xs.map (entryOfKey (tupleKind (bW P w)))/\(xs.map (·.1)).Nodup
 | .set S n=>h.SetOf (intKind P w) a S n
 | .ins C dx fs=>H dx=some (.own a)/\fs.length<=1000/\dx≠a/\h.get? a=some (PySem.W.instObj C dx)/\
   ∃mA,h.Ns1 dx mA/\(∀f,jz (fs.lookup f) (mA f))/\PySem.Within mA (fs.map (·.1))
 | .own _=>∃o,h.get? a=some o
 | .xd fs=>∃mA,h.Ns1 a mA/\∀f,jz (fs.lookup f) (mA f)
 | .rng lo hi=>∃t u v,h.get? a=some {cls:=.type "range",data:=.fields #[.int lo t,.int hi u,.int 1 v]}
 | .iY o u=>h.get? a=some o/\dW H h a u
 | .Zd ps=>h.get? a=some {cls:=.none,data:=.fields ps}
 | .met f x=>h.get? a=some (PySem.W.methodObj 0x48 (.ref x))
 | .ext φ=>φ h/\(∃o,h.get? a=some o)/\∀h1 h2:Heap,φ h1->(∀o,h1.get? a=some o->h2.get? a=some o)->φ h2
def m6(H:Hp)(h:Heap):Prop:=∀a o,H a=some o->dW P w H h a o
end
def dW.lt(x:dW P w H h a o):a<h.objs.size:=by
 cases o with
 |lst xs=>obtain⟨_,_,_,_,e⟩:=x;exact A0v e
 |tup xs=>obtain⟨_,_,_,p⟩:=x;exact p.lt
 |dK kvs=>obtain⟨_,_,_,_,o,_,_,e,_⟩:=x;exact A0v e
 |dT kvs=>obtain⟨_,_,_,_,o,_,_,e,_⟩:=x;exact A0v e
 |set S n=>obtain⟨o,_,_,_,e,_⟩:=x;exact A0v e
 |ins C dx fs=>obtain⟨_,_,_,e,_⟩:=x;exact A0v e
 |own y=>obtain⟨_,e⟩:=x;exact A0v e
 |xd fs=>obtain⟨_,⟨_,_,_,e,_⟩,_⟩:=x;exact A0v e
 |rng lo hi=>obtain⟨_,_,_,e⟩:=x;exact A0v e
 |iY ob u=>obtain⟨e,_⟩:=x;exact A0v e
 |Zd ps=>exact A0v (show h.get? a=some _ from x)
 |met f y=>exact A0v (show h.get? a=some _ from x)
 |ext φ=>obtain⟨_,⟨_,e⟩,_⟩:=x;exact A0v e
theorem Paired.Ml{α β:Type}{F G:α->β->Prop}:∀{l₁:List α}{l₂:List β},Paired F l₁ l₂->(∀a b,F a b->G a b)->Paired G l₁ l₂
 |_,_,.nil,_=>.nil
 |_,_,.cons r t,f=>.cons (f _ _ r) (Paired.Ml t f)
def Paired.imp'{α β:Type}{F G:α->β->Prop}(f:∀a b,F a b->G a b){l₁:List α}{l₂:List β}(r:Paired F l₁ l₂):Paired G l₁ l₂:=Paired.Ml r f
def dW.stay(x:dW P w H h a o)(k:∀b u,(b=a\/H b=some (.own a))->h.get? b=some u->h'.get? b=some u)
  (ho:∀b,H b=some (.own a)->H' b=some (.own a))(ht:∀b xs,H b=some 0x23->H' b=some 0x23):dW P w H' h' a o:=by
 induction o with
 |lst xs=>obtain⟨z,its,n,r,e⟩:=x;exact⟨z,its,n,r,k _ _ 0x5F e⟩
 |tup xs=>obtain⟨z,its,r,ob,e,c⟩:=x;exact⟨z,its,r,ob,k _ _ 0x5F e,c⟩
 |dK kvs=>obtain⟨z,y,vs,r,ob,es,ep,e,c⟩:=x;exact⟨z,y,vs,r,ob,es,ep,k _ _ 0x5F e,c⟩
 | dT kvs=>
  obtain⟨z,y,xs,r,ob,es,ep,e,c⟩:=x;exact⟨z,y,xs,Paired.Ml r fun p q z=>⟨z.1,ht _ _ z.2.1,z.2.2⟩,ob,es,ep,k _ _ 0x5F e,c⟩
 |set S n=>obtain⟨ob,es,ep,t,e,c⟩:=x;exact⟨ob,es,ep,t,k _ _ 0x5F e,c⟩
 | ins C dx fs=>
  obtain⟨d,z,ne,e,mA,⟨od,es,ep,e2,c⟩,r⟩:=x;exact⟨ho _ d,z,ne,k _ _ 0x5F e,mA,⟨od,es,ep,k _ _ (.inr d) e2,c⟩,r⟩
 |own y=>obtain⟨ob,e⟩:=x;exact⟨ob,k _ _ 0x5F e⟩
 |xd fs=>obtain⟨mA,⟨od,es,ep,e,c⟩,r⟩:=x;exact⟨mA,⟨od,es,ep,k _ _ 0x5F e,c⟩,r⟩
 |rng lo hi=>obtain⟨t,u,v,e⟩:=x;exact⟨t,u,v,k _ _ 0x5F e⟩
 |iY ob u ih=>obtain⟨e,q⟩:=x;exact⟨k _ _ 0x5F e,ih q⟩
 | Zd ps=>
  have e:h.get? a=some {cls:=.none,data:=.fields ps}:=x
  show h'.get? a=some {cls:=.none,data:=.fields ps}
  exact k a _ 0x5F e
 | met f y=>
  have e:h.get? a=some (PySem.W.methodObj 0x48 (.ref y)):=x
  show h'.get? a=some (PySem.W.methodObj 0x48 (.ref y))
  exact k a _ 0x5F e
 |ext φ=>obtain⟨p,⟨o,e⟩,st⟩:=x;exact⟨st _ _ p fun o q=>k _ _ 0x5F q,⟨o,k _ _ 0x5F e⟩,st⟩
def m6.lt(x:m6 P w H h)(e:H a=some o):a<h.objs.size:=(x a o e).lt
def m6.fresh(x:m6 P w H h)(e:h.objs.size<=a):H a=none:=by
 cases q:H a with
 |none=>rfl
 |some u=>exact absurd (A0q (x.lt q) e) (A1H _)
def m6.kept(x:m6 P w H h)(k:∀b u,h.get? b=some u->h'.get? b=some u):m6 P w H h':=fun a o e=>
 (x a o e).stay (fun b u _ q=>k b u q) (fun _ q=>q) fun _ _ q=>q
def m6.laid(x:m6 P w H h)(k:∀b u,h.get? b=some u->h'.get? b=some u)(hp:h.objs.size<=a)(new:dW P w (upd H a o) h' a o):m6 P w (upd H a o) h':=fun b u e=>by
 have hn:=x.fresh hp
 by_cases hb:b=a
 ·subst hb;rw[ao]at e;cases e;exact new
 ·rw[ak hb]at e;exact(x b u e).stay (fun c v _ q=>k c v q) (fun c q=>by rw[ak (au q hn)];exact q) fun c xs q=>by rw[ak (au q hn)];exact q
def Rd(H:Hp)(a:Addr)(u:HO):Prop:=H a=some u\/∃o,H a=some (.iY o u)
def Rd.ok{u:HO}(r:Rd H a u)(x:m6 P w H h):dW P w H h a u:=by
 rcases r with r|⟨o,r⟩
 ·exact x a u r
 ·obtain⟨_,q⟩:=x a _ r;exact q
def Mut:Option HO->Prop
 |some (.lst _)=>True
 |some (.dK _)=>True
 |some (.dT _)=>True
 |some (.set _ _)=>True
 |some (.ins _ _ _)=>True
 |some (.ext _)=>True
 |_=>False
section
variable{x e:Addr}{o':HO}
def m6.write(ok:m6 P w H h)(mu:Mut (H x))(he:e=x\/H e=some (.own x))(k:∀b u,b≠e->h.get? b=some u->h'.get? b=some u)(heo:∃u,h'.get? e=some u)
  (new:dW P w (upd H x o') h' x o'):m6 P w (upd H x o') h':=fun b u q=>by
 have nown:∀c y,H c=some (.own y)->c≠x:=fun c y r z=>by subst z;rw[r]at mu;exact mu
 have ntup:∀c xs,H c=some 0x23->c≠x:=fun c xs r z=>by subst z;rw[r]at mu;exact mu
 by_cases hb:b=x
 ·subst hb;rw[ao]at q;cases q;exact new
 ·rw [ak hb]at q
  by_cases hbe:b=e
  ·have q':H b=some (.own x):=by
    rcases he with z|z
    ·exact absurd (hbe.trans z) hb
    ·rw[hbe];exact z
   rw[q]at q';cases q';obtain⟨v,hv⟩:=heo;exact⟨v,by rw[hbe];exact hv⟩
  ·refine(ok b u q).stay (fun c v hc r=>k c v ?_ r) (fun c r=>by rw[ak (nown c b r)];exact r) fun c xs r=>by rw[ak (ntup c xs r)];exact r
   rcases hc with rfl|hc
   ·exact hbe
   ·rintro rfl;rcases he with z|z
    ·exact nown c b hc z
    ·rw[hc]at z;cases z;exact hb rfl
end
structure Un(fs ex:List Addr)(H H':Hp)(h h':Heap):Prop where
 keep:∀b o,h.get? b=some o->H b=none->b∉fs->b∉ex->h'.get? b=some o
 slot:∀b o,h.get? b=some o->H b=none->b∈fs->b∉ex->∃sl,h'.get? b=some {o with slots:=sl}
 free:∀b o,h.get? b=some o->H b=none->b∉ex->H' b=none
 there:∀b o,h.get? b=some o->b∉ex->∃o',h'.get? b=some o'
 tups:∀b xs,H b=some 0x23->H' b=some 0x23
 pP:∀b o u,H b=some (.iY o u)->H' b=some (.iY o u)
 rF:∀b ps,H b=some (.Zd ps)->∃more,H' b=some (.Zd (ps++more))
section
variable{fs fs' ex ex':List Addr}{h1:Heap}{x e:Addr}
def Un.any(u:Un fs ex H H1 h h1){ob:Obj}(q:h.get? b=some ob)(n:H b=none)(hx:b∉ex):∃sl,h1.get? b=some {ob with slots:=sl}:=by
 by_cases hb:b∈fs
 ·exact u.slot b ob q n hb hx
 ·exact⟨ob.slots,u.keep b ob q n hb hx⟩
def Un.kept(k:∀b u,h.get? b=some u->h'.get? b=some u):Un fs ex H H h h':=
 ⟨fun b ob q _ _ _=>k b ob q,fun b ob q _ _ _=>⟨ob.slots,k b ob q⟩,fun _ _ _ n _=>n,fun b ob q _=>⟨ob,k b ob q⟩,fun _ _ q=>q,fun _ _ _ q=>q,fun _ ps q=>⟨#[],by rw[q];simp⟩⟩
def Un.refl:Un fs ex H H h h:=Un.kept fun _ _ q=>q
def Un.laid(k:∀b u,h.get? b=some u->h'.get? b=some u)(hp:h.objs.size<=a)(hn:H a=none):Un fs ex H (upd H a o) h h' where
 keep:=fun b u q _ _ _=>k b u q
 slot:=fun b u q _ _ _=>⟨u.slots,k b u q⟩
 free:=fun b u q n _=>by rw[ak (A0M (A0q (A0v q) hp))];exact n
 there:=fun b u q _=>⟨u,k b u q⟩
 tups:=fun b xs q=>by rw[ak (au q hn)];exact q
 pP:=fun b u xs q=>by rw[ak (au q hn)];exact q
 rF:=fun b ps q=>⟨#[],by rw[ak (au q hn),q];simp⟩
def Un.write(mu:Mut (H x))(he:e=x\/H e=some (.own x))(k:∀b u,b≠e->h.get? b=some u->h'.get? b=some u)(heo:∃u,h'.get? e=some u):Un fs ex H (upd H x o) h h':=by
 have hx:∀b,H b=none->b≠x:=fun b n z=>by subst z;rw[n]at mu;exact mu
 have hb:∀b,H b=none->b≠e:=fun b n z=>by
  subst z;rcases he with r|r
  ·exact hx b n r
  ·rw[n]at r;cases r
 have hm:∀b u,H b=some u->¬Mut (some u)->b≠x:=fun b u q nm z=>by subst z;rw[q]at mu;exact nm mu
 refine⟨fun b u q n _ _=>k b u (hb b n) q,fun b u q n _ _=>⟨u.slots,k b u (hb b n) q⟩,fun b u q n _=>by rw[ak (hx b n)];exact n,fun b u q _=>?_,
  fun b xs q=>by rw[ak (hm b _ q fun z=>z)];exact q,fun b u xs q=>by rw[ak (hm b _ q fun z=>z)];exact q,fun b ps q=>⟨#[],by rw[ak (hm b _ q fun z=>z),q];simp⟩⟩
 by_cases hbe:b=e
 ·subst hbe;exact heo
 ·exact⟨u,k b u hbe q⟩
end
def trk(h:Heap)(H:Hp):List Addr:=(List.range h.objs.size).filter fun a=>(H a).isSome
def z7(h:Heap)(H:Hp):Heap:=PySem.W.hideAll h (trk h H)
def Mp(h:Heap)(H:Hp):(z7 h H).objs.size=h.objs.size:=PySem.W.hideAll_size _ _
def Q0{o:Obj}(e:h.get? b=some o)(n:H b=none):(z7 h H).get? b=some o:=
 PySem.W.hideAll_get _ e fun hm=>by
  have q:(H b).isSome=true:=(A0w.mp hm).2;rw[n]at q;simp at q
def Wv{o:Obj}(e:(z7 h H).get? b=some o):h.get? b=some o/\H b=none:=by
 have e':h.get? b=some o:=PySem.W.of_hideAll (trk h H) e;refine⟨e',?_⟩;cases q:H b with
 |none=>rfl
 | some x=>
  have hm:b∈trk h H:=A0w.mpr ⟨List.mem_range.mpr (A0v e'),by simp[q]⟩;have z:(z7 h H).get? b=none:=PySem.W.hideAll_none (trk h H) hm;rw[z]at e;cases e
structure Mod(K:PySem.W.Frag)(mg:Str->Option Value)(base:Heap):Prop where
 kin:K.In base
 glob:base.Ns mainGlobals mg
 blt:∃mb,base.Ns builtinsNs mb/\∀x:Str,x≠"__name__"->mb x=bootBuiltins x
 nolimit:base.NoLimit
structure Cx where
 prog:Program
 w:World
 K:PySem.W.Frag
 mg:Str->Option Value
 base:Heap
 A:Around
 N:List Str
 s₀:Shared
 H₀:Hp
 env:Env
 outer:List Env
 stack:List Env
 ex:List Addr
 fn:Str->Bool
 calm:Bool
 pn:List 0x1E
 xe:Value->Shared->Prop
variable{X:Cx}
def frs(l:List Env):List Addr:=l.filterMap (·.frame)
abbrev Cx.fs(X:Cx):List Addr:=frs X.outer
def Vis(sc:Scope)(x:Str):Prop:=sc.names.lookup x=some .local\/sc.names.lookup x=some .cell\/sc.names.lookup x=some .free
def Loc(sc:Scope)(x:Str):Prop:=sc.names.lookup x=some .local\/sc.names.lookup x=some .cell
def Look(env:Env)(h:Heap)(m:Str->Option Value)(x:Str)(u:Value):Prop:=
 (env.kindOf x=some .local/\m x=some u)\/((env.kindOf x=some .cell\/env.kindOf x=some .free)/\∃c,env.cells.lookup x=some c/\h.IsCell c (some u))
structure Cx.Ok(X:Cx):Prop where
 mod:Mod X.K X.mg X.base
 kind:X.env.scope.kind=.function
 glob:X.env.globals=mainGlobals
 blt:X.env.builtins=builtinsNs
 above:X.s₀.heap.objs.size<=X.env.locals
 inj:∀x y c,X.env.cells.lookup x=some c->X.env.cells.lookup y=some c->x=y
 has:∀x,(X.env.kindOf x=some .cell\/X.env.kindOf x=some .free)->∃c,X.env.cells.lookup x=some c
 cab:∀x c,X.fn x=true->X.env.cells.lookup x=some c->X.s₀.heap.objs.size<=c
 hd:X.calm=true->X.A.handled=none
 frames:X.A.frames=some X.stack
 stk:X.stack=X.outer\/(X.stack=X.env::X.outer/\X.env.frame=some X.env.locals)
 exf:∀b∈X.ex,b≠X.env.locals/\∀x c,X.env.cells.lookup x=some c->c≠b
 bs:∀b o,X.base.get? b=some o->X.s₀.heap.get? b=some o/\X.H₀ b=none
 Pj:X.base.objs.size<=X.s₀.heap.objs.size
 Ci:∀b o,X.base.get? b=some o->b∉X.ex
 Ga:∀b∈X.ex,b∉X.fs
 nJ:X.s₀.heap.FunFrames X.base X.outer
 Wk:∀b∈X.fs,X.H₀ b=none
structure Inv(X:Cx)(pins:List 0x1E)(σ:List (Option V))(H:Hp)(s:Shared):Prop where
 ok:X.Ok
 os:s.os=X.s₀.os
 bare:AllBare s.gens
 base:Un X.fs X.ex X.H₀ H X.s₀.heap s.heap
 loc:∃m,s.heap.Ns X.env.locals m/\∀(i:Nat)(x:Str)(v:V),X.N[i]?=some x->σ[i]?=some (some v)->Vis X.env.scope x->∃u,RelV v u/\Look X.env s.heap m x u
 cell:∀x c,X.env.cells.lookup x=some c->∃v,s.heap.IsCell c v
 free:H X.env.locals=none
 iZ:∀x c,X.env.cells.lookup x=some c->H c=none
 pin:∀p∈X.pn++pins,s.heap.get? p.1=some p.2/\H p.1=none/\p.1≠X.env.locals/\p.1∉X.fs/\∀v,p.2.data≠.cell v
 hok:m6 X.prog X.w H s.heap
 len:σ.length=X.N.length
section
variable{σ:List (Option V)}
def Cx.Ok.nofr(ok:X.Ok){o:Obj}(e:X.base.get? b=some o):b∉X.fs:=fun hb=>by
 have:=(ok.nJ.mem hb).1;rw[e]at this;cases this
def Inv.bs(I:Inv X pins σ H s):∀b o,X.base.get? b=some o->s.heap.get? b=some o/\H b=none:=fun b o e=>
 ⟨I.base.keep b o (I.ok.bs b o e).1 (I.ok.bs b o e).2 (I.ok.nofr e) (I.ok.Ci b o e),I.base.free b o (I.ok.bs b o e).1 (I.ok.bs b o e).2 (I.ok.Ci b o e)⟩
def Inv.bk(I:Inv X pins σ H s):∀b o,X.base.get? b=some o->s.heap.get? b=some o:=fun b o e=>(I.bs b o e).1
def Inv.mod(I:Inv X pins σ H s):Mod X.K X.mg X.base:=I.ok.mod
def Inv.lZ(I:Inv X pins σ H s):X.K.In s.heap:=I.ok.mod.kin.keeps I.bk
def Inv.fr(I:Inv X pins σ H s):∃m,Fr X.base X.env.locals s.heap m:=
 let⟨m,hn,_⟩:=I.loc
 ⟨m,hn,I.bk,A0z I.ok.Pj I.ok.above⟩
def Inv.lt(I:Inv X pins σ H s):X.env.locals<s.heap.objs.size:=let⟨_,hn,_⟩:=I.loc;hn.lt
def Inv.sz(I:Inv X pins σ H s):X.s₀.heap.objs.size<=s.heap.objs.size:=A0z I.ok.above (A1P I.lt)
def Inv.nofs(I:Inv X pins σ H s)(h:s.heap.objs.size<=a):a∉X.fs:=fun hb=>by
 obtain⟨_,o,ho,_⟩:=I.ok.nJ.mem hb;exact absurd (A0q (A0v ho) (A0z I.sz h)) (A1H _)
def Inv.Q6(I:Inv X pins σ H s):∀x c,X.env.cells.lookup x=some c->c≠X.env.locals:=fun x c e z=>by
 obtain⟨v,o,ho,hd⟩:=I.cell x c e;obtain⟨m,⟨o',es,ep,ho',hd',_⟩,_⟩:=I.loc;rw[z,ho']at ho;cases ho;rw[hd']at hd;cases hd
def Inv.nJ(I:Inv X pins σ H s):s.heap.FunFrames X.base X.outer:=by
 have all:∀(l:List Env),(∀b∈frs l,b∈X.fs)->X.s₀.heap.FunFrames X.base l->s.heap.FunFrames X.base l:=by
  intro l
  induction l with
  |nil=>intro _ _;trivial
  | cons env r ih=>
   intro hs hl;obtain⟨hk,⟨L,o,hf,hn,ho,hd⟩,hr⟩:=hl;have hL:L∈X.fs:=hs L (by unfold frs;rw[A2G,hf];exact A0o);obtain⟨sl,e⟩:=I.base.slot L o ho (I.ok.Wk L hL) hL fun z=>I.ok.Ga L z hL;exact⟨hk,⟨L,_,hf,hn,e,hd⟩,ih (fun b hb=>hs b (by unfold frs;rw[A2G,hf];exact jK _ hb)) hr⟩
 exact all X.outer (fun _ hb=>hb) I.ok.nJ
def Inv.stack(I:Inv X pins σ H s):s.heap.FunFrames X.base X.stack:=by
 rcases I.ok.stk with e|⟨e,hf⟩
 ·rw[e];exact I.nJ
 ·rw[e];obtain⟨m,hn,_⟩:=I.loc;refine .cons (by rw[I.ok.kind];decide) hf hn ?_ I.nJ;exact Heap.get?_none_of_le (A0z I.ok.Pj I.ok.above)
def Inv.uH(I:Inv X pins σ H s):∀b∈frs X.stack,b∈X.env.locals::X.fs:=fun b hb=>by
 rcases I.ok.stk with e|⟨e,hf⟩
 ·rw[e]at hb;exact jK _ hb
 ·rw[e]at hb;unfold frs at hb;rw[A2G,hf]at hb;exact hb
def Inv.z9(I:Inv X pins σ H s):∀b∈frs X.stack,H b=none:=fun b hb=>by
 rcases A0d.mp (I.uH b hb)with e|hb
 ·rw[e];exact I.free
 ·obtain⟨_,o,ho,_⟩:=I.ok.nJ.mem hb;exact I.base.free b o ho (I.ok.Wk b hb) fun z=>I.ok.Ga b z hb
def Inv.step{g':Array GenState}{d':Drawn}(I:Inv X pins σ H s)
  (hch:∀b∈ch,(b∈X.ex\/X.s₀.heap.objs.size<=b)/\b≠X.env.locals/\(∀x c,X.env.cells.lookup x=some c->c≠b)/\∀p∈X.pn++pins,p.1≠b)
  (keep:∀b o,b≠X.env.locals->b∉X.fs->b∉ch->s.heap.get? b=some o->H b=none->h'.get? b=some o)
  (slot:∀b o,b≠X.env.locals->b∈X.fs->b∉ch->s.heap.get? b=some o->H b=none->∃sl,h'.get? b=some {o with slots:=sl})(free:∀b o,b∉ch->s.heap.get? b=some o->H b=none->H' b=none)
  (there:∀b o,b∉ch->s.heap.get? b=some o->∃o',h'.get? b=some o')
  (tups:∀b xs,H b=some 0x23->H' b=some 0x23)(pP:∀b o u,H b=some (.iY o u)->H' b=some (.iY o u))(rF:∀b ps,H b=some (.Zd ps)->∃more,H' b=some (.Zd (ps++more)))
  (ns:∀m,s.heap.Ns X.env.locals m->h'.Ns X.env.locals m)(hok:m6 X.prog X.w H' h')(hg:AllBare g'):
  Inv X pins σ H' {s with heap:=h',gens:=g',drawn:=d',toks:=t'}:=by
 have neL:∀b o,X.s₀.heap.get? b=some o->b≠X.env.locals:=fun b o e=>A0M 0x7E;have neC:∀b o,X.s₀.heap.get? b=some o->b∉X.ex->b∉ch:=fun b o e hx hb=>by
  rcases(hch b hb).1 with z|z
  ·exact hx z
  ·exact absurd (A0q (A0v e) z) (A1H _)
 have cellK:∀x c,X.env.cells.lookup x=some c->∀v,s.heap.IsCell c v->h'.IsCell c v:=fun x c e v ⟨o,ho,hd⟩=>by
  have nch:c∉ch:=fun z=>(hch c z).2.2.1 x c e rfl
  by_cases hc:c∈X.fs
  ·obtain⟨sl,q⟩:=slot c o (I.Q6 x c e) hc nch ho (I.iZ x c e);exact⟨_,q,hd⟩
  ·exact⟨o,keep c o (I.Q6 x c e) hc nch ho (I.iZ x c e),hd⟩
 refine⟨I.ok,I.os,hg,⟨fun b o e n hb hx=>?_,fun b o e n hb hx=>?_,fun b o e n hx=>?_,fun b o e hx=>?_,fun b xs e=>tups b xs (I.base.tups b xs e),fun b o xs e=>pP b o xs (I.base.pP b o xs e),fun b ps e=>?_⟩,?_,fun x c e=>?_,?_,fun x c e=>?_,fun p hp=>?_,hok,I.len⟩
 ·exact keep b o (neL b o e) hb (neC b o e hx) (I.base.keep b o e n hb hx) (I.base.free b o e n hx)
 ·obtain⟨sl,e1⟩:=I.base.slot b o e n hb hx;obtain⟨sl',e2⟩:=slot b _ (neL b o e) hb (neC b o e hx) e1 (I.base.free b o e n hx);exact⟨sl',e2⟩
 ·obtain⟨o',e1⟩:=I.base.there b o e hx;exact free b o' (neC b o e hx) e1 (I.base.free b o e n hx)
 ·obtain⟨o',e1⟩:=I.base.there b o e hx;exact there b o' (neC b o e hx) e1
 ·obtain⟨m1,e1⟩:=I.base.rF b ps e;obtain⟨m2,e2⟩:=rF b _ e1;exact⟨m1++m2,by rw[e2,Array.append_assoc]⟩
 ·obtain⟨m,hn,hl⟩:=I.loc;refine⟨m,ns m hn,fun i x v e1 e2 e3=>?_⟩;obtain⟨u,r,l⟩:=hl i x v e1 e2 e3;refine⟨u,r,?_⟩;rcases l with l|⟨k,c,e,z⟩
  ·exact .inl l
  ·exact .inr ⟨k,c,e,cellK x c e _ z⟩
 ·obtain⟨v,z⟩:=I.cell x c e;exact⟨v,cellK x c e v z⟩
 ·obtain⟨m,⟨o,_,_,ho,_⟩,_⟩:=I.loc;exact free _ o (fun z=>(hch _ z).2.1 rfl) ho I.free
 ·obtain⟨v,o,ho,hd⟩:=I.cell x c e;exact free c o (fun z=>(hch c z).2.2.1 x c e rfl) ho (I.iZ x c e)
 ·obtain⟨e,n,ne,nf,d⟩:=I.pin p hp;have nch:p.1∉ch:=fun z=>(hch p.1 z).2.2.2 p hp rfl;exact⟨keep p.1 p.2 ne nf nch e n,free p.1 p.2 nch e n,ne,nf,d⟩
def Inv.un(I:Inv X pins σ H s)(u:Un X.fs [] H H' s.heap h')(hok:m6 X.prog X.w H' h'):Inv X pins σ H' {s with heap:=h',toks:=t'}:=by
 obtain⟨m,⟨o,es,ep,ho,r⟩,_⟩:=id I.loc;obtain⟨sl,hL⟩:=u.any ho I.free 0xA;exact I.step (g':=s.gens) (d':=s.drawn) (ch:=[]) (fun _ z=>nomatch z) (fun b o _ hb _ e n=>u.keep b o e n hb 0xA) (fun b o _ hb _ e n=>u.slot b o e n hb 0xA) (fun b o _ e n=>u.free b o e n 0xA) (fun b o _ e=>u.there b o e 0xA) u.tups u.pP u.rF (fun m' hm=>by
  obtain⟨o',es',ep',ho',r'⟩:=hm;rw[ho]at ho';cases ho';exact⟨_,es',ep',hL,r'⟩) hok I.bare
def Inv.call{g':Array GenState}{d':Drawn}(I:Inv X pins σ H s)(u:Un (frs X.stack) ch H H' s.heap h')(hok:m6 X.prog X.w H' h')(hg:AllBare g')
  (hch:∀b∈ch,(b∈X.ex\/X.s₀.heap.objs.size<=b)/\b≠X.env.locals/\(∀x c,X.env.cells.lookup x=some c->c≠b)/\∀p∈X.pn++pins,p.1≠b):
  Inv X pins σ H' {s with heap:=h',gens:=g',drawn:=d',toks:=t'}:=by
 obtain⟨m,⟨o,es,ep,ho,r⟩,_⟩:=id I.loc;obtain⟨sl,hL⟩:=u.any ho I.free fun z=>(hch _ z).2.1 rfl;exact I.step (ch:=ch) hch (fun b o hL hb hc e n=>u.keep b o e n (fun z=>(A0d.mp (I.uH b z)).elim hL hb) hc) (fun b o _ _ hc e n=>u.any e n hc) (fun b o hc e n=>u.free b o e n hc) (fun b o hc e=>u.there b o e hc) u.tups u.pP u.rF (fun m' hm=>by
  obtain⟨o',es',ep',ho',r'⟩:=hm;rw[ho]at ho';cases ho';exact⟨_,es',ep',hL,r'⟩) hok hg
def Inv.turned(I:Inv X pins σ H s)(k:∀b o,b≠it->s.heap.get? b=some o->h'.get? b=some o)(hn:H it=none)(hL:it≠X.env.locals)
  (h1:it∈X.ex\/X.s₀.heap.objs.size<=it)(h2:∀x c,X.env.cells.lookup x=some c->c≠it)(h3:∀p∈X.pn++pins,p.1≠it):Inv X pins σ H {s with heap:=h',toks:=t'}:=by
 have nit:∀b u,H b=some u->b≠it:=fun b u e z=>by rw[z,hn]at e;cases e
 refine I.step (g':=s.gens) (d':=s.drawn) (ch:=[it]) (fun b hb=>?_) (fun b o _ _ hc e _=>k b o (fun z=>hc (by simp[z])) e) (fun b o _ _ hc e _=>⟨o.slots,k b o (fun z=>hc (by simp[z])) e⟩) (fun _ _ _ _ n=>n)
  (fun b o hc e=>⟨o,k b o (fun z=>hc (by simp[z])) e⟩) (fun _ _ e=>e) (fun _ _ _ e=>e) (fun b ps e=>⟨#[],by rw[e];simp⟩) (fun m hm=>?_) (fun b u e=>?_) I.bare
 ·have e:b=it:=by simpa using hb
  subst e;exact⟨h1,hL,h2,h3⟩
 ·obtain⟨o,es,ep,ho,r⟩:=hm;exact⟨o,es,ep,k _ o (A0m hL) ho,r⟩
 ·refine(I.hok b u e).stay (fun c v hc q=>k c v ?_ q) (fun _ q=>q) fun _ _ q=>q;rcases hc with z|z
  ·rw[z];exact nit b u e
  ·exact nit c _ z
def Inv.tok(I:Inv X pins σ H s)(t:Nat):Inv X pins σ H {s with toks:=t}:=I.un (h':=s.heap) (t':=t) Un.refl I.hok
def Inv.kept(I:Inv X pins σ H s)(k:∀b u,s.heap.get? b=some u->h'.get? b=some u):Inv X pins σ H {s with heap:=h',toks:=t'}:=I.un (Un.kept k) (I.hok.kept k)
def Inv.laid(I:Inv X pins σ H s)(k:∀b u,s.heap.get? b=some u->h'.get? b=some u)(hp:s.heap.objs.size<=a)(new:dW X.prog X.w (upd H a o) h' a o):
  Inv X pins σ (upd H a o) {s with heap:=h',toks:=t'}:=I.un (Un.laid k hp (I.hok.fresh hp)) (I.hok.laid k hp new)
def Inv.write{x e:Addr}(I:Inv X pins σ H s)(mu:Mut (H x))(he:e=x\/H e=some (.own x))(k:∀b u,b≠e->s.heap.get? b=some u->h'.get? b=some u)(heo:∃u,h'.get? e=some u)
  (new:dW X.prog X.w (upd H x o) h' x o):Inv X pins σ (upd H x o) {s with heap:=h',toks:=t'}:=I.un (Un.write mu he k heo) (I.hok.write mu he k heo new)
def Inv.weak{σ':List (Option V)}(I:Inv X pins σ H s)(hl:σ'.length=σ.length)(w:∀(i:Nat)v,σ'[i]?=some (some v)->σ[i]?=some (some v)):Inv X pins σ' H s:=
 ⟨I.ok,I.os,I.bare,I.base,let⟨m,hn,hl'⟩:=I.loc;⟨m,hn,fun i x v e1 e2 e3=>hl' i x v e1 (w i v e2) e3⟩,I.cell,I.free,I.iZ,I.pin,I.hok,hl.trans I.len⟩
def Inv.Jp{Cj:List 0x1E}(I:Inv X pins σ H s)(h:∀p∈Cj,s.heap.get? p.1=some p.2/\H p.1=none/\p.1≠X.env.locals/\p.1∉X.fs/\∀v,p.2.data≠.cell v):Inv X Cj σ H s:=
 ⟨I.ok,I.os,I.bare,I.base,I.loc,I.cell,I.free,I.iZ,fun p hp=>(A0l.mp hp).elim (fun z=>I.pin p (A0W _ z)) (h p),I.hok,I.len⟩
def uI(hN:N.Nodup){x:Str}(a:N[i]?=some x)(b:N[j]?=some x):i=j:=by
 obtain⟨h1,e1⟩:=A0j.mp a;obtain⟨h2,e2⟩:=A0j.mp b;exact(List.getElem_inj hN).mp (e1.trans e2.symm)
def xu{M:Model}{x:Str}{Q:Unit->Shared->Prop}(I:Inv X pins σ H s)(hN:X.N.Nodup)(hi:X.N[i]?=some x)(hx:Loc X.env.scope x)(r:RelV v u)
  (h:∀s',Inv X pins (σ.set i (some v)) H s'->(∃a,Heap.SameBut a s.heap s'.heap/\(a=X.env.locals\/X.env.cells.lookup x=some a))->Q () s')(hf:X.fn x=true\/X.env.scope.names.lookup x=some .local:=by first|exact .inl rfl|exact .inr rfl|assumption):wpAny M A (storeName X.env x u) Q E s:=by
 obtain⟨m,hn,hl⟩:=id I.loc;have hcls:(X.env.scope.kind==.class||(X.env.scope.kind==.module&&X.env.locals != X.env.globals))=false:=by rw[I.ok.kind];rfl
 have hiσ:i<σ.length:=by rw[I.len];exact(A0j.mp hi).1
 have Q6:=I.Q6;have tracked:∀{a:Addr}{h':Heap},(∃o,s.heap.get? a=some o/\H a=none)->Heap.SameBut a s.heap h'->m6 X.prog X.w H h':=fun{a h'}ha hs b ob e=>by
  obtain⟨_,_,hfree⟩:=ha;refine(I.hok b ob e).stay (fun c w' hc q=>(hs.2 c ?_).trans q) (fun _ q=>q) fun _ _ q=>q;rintro rfl;rcases hc with rfl|hc
  ·rw[hfree]at e;cases e
  ·rw[hfree]at hc;cases hc
 rcases hx with hk|hk
 ·refine wpAny_storeName_local hk hn (fun h' hn' hs=>?_) hcls;obtain⟨oL,_,_,hoL,_⟩:=id hn;refine h _ ⟨I.ok,I.os,I.bare,⟨fun b o e n hb hx=>?_,fun b o e n hb hx=>?_,I.base.free,fun b o e hx=>?_,I.base.tups,I.base.pP,I.base.rF⟩,⟨_,hn',fun j y v' e1 e2 e3=>?_⟩,fun y c e=>?_,I.free,I.iZ,fun p hp=>?_,tracked ⟨oL,hoL,I.free⟩ hs,by simpa using I.len⟩ ⟨_,hs,.inl rfl⟩
  ·exact(hs.2 b (A0M 0x7E)).trans (I.base.keep b o e n hb hx)
  ·obtain⟨sl,e1⟩:=I.base.slot b o e n hb hx;exact⟨sl,(hs.2 b (A0M 0x7E)).trans e1⟩
  ·obtain⟨o',e1⟩:=I.base.there b o e hx;exact⟨o',(hs.2 b (A0M 0x7E)).trans e1⟩
  ·by_cases hj:j=i
   ·subst hj;rw[hi]at e1;cases e1;rw[A3G hiσ]at e2;cases e2;exact⟨u,r,.inl ⟨hk,by simp⟩⟩
   ·rw[A3e (A0m hj)]at e2;obtain⟨u',r',q⟩:=hl j y v' e1 e2 e3;refine⟨u',r',?_⟩;rcases q with⟨k,e⟩|⟨k,c,e,z⟩
    ·refine .inl ⟨k,?_⟩;have:y≠x:=fun e=>hj (uI hN e1 (e▸ hi));simp[this,e]
    ·exact .inr ⟨k,c,e,z.sameBut hs (Q6 y c e)⟩
  ·obtain⟨w',z⟩:=I.cell y c e;exact⟨w',z.sameBut hs (Q6 y c e)⟩
  ·obtain⟨e,n,ne,nf,d⟩:=I.pin p hp;exact⟨(hs.2 p.1 ne).trans e,n,ne,nf,d⟩
 ·have hfn:X.fn x=true:=by
   rcases hf with z|z
   ·exact z
   ·rw[z]at hk;cases hk
  obtain⟨c,hc⟩:=I.ok.has x (.inl hk);obtain⟨w',z⟩:=I.cell x c hc;refine wpAny_storeName_cell I.ok.kind hk hc z (fun h' hc' hs=>?_);obtain⟨oc,hoc,hocd⟩:=id z;refine h {s with heap:=h'} ⟨I.ok,I.os,I.bare,⟨fun b o e n hb hx=>?_,fun b o e n hb hx=>?_,I.base.free,fun b o e hx=>?_,I.base.tups,I.base.pP,I.base.rF⟩,⟨m,hn.sameBut hs (A0m (Q6 x c hc)),fun j y v' e1 e2 e3=>?_⟩,fun y c' e=>?_,I.free,I.iZ,fun p hp=>?_,tracked ⟨oc,hoc,I.iZ x c hc⟩ hs,by simpa using I.len⟩ ⟨c,hs,.inr hc⟩
  ·exact(hs.2 b (A0M (A0q (A0v e) (I.ok.cab x c hfn hc)))).trans (I.base.keep b o e n hb hx)
  ·obtain⟨sl,e1⟩:=I.base.slot b o e n hb hx;exact⟨sl,(hs.2 b (A0M (A0q (A0v e) (I.ok.cab x c hfn hc)))).trans e1⟩
  ·obtain⟨o',e1⟩:=I.base.there b o e hx;exact⟨o',(hs.2 b (A0M (A0q (A0v e) (I.ok.cab x c hfn hc)))).trans e1⟩
  ·by_cases hj:j=i
   ·subst hj;rw[hi]at e1;cases e1;rw[A3G hiσ]at e2;cases e2;exact⟨u,r,.inr ⟨.inl hk,c,hc,hc'⟩⟩
   ·rw[A3e (A0m hj)]at e2;obtain⟨u',r',q⟩:=hl j y v' e1 e2 e3;refine⟨u',r',?_⟩;rcases q with q|⟨k,c',e,z'⟩
    ·exact .inl q
    ·refine .inr ⟨k,c',e,z'.sameBut hs ?_⟩;rintro rfl;exact hj (uI hN e1 (I.ok.inj _ _ _ e hc▸ hi))
  ·by_cases hcc:c'=c
   ·subst hcc;exact⟨_,hc'⟩
   ·obtain⟨w2,z2⟩:=I.cell y c' e;exact⟨w2,z2.sameBut hs hcc⟩
  ·obtain⟨e,n,ne,nf,d⟩:=I.pin p hp;refine⟨(hs.2 p.1 ?_).trans e,n,ne,nf,d⟩;intro q;rw[q,hoc]at e;have q':oc=p.2:=A1b e;exact d w' (by rw[<-q'];exact hocd)
def nM{M:Model}{x:Str}{Q:Unit->Shared->Prop}(I:Inv X pins σ H s)(hN:X.N.Nodup)(hi:X.N[i]?=some x)(hx:Loc X.env.scope x)(r:RelV v u)
  (h:∀s',Inv X pins (σ.set i (some v)) H s'->Q () s')(hf:X.fn x=true\/X.env.scope.names.lookup x=some .local:=by first|exact .inl rfl|exact .inr rfl|assumption):wpAny M A (storeName X.env x u) Q E s:=
 xu I hN hi hx r (fun s' I' _=>h s' I') hf
def Inv.call'(I:Inv X pins σ H s)(ho:s'.os=s.os)(u:Un (frs X.stack) ch H H' s.heap s'.heap)(hok:m6 X.prog X.w H' s'.heap)(hg:AllBare s'.gens)
  (hch:∀b∈ch,(b∈X.ex\/X.s₀.heap.objs.size<=b)/\b≠X.env.locals/\(∀x c,X.env.cells.lookup x=some c->c≠b)/\∀p∈X.pn++pins,p.1≠b):Inv X pins σ H' s':=by
 obtain⟨h',g',d',t',o'⟩:=s';have e:o'=s.os:=ho;subst e;exact I.call (g':=g') (t':=t') (d':=d') u hok hg hch
end
abbrev XK:=Value->Option Addr->Hp->Prop
abbrev St:=List (Option V)
variable{σ:St}
abbrev VK:=V->Hp->Prop
abbrev TE:=St->Hp->VK->Prop
variable{ta td te tl tv:TE}{Pq:List (TE×TE)}
abbrev TT:=St->Hp->(Bool->Hp->Prop)->Prop
variable{tt:TT}
abbrev TA:=St->Hp->(List V->Hp->Prop)->Prop
structure Ends where
 nx:St->Hp->Prop
 rt:VK
 bk:St->Hp->Prop:=fun _ _=>False
 ct:St->Hp->Prop:=fun _ _=>False
variable{D:Ends}
abbrev TS:=Ends->St->Hp->Prop
variable{tb:TS}
inductive EP(X:Cx)(pins:List 0x1E)(σ:St)(Q:VK)(u:Value)(s':Shared):Prop
 |mk(v:V)(H':Hp)(_:Inv X pins σ H' s')(_:RelV v u)(_:Q v H'):EP X pins σ Q u s'
inductive TP(X:Cx)(pins:List 0x1E)(σ:St)(Q:Bool->Hp->Prop)(b:Bool)(s':Shared):Prop
 |mk(H':Hp)(_:Inv X pins σ H' s')(_:Q b H'):TP X pins σ Q b s'
inductive AP(X:Cx)(pins:List 0x1E)(σ:St)(Q:List V->Hp->Prop)(us:List Value)(s':Shared):Prop
 |mk(vs:List V)(H':Hp)(_:Inv X pins σ H' s')(_:Vals vs us)(_:Q vs H'):AP X pins σ Q us s'
def SP(X:Cx)(pins:List 0x1E)(D:Ends)(f:Flow)(s':Shared):Prop:=
 match f with
 | .next=>∃σ' H',Inv X pins σ' H' s'/\D.nx σ' H'
 | .brk=>∃σ' H',Inv X pins σ' H' s'/\D.bk σ' H'
 | .cont=>∃σ' H',Inv X pins σ' H' s'/\D.ct σ' H'
 | .ret u=>∃v σ' H',Inv X pins σ' H' s'/\RelV v u/\D.rt v H'
def PE(X:Cx)(e:Expr)(t:TE):Prop:=
 ∀(pins:List 0x1E)(s:Shared)(σ:St)(H:Hp)(Q:VK),Inv X pins σ H s->t σ H Q->wpAny 0x9 X.A (eval e X.env) 0x37 X.xe s
def PT(X:Cx)(e:Expr)(t:TT):Prop:=
 ∀(pins:List 0x1E)(s:Shared)(σ:St)(H:Hp)(Q:Bool->Hp->Prop),Inv X pins σ H s->t σ H Q->wpAny 0x9 X.A (isTrue e X.env (eval e X.env)) (TP X pins σ Q) X.xe s
def PW(X:Cx)(e:Expr)(t:TT):Prop:=
 ∀(whole:Sem Value)(pins:List 0x1E)(s:Shared)(σ:St)(H:Hp)(Q:Bool->Hp->Prop),Inv X pins σ H s->t σ H Q->wpAny 0x9 X.A (isTrue e X.env whole) (TP X pins σ Q) X.xe s
def PW.pt{t:TT}(h:PW X e t):PT X e t:=h _
def PA(X:Cx)(es:List Expr)(t:TA):Prop:=
 ∀(pos:Pos)(pins:List 0x1E)(s:Shared)(σ:St)(H:Hp)(Q:List V->Hp->Prop),Inv X pins σ H s->t σ H Q->wpAny 0x9 X.A (spliced 0x70) (AP X pins σ Q) X.xe s
def PS(X:Cx)(st:Stmt)(t:TS):Prop:=
 ∀(pins:List 0x1E)(s:Shared)(σ:St)(H:Hp)(D:Ends),Inv X pins σ H s->t D σ H->wpAny 0x9 X.A (exec st X.env) (SP X pins D) X.xe s
def BP(X:Cx)(st:List Stmt)(t:TS):Prop:=
 ∀(pins:List 0x1E)(s:Shared)(σ:St)(H:Hp)(D:Ends),Inv X pins σ H s->t D σ H->wpAny 0x9 X.A (execs st X.env) (SP X pins D) X.xe s
def cP{α:Type}{t:Sem α}{Q Q':α->Shared->Prop}{M:Model}(h:wpAny M A t Q E s)(hQ:∀a s,Q a s->Q' a s):wpAny M A t Q' E s:=A1i h hQ fun _ _ x=>x
section
inductive za(i:Nat)(σ:L2.St)(H:Hp)(Q:VK):Prop
 |mk(v:V)(_:σ[i]?=some (some v))(_:Q v H):za i σ H Q
def tC(v:V):TE:=fun _ H Q=>Q v H
def a0m{x:Str}(hN:X.N[i]?=some x)(hv:Vis X.env.scope x)(hd:0x24=false:=by decide)(hcd:(x==("__classdict__":Str))=false:=by decide):PE X (.Name x pos) (za i):=by
 intro pins s σ H Q I h;obtain⟨v,e,h⟩:=h;obtain⟨m,hn,hl⟩:=I.loc;obtain⟨u,r,l⟩:=hl i x v hN e hv;have fin:EP X pins σ Q u s:=⟨v,H,I,r,h⟩;rcases l with⟨hk,hm⟩|⟨hk,c,hc,hcell⟩
 ·exact wpAny_Name (wpAny_loadName_local I.ok.kind hk hn hm fin) hd
 ·rcases hk with hk|hk
  ·exact wpAny_Name (wpAny_loadName_cell I.ok.kind hk hc hcell fin) hd
  ·exact wpAny_Name (wpAny_loadName_free I.ok.kind hk hc hcell fin hcd) hd
def aA{i j pos}:PE X (.Constant (.int i) j pos) (tC (.int i)):=fun _ _ _ H _ I h=>wpAny_Constant_int ⟨.int i,H,I.tok _,⟨_,rfl⟩,h⟩
def jX{b j pos}:PE X (.Constant (.bool b) j pos) (tC (.bl b)):=fun _ _ _ H _ I h=>Constant_bool ⟨.bl b,H,I,rfl,h⟩
def m7{j pos}:PE X (.Constant .none j pos) (tC .non):=fun _ _ _ H _ I h=>Constant_none ⟨.non,H,I,rfl,h⟩
def aM{x j pos}:PE X (.Constant (.str x) j pos) (tC (.str x)):=fun _ _ _ H _ I h=>Calls.Constant_str ⟨.str x,H,I.tok _,⟨_,rfl⟩,h⟩
def Gl(X:Cx)(x:Str):Prop:=X.env.kindOf x=some .globalImplicit
def jY{x:Str}(I:Inv X pins σ H s)(hg:Gl X x)(hm:X.mg x=some u)(h:Q u s)
  (hd:0x24=false:=by decide):wpAny 0x9 X.A (eval (.Name x pos) X.env) Q E s:=
 A4l I.ok.kind hg (Calls.loadGlobal_global (by rw[I.ok.glob];exact I.mod.glob.keeps I.bk) hm h) hd
def rG{x:Str}(I:Inv X pins σ H s)(hg:Gl X x)(hm:X.mg x=none)(hv:bootBuiltins x=some u)(h:Q u s)
  (hn:x≠"__name__":=by decide)(hd:0x24=false:=by decide):wpAny 0x9 X.A (eval (.Name x pos) X.env) Q E s:=by
 obtain⟨mb,h1,h2⟩:=I.mod.blt;exact A4l I.ok.kind hg (Calls.loadGlobal_builtin (by rw[I.ok.glob];exact I.mod.glob.keeps I.bk) hm (by rw[I.ok.blt];exact h1.keeps I.bk) ((h2 x hn).trans hv) h) hd
def cj{x:Str}(hg:Gl X x)(hm:X.mg x=some u)(r:RelV v u)(hd:0x24=false:=by decide):PE X (.Name x pos) (tC v):=
 fun _ _ _ H _ I h=>jY I hg hm ⟨v,H,I,r,h⟩ hd
def jh{x:Str}(hg:Gl X x)(hm:X.mg x=none)(hv:bootBuiltins x=some u)(r:RelV v u)(hn:x≠"__name__":=by decide)(hd:0x24=false:=by decide):PE X (.Name x pos) (tC v):=
 fun _ _ _ H _ I h=>rG I hg hm hv ⟨v,H,I,r,h⟩ hn hd
variable{a b:Expr}{tb:TE}
def PC(X:Cx)(op:CmpOp)(a b:Expr)(t:TE):Prop:=
 ∀ (pins:List 0x1E)(s:Shared)(σ:St)(H:Hp)(Q:VK),Inv X pins σ H s->t σ H Q->
  wpAny 0x9 X.A (eval a X.env) (fun v s₁=>wpAny 0x9 X.A (eval b X.env) (fun u s₂=>wpAny 0x9 X.A (compareOp op v u) 0x37 X.xe s₂) X.xe s₁) X.xe s
def Ck(b:Expr)(h:op≠.In)(h2:op≠.NotIn):behindInMarks op b=false:=by
 have e1:(op==CmpOp.In)=false:=by cases op<;>first|rfl|exact absurd rfl h
 have e2:(op==CmpOp.NotIn)=false:=by cases op<;>first|rfl|exact absurd rfl h2
 cases b<;>simp[behindInMarks,e1,e2]
def tIsN(ta:TE):TE:=fun σ H Q=>ta σ H fun x H1=>Q (.bl (decide (x=.non))) H1
def RelV.Q7{x:V}{v:Value}(r:RelV x v):(v==Value.none)=decide (x=.non):=by
 cases x with
 |non=>cases r;rfl
 |bl _=>cases r;rfl
 |int _=>obtain⟨t,rfl⟩:=r;rfl
 |str _=>obtain⟨t,rfl⟩:=r;rfl
 |Mj _=>obtain⟨t,rfl⟩:=r;rfl
 |flt _=>obtain⟨t,rfl⟩:=r;rfl
 |ref _=>cases r;rfl
 |ty _=>cases r;rfl
def Q8{j pos'}(ha:PE X a ta):PC X .Is a (.Constant .none j pos') (tIsN ta):=by
 intro pins s σ H Q I h;refine cP 0x3E fun v s1 zq=>?_;obtain⟨x,H1,I1,r1,q1⟩:=zq;exact Constant_none (is_none_gen ⟨.bl _,H1,I1,by rw[r1.Q7];rfl,q1⟩)
inductive tB_X(Q:Bool->Hp->Prop)(x:V)(H1:Hp):Prop
 |mk(c:Bool)(_:x=.bl c)(_:Q c H1):tB_X Q x H1
def tB(t:TE):TT:=fun σ H Q=>t σ H fun x H1=>tB_X Q x H1
def Q9{t:TE}(h:PC X op a b t)(h1:behindInMarks op b=false:=by first|exact Ck _ (by decide) (by decide)|rfl):PE X (.Compare a [op] [b] pos) t:=fun pins s σ H Q I hw=>wpAny_Compare1 (h pins s σ H Q I hw) h1
def pQ{t:TE}(h:PC X op a b t)(h1:behindInMarks op b=false:=by first|exact Ck _ 0x5 0x5|rfl):PT X (.Compare a [op] [b] pos) (tB t):=by
 intro pins s σ H Q I hw;refine wpAny_isTrue_Compare1 (cP (h pins s σ H _ I hw) fun v s1 h1=>cP h1 fun u s2 h2=>cP h2 fun c s3 ⟨x,H1,I1,r1,q1⟩=>?_) h1;obtain⟨d,rfl,q⟩:=q1;cases r1;exact A1M ⟨H1,I1,q⟩
def dJ{t:TE}(h:PE X e t)(he:∀whole,isTrue e X.env whole=(do let v<-whole;standAt e.pos;holding [v] (truthy v)):=by intro _;rfl):PT X e (tB t):=by
 intro pins s σ H Q I hw;refine isTrue_plain (cP (h pins s σ H _ I hw) fun v s1 ⟨x,H1,I1,r1,q1⟩=>?_) (he _);obtain⟨d,rfl,q⟩:=q1;cases r1;exact A1M ⟨H1,I1,q⟩
variable{tA tB':TT}{rest:List Expr}
def tAnd(t u:TT):TT:=fun σ H Q=>t σ H fun c H1=>if c=true then u σ H1 Q else Q false H1
def tOr(t u:TT):TT:=fun σ H Q=>t σ H fun c H1=>if c=true then Q true H1 else u σ H1 Q
def tNot(t:TT):TT:=fun σ H Q=>t σ H fun c H1=>Q (!c) H1
def ji(ha:PT X a tA):PW X (.BoolOp .And [a] pos) tA:=by
 intro wh pins s σ H Q I h;refine isTrue_and (cP (ha pins s σ H Q I h) fun c s1 e=>?_);cases c with
 |true=>exact isTrue_and_nil e
 |false=>exact e
def rH(ha:PT X a tA):PW X (.BoolOp .Or [a] pos) tA:=by
 intro wh pins s σ H Q I h;refine isTrue_or (cP (ha pins s σ H Q I h) fun c s1 e=>?_);cases c with
 |false=>exact isTrue_or_nil e
 |true=>exact e
def lA(ha:PT X a tA)(hb:PW X (.BoolOp .And (b::rest) pos) tB'):PW X (.BoolOp .And (a::b::rest) pos) (tAnd tA tB'):=by
 intro wh pins s σ H Q I h;refine isTrue_and (cP 0x3E fun c s1 zq=>?_);obtain⟨H1,I1,q1⟩:=zq;cases c with
 |true=>exact hb wh pins s1 σ H1 Q I1 q1
 |false=>exact⟨H1,I1,q1⟩
def xG(ha:PT X a tA)(hb:PW X (.BoolOp .Or (b::rest) pos) tB'):PW X (.BoolOp .Or (a::b::rest) pos) (tOr tA tB'):=by
 intro wh pins s σ H Q I h;refine isTrue_or (cP 0x3E fun c s1 zq=>?_);obtain⟨H1,I1,q1⟩:=zq;cases c with
 |true=>exact⟨H1,I1,q1⟩
 |false=>exact hb wh pins s1 σ H1 Q I1 q1
def ig(ha:PT X a tA):PT X (.UnaryOp .Not a pos) (tNot tA):=by
 intro pins s σ H Q I h;exact isTrue_not (cP (ha pins s σ H (fun c H1=>Q (!c) H1) I h) fun c s1 ⟨H1,I1,q1⟩=>⟨H1,I1,q1⟩)
inductive Jq(tb:TE)(σ:L2.St)(Q:VK)(x:V)(H1:Hp):Prop
 |mk(c:Bool)(_:x=.bl c)(_:if c=true then tb σ H1 Q else Q (.bl false) H1):Jq tb σ Q x H1
def a2w(ta tb:TE):TE:=fun σ H Q=>ta σ H fun x H1=>Jq tb σ Q x H1
inductive Jr(Q:VK)(x:V)(H1:Hp):Prop
 |mk(c:Bool)(_:x=.bl c)(_:Q (.bl (!c)) H1):Jr Q x H1
def a2x(ta:TE):TE:=fun σ H Q=>ta σ H fun x H1=>Jr Q x H1
def Qa{op}{t:TE}(h:PE X a t):PE X (.BoolOp op [a] pos) t:=fun pins s σ H Q I hw=>BoolOp_one (h pins s σ H Q I hw)
def uJ(ha:PE X a ta)(hb:PE X (.BoolOp .And (b::rest) pos) tb):PE X (.BoolOp .And (a::b::rest) pos) (a2w ta tb):=by
 intro pins s σ H Q I h;refine BoolOp_and (cP 0x3E fun v s1 zq=>?_);obtain⟨x,H1,I1,r1,q1⟩:=zq;obtain⟨c,rfl,q1⟩:=q1;cases r1;refine A1M ?_;cases c with
 |true=>exact hb pins s1 σ H1 Q I1 q1
 |false=>exact⟨.bl false,H1,I1,rfl,q1⟩
def a0n(ha:PE X a ta):PE X (.UnaryOp .Not a pos) (a2x ta):=by
 intro pins s σ H Q I h;refine UnaryOp_ (cP 0x3E fun v s1 zq=>?_);obtain⟨x,H1,I1,r1,q1⟩:=zq;obtain⟨c,rfl,q1⟩:=q1;cases r1;exact not_of (A1M ⟨.bl (!c),H1,I1,rfl,q1⟩)
end
def bY(K:PySem.W.Frag)(H:Hp)(a:Addr)(xs:List V):Prop:=
 Rd H a 0x4D\/
  ∃(o:Obj)(its:Array Value)(n:Nat),K.lookup a=some o/\o.cls=.type "list"/\o.dict=none/\o.data=.seq its n/\its.size<=sizeLine/\Vals xs its.toList
def bN(K:PySem.W.Frag)(H:Hp)(a:Addr)(xs:List V):Prop:=
 Rd H a 0x23\/
  ∃(o:Obj)(its:Array Value)(n:Nat),K.lookup a=some o/\o.cls=.type "tuple"/\o.data=.seq its n/\its.size<=sizeLine/\Vals xs its.toList
def absV:Value->Option V
 | .none=>some .non
 | .bool b=>some (.bl b)
 | .int i _=>some (.int i)
 | .str x _=>some (.str x)
 | .bytes b _=>some (.Mj b)
 | .float b _=>some (.flt b)
 | .ref a=>some 0x4E
 | .type n=>some (.ty n)
 |_=>none
def RelV.abs{x:V}(r:RelV x u):absV u=some x:=by
 cases x with
 |non=>cases r;rfl
 |bl _=>cases r;rfl
 |int _=>obtain⟨t,rfl⟩:=r;rfl
 |str _=>obtain⟨t,rfl⟩:=r;rfl
 |Mj _=>obtain⟨t,rfl⟩:=r;rfl
 |flt _=>obtain⟨t,rfl⟩:=r;rfl
 |ref _=>cases r;rfl
 |ty _=>cases r;rfl
def RelV.inj{x:V}(r:RelV x u)(q:RelV y u):x=y:=A1b (r.abs.symm.trans q.abs)
theorem Vals.inj:∀{xs ys:List V}{us:List Value},Vals xs us->Vals ys us->xs=ys
 |_,_,_,.nil,.nil=>rfl
 |_,_,_,.cons r t,.cons r' t'=>by rw[r.inj r',Vals.inj t t']
def bY.of(h:H a=some 0x4D):bY K H a xs:=.inl (.inl h)
def bN.of(h:H a=some 0x23):bN K H a xs:=.inl (.inl h)
def Inv.list(I:Inv X pins σ H s)(h:bY X.K H a xs):∃its:List Value,Vals xs its/\PlainL s.heap a its.toArray/\xs.length<=sizeLine:=by
 rcases h with h|⟨o,its,n,hk,hc,hd,hs,hz,r⟩
 ·obtain⟨z,its,n,r,e⟩:=h.ok I.hok;exact⟨its,r,⟨_,n,e,rfl,rfl,rfl⟩,z⟩
 ·refine⟨its.toList,r,⟨o,n,I.lZ a o hk,hc,hd,by simpa using hs⟩,?_⟩;have e:=r.length;simp only[A1o]at e;lia
def Inv.tuple(I:Inv X pins σ H s)(h:bN X.K H a xs):∃its:List Value,Vals xs its/\IsTup s.heap a its.toArray/\xs.length<=sizeLine:=by
 rcases h with h|⟨o,its,n,hk,hc,hs,hz,r⟩
 ·obtain⟨z,its,r,p⟩:=h.ok I.hok;exact⟨its,r,p,z⟩
 ·refine⟨its.toList,r,⟨o,I.lZ a o hk,hc,n,by simpa using hs⟩,?_⟩;have e:=r.length;simp only[A1o]at e;lia
def Inv.Qc(I:Inv X pins σ H s)(h:bY X.K H a xs)(h':bY X.K H a ys):xs=ys:=by
 obtain⟨its,r,⟨o,n,e,_,_,d⟩,_⟩:=I.list h;obtain⟨its',r',⟨o',n',e',_,_,d'⟩,_⟩:=I.list h';rw[e]at e';cases e';rw[d]at d';injection d' with d1 _;have:its=its':=by simpa using A1R Array.toList d1
 subst this;exact r.inj r'
def Inv.Mq(I:Inv X pins σ H s)(h:bN X.K H a xs)(h':bN X.K H a ys):xs=ys:=by
 obtain⟨its,r,⟨o,e,_,n,d⟩,_⟩:=I.tuple h;obtain⟨its',r',⟨o',e',_,n',d'⟩,_⟩:=I.tuple h';rw[e]at e';cases e';rw[d]at d';injection d' with d1 _;have:its=its':=by simpa using A1R Array.toList d1
 subst this;exact r.inj r'
abbrev Cx.wish(X:Cx)(E:Value->Shared->Prop):Cx:={X with xe:=E}
abbrev Cx.nox(X:Cx):Cx:=X.wish fun _ _=>False
def Cx.Ok.wish(ok:X.Ok)(E:Value->Shared->Prop):(X.wish E).Ok:=
 ⟨ok.mod,ok.kind,ok.glob,ok.blt,ok.above,ok.inj,ok.has,ok.cab,ok.hd,ok.frames,ok.stk,ok.exf,ok.bs,ok.Pj,ok.Ci,ok.Ga,ok.nJ,ok.Wk⟩
def Cx.Ok.nO(ok:(X.wish E).Ok):X.Ok:=
 ⟨ok.mod,ok.kind,ok.glob,ok.blt,ok.above,ok.inj,ok.has,ok.cab,ok.hd,ok.frames,ok.stk,ok.exf,ok.bs,ok.Pj,ok.Ci,ok.Ga,ok.nJ,ok.Wk⟩
def Inv.wish(I:Inv X pins σ H s)(E:Value->Shared->Prop):Inv (X.wish E) pins σ H s:=⟨I.ok.wish E,I.os,I.bare,I.base,I.loc,I.cell,I.free,I.iZ,I.pin,I.hok,I.len⟩
def Inv.nO(I:Inv (X.wish E) pins σ H s):Inv X pins σ H s:=⟨I.ok.nO,I.os,I.bare,I.base,I.loc,I.cell,I.free,I.iZ,I.pin,I.hok,I.len⟩
def SP.nO{f:Flow}(h:SP (X.wish E) pins D f s'):SP X pins D f s':=by
 cases f with
 |next=>obtain⟨σ',H',I,q⟩:=h;exact⟨σ',H',I.nO,q⟩
 |brk=>obtain⟨σ',H',I,q⟩:=h;exact⟨σ',H',I.nO,q⟩
 |cont=>obtain⟨σ',H',I,q⟩:=h;exact⟨σ',H',I.nO,q⟩
 |ret u=>obtain⟨v,σ',H',I,r,q⟩:=h;exact⟨v,σ',H',I.nO,r,q⟩
def BP.nox{st:List Stmt}{t:TS}(h:BP X.nox st t):BP X st t:=fun pins s σ H D I hw=>
 A1i (h pins s σ H D (I.wish _) hw) (fun _ _ q=>q.nO) fun _ _ z=>False.elim z
section
variable{rest:List Stmt}{t u:TS}
def a2y:TS:=fun D σ H=>D.nx σ H
def Gb(t u:TS):TS:=fun D σ H=>t {D with nx:=u D} σ H
def aR:BP X [] a2y:=fun _ _ σ H _ I h=>A3r ⟨σ,H,I,h⟩
def aq(h1:PS X st t)(h2:BP X rest u):BP X (st::rest) (Gb t u):=by
 intro pins s σ H D I h;refine wpAny_execs_cons (cP (h1 pins s σ H {D with nx:=u D} I h) fun f s1 q=>?_);cases f with
 | next=>
  obtain⟨σ',H',I',q⟩:=q;exact h2 pins s1 σ' H' D I' q
 |ret v=>exact q
 |brk=>exact q
 |cont=>exact q
def aG(h1:PS X st t):BP X [st] t:=by
 intro pins s σ H D I h;refine wpAny_execs_cons (cP (h1 pins s σ H D I h) fun f s1 q=>?_);cases f with
 |next=>exact A3r q
 |ret v=>exact q
 |brk=>exact q
 |cont=>exact q
def Inv.quiet(I:Inv X pins σ H s):interactive X.env=false:=by simp[interactive,I.ok.kind]
def a2z(te:TE):TS:=fun D σ H=>te σ H fun _ H1=>D.nx σ H1
def bM(he:PE X e te)(hs:swapsWith e none pos.line X.env=pure false:=by rfl):PS X (.Expr e pos) (a2z te):=by
 intro pins s σ H D I h;exact wpAny_Expr_any (cP 0x49 fun v s1 ⟨x,H1,I1,r1,q1⟩=>⟨σ,H1,I1,q1⟩) I.quiet hs
def Ww(te:TE):TS:=fun D σ H=>te σ H D.rt
def aZ(he:PE X e te):PS X (.Return (some e) pos) (Ww te):=by
 intro pins s σ H D I h;exact wpAny_Return_some (cP 0x49 fun v s1 ⟨x,H1,I1,r1,q1⟩=>⟨x,σ,H1,I1,r1,q1⟩)
def Mr(c:TT)(t u:TS):TS:=fun D σ H=>c σ H fun b H1=>if b=true then t D σ H1 else u D σ H1
def bK{c:Expr}{a b:List Stmt}{tc:TT}(hc:PT X c tc)(ha:BP X a t)(hb:BP X b u):PS X (.If c a b pos) (Mr tc t u):=by
 intro pins s σ H D I h;refine wpAny_If (cP (hc pins s σ H _ I h) fun d s1 zq=>?_);obtain⟨H1,I1,q1⟩:=zq;cases d with
 |true=>exact ha pins s1 σ H1 D I1 q1
 |false=>exact hb pins s1 σ H1 D I1 q1
def a0o:TS:=fun _ _ _=>False
def cD{sts:List Stmt}:BP X sts a0o:=fun _ _ _ _ _ _ h=>h.elim
end
abbrev TG:=V->St->Hp->(St->Hp->Prop)->Prop
variable{g:TG}
abbrev TGs:=List V->St->Hp->(St->Hp->Prop)->Prop
def PG(X:Cx)(target:Expr)(t:TG):Prop:=
 ∀ (pins:List 0x1E)(s:Shared)(σ:St)(H:Hp)(v:V)(u:Value)(Q:St->Hp->Prop),Inv X pins σ H s->RelV v u->t v σ H Q->
  wpAny 0x9 X.A (assign target X.env u) (fun _ s'=>∃σ' H',Inv X pins σ' H' s'/\Q σ' H') X.xe s
def PGs(X:Cx)(ts:List Expr)(t:TGs):Prop:=
 ∀ (pins:List 0x1E)(s:Shared)(σ:St)(H:Hp)(vs:List V)(us:List Value)(Q:St->Hp->Prop),Inv X pins σ H s->Vals vs us->t vs σ H Q->
  wpAny 0x9 X.A (assignInOrder ((assignEach ts X.env).map (·.2)) us) (fun _ s'=>∃σ' H',Inv X pins σ' H' s'/\Q σ' H') X.xe s
def qj(i:Nat):TG:=fun v σ H Q=>Q (σ.set i (some v)) H
def bB{x:Str}(hN:X.N.Nodup)(hi:X.N[i]?=some x)(hx:Loc X.env.scope x)(hf:X.fn x=true\/X.env.scope.names.lookup x=some .local:=by first|exact .inl rfl|exact .inr rfl|assumption):PG X (.Name x pos) (qj i):=by
 intro pins s σ H v u Q I r h;exact wpAny_assign_Name (nM I hN hi hx r (fun s' I'=>⟨_,H,I',h⟩) hf)
def gNil:TGs:=fun vs σ H Q=>vs=[]/\Q σ H
inductive Ze(t:TG)(u:TGs)(vs:List V)(σ:L2.St)(H:Hp)(Q:L2.St->Hp->Prop):Prop
 |mk(v:V)(r:List V)(_:vs=v::r)(_:t v σ H fun σ' H'=>u r σ' H' Q):Ze t u vs σ H Q
def gJ:PGs X [] gNil:=by
 intro pins s σ H vs us Q I r h;obtain⟨e,h⟩:=h;subst e;cases r;exact assignInOrder_nil ⟨σ,H,I,h⟩
def bR{t:TG}{u:TGs}(h1:PG X e t)(h2:PGs X es u)
  (hs:(assignEach (e::es) X.env).map (·.2)=assign e X.env::(assignEach es X.env).map (·.2):=by rfl):PGs X (e::es) (Ze t u):=by
 intro pins s σ H vs us Q I r h;obtain⟨v,vr,e1,h⟩:=h;subst e1;cases r with
 | cons r rr=>
  rw[hs];refine A4m (cP (h1 pins s σ H _ _ _ I r h) fun _ s1 zq=>?_);obtain⟨σ1,H1,I1,q1⟩:=zq;exact h2 pins s1 σ1 H1 _ _ Q I1 rr q1
inductive a0p(K:W.Frag)(n:Nat)(t:TGs)(v:V)(σ:L2.St)(H:Hp)(Q:L2.St->Hp->Prop):Prop
 |mk(a:Addr)(xs:List V)(_:v=.ref a)(_:bN K H a xs)(_:xs.length=n)(_:t xs σ H Q):a0p K n t v σ H Q
def jN{k:Nat}{t:TGs}(hc:X.calm=true)(h:PGs X es t)
  (hn:(assignEach es X.env).length=n:=by rfl)(hst:(assignEach es X.env).findIdx? (·.1)=none:=by rfl):PG X (.Tuple es k pos) (a0p X.K n t):=by
 intro pins s σ H v u Q I r hw;obtain⟨a,xs,e1,hq,hl,hw⟩:=hw;subst e1;cases r;obtain⟨its,rv,ht,hz⟩:=I.tuple hq;refine assign_Tuple_tuple (I.ok.hd hc) ht (by simp[hn,<-hl,rv.length]) hst fun h' hx=>?_;have I1:Inv X pins σ H {s with heap:=h'}:=I.kept (t':=s.toks) fun b o e=>hx b o (A0M (A0v e)) e;exact h pins _ σ H xs _ Q I1 (by simpa using rv) hw
def tAsg(te:TE)(g:TG):TS:=fun D σ H=>te σ H fun x H1=>g x σ H1 D.nx
def nP(he:PE X e te)(hg:PG X tg g)(hs:swapsWithSole [tg] e pos.line X.env=pure false:=by rfl)(hw:swappedStores [tg] e X.env=pure none:=by rfl)
  (h1:(assignEach [tg] X.env).map (·.2)=[assign tg X.env]:=by rfl):PS X (.Assign [tg] e pos) (tAsg te g):=by
 intro pins s σ H D I h;refine wpAny_Assign_stores (cP 0x49 fun v s1 ⟨x,H1,I1,r1,q1⟩=>?_) hs hw;rw[h1];exact cP (hg pins s1 σ H1 x v _ I1 r1 q1) fun _ s2 q=>q
def aV{x:Str}(hN:X.N.Nodup)(hi:X.N[i]?=some x)(hx:Loc X.env.scope x)(he:PE X e te)(hs:swapsWith e (some (.Name x pos')) pos.line X.env=pure false:=by rfl)(hf:X.fn x=true\/X.env.scope.names.lookup x=some .local:=by first|exact .inl rfl|exact .inr rfl|assumption):
  PS X (.Assign [.Name x pos'] e pos) (tAsg te (qj i)):=by
 intro pins s σ H D I h;refine wpAny_Assign_Name (cP 0x49 fun v s1 ⟨y,H1,I1,r1,q1⟩=>?_) hs;exact nM I1 hN hi hx r1 (fun s2 I2=>⟨_,H1,I2,q1⟩) hf
inductive Qd(i j:Nat)(D:Ends)(σ:L2.St)(vs:List V)(H1:Hp):Prop
 |mk(v w:V)(_:vs=[v,w])(_:D.nx ((σ.set i (some v)).set j (some w)) H1):Qd i j D σ vs H1
def tPar(i j:Nat)(ta:TA):TS:=fun D σ H=>ta σ H fun vs H1=>Qd i j D σ vs H1
def Qe{x y:Str}{a b:Expr}{ta:TA}{px py pt:Pos}{kt k2 pt2}(hc:X.calm=true)(hN:X.N.Nodup)(hi:X.N[i]?=some x)(hj:X.N[j]?=some y)(hij:i≠j)
  (hx:X.env.scope.names.lookup x=some .local)(hy:X.env.scope.names.lookup y=some .local)(ha:PA X [a,b] ta)
  (hw:swappedStores [.Tuple [.Name x px,.Name y py] kt pt] (.Tuple [a,b] k2 pt2) X.env=pure (some [x,y]))
  (hs:swapsWithSole [.Tuple [.Name x px,.Name y py] kt pt] (.Tuple [a,b] k2 pt2) pos.line X.env=pure false:=by rfl):
  PS X (.Assign [.Tuple [.Name x px,.Name y py] kt pt] (.Tuple [a,b] k2 pt2) pos) (tPar i j ta):=by
 intro pins s σ H D I h;rw[exec_Assign_arm];refine A0a (A2Z ?_);rw[hs];refine A0a (A0n ?_);rw[A0f 0x5];refine A0a (Tuple_ (cP (ha _ pins s σ H _ I h) fun us s1 zq=>?_));obtain⟨vs,H1,I1,r1,q1⟩:=zq;obtain⟨v,w,e1,q1⟩:=q1;subst e1;obtain⟨u1,u2,rfl,rv,cN⟩:∃u1 u2,us=[u1,u2]/\RelV v u1/\RelV w u2:=by
  cases r1 with
  | cons p q=>
   cases q with
   | cons p' q'=>
    cases q';exact⟨_,_,rfl,p,p'⟩
 refine A1V ?_ (by show 2<=sizeLine;decide)
 have I2:Inv X pins σ H1 {s1 with heap:=s1.heap.push {cls:=.type "tuple",data:=.seq [u1,u2].toArray}}:=I1.kept (t':=s1.toks) fun b o e=>A0c _ e;rw[hw];refine A0a (A0n ?_)
 show wpAny 0x9 X.A (do rule "assign.swapped-stores";let items<-unpackItems (.ref s1.heap.objs.size) 2 none;assignInOrder [fun v=>bindName X.env y v,fun v=>bindName X.env x v] items.reverse;pure Flow.next) _ _ _
 refine A0a (A3P (A0a (unpackItems_tuple (items:=#[u1,u2]) (I.ok.hd hc) (IsTup.new s1.heap _) fun h' hx'=>?_)));have I3:=I2.kept (h':=h') (t':=s1.toks) fun b o e=>hx' b o (A0M (A0v e)) e
 show wpAny _ _ (assignInOrder [fun v=>bindName X.env y v,fun v=>bindName X.env x v] [u2,u1]>>=fun _=>pure Flow.next) _ _ _
 refine A0a (A4m (wpAny_bindName (nM I3 hN hj (.inl hy) cN (fun s2 I4=>?_) (.inr hy))));refine A4m (wpAny_bindName (nM I4 hN hi (.inl hx) rv (fun s3 I5=>assignInOrder_nil (A0n ?_)) (.inr hx)));rw[List.set_comm _ _ (A0m hij)]at I5;exact⟨_,H1,I5,q1⟩
def Qf(c:TT)(tb:TS):TS:=fun D σ H=>∃W:Nat->St->Hp->Prop,(∃m,W m σ H)/\∀m σ H,W m σ H->
 c σ H fun b H1=>if b=true then ∃N:St->Hp->Prop,(∀σ' H',N σ' H'->∃m',m'<m/\W m' σ' H')/\tb {D with nx:=N,ct:=N,bk:=D.nx} σ H1 else D.nx σ H1
def lH{c:Expr}{tc:TT}(hp:PassesOwn 0x9 X.A X.env X.xe)(hc:PT X c tc)(hb:BP X body tb):PS X (.While c body [] pos) (Qf tc tb):=by
 intro pins s σ H D I h;obtain⟨W,⟨m0,w0⟩,turn⟩:=h;refine wpAny_While (codeAny_whileLoop (fun n s'=>∃σ' H',Inv X pins σ' H' s'/\W n σ' H') ?_ m0 ⟨σ,H,I,w0⟩);rintro n s1 ⟨σ1,H1,I1,w1⟩;refine A2s hp (cP (hc pins s1 σ1 H1 _ I1 (turn n σ1 H1 w1)) fun b s2 zq=>?_);obtain⟨H2,I2,q2⟩:=zq;cases b with
 | true=>
  obtain⟨N,hN,q2⟩:=q2;rw[A0i rfl];refine A2s hp (cP (hb pins s2 σ1 H2 _ I2 q2) fun f s3 q3=>?_);cases f with
  | next=>
   obtain⟨σ3,H3,I3,n3⟩:=q3;obtain⟨m',hm,w3⟩:=hN σ3 H3 n3;exact⟨m',hm,σ3,H3,I3,w3⟩
  | cont=>
   obtain⟨σ3,H3,I3,n3⟩:=q3;obtain⟨m',hm,w3⟩:=hN σ3 H3 n3;exact⟨m',hm,σ3,H3,I3,w3⟩
  |brk=>exact q3
  |ret v=>exact q3
 | false=>
  rw[A0f A0r];exact A3r ⟨σ1,H2,I2,q2⟩
structure It where
 go:Nat->Hp->Prop
 Pk:Nat->Hp->V->Hp->Prop
 stop:Nat->Hp->Prop
def jO(X:Cx)(pins:List 0x1E)(H:Hp)(b:Addr):Prop:=
 H b=none/\b≠X.env.locals/\b∉X.fs/\(b∈X.ex\/X.s₀.heap.objs.size<=b)/\(∀x c,X.env.cells.lookup x=some c->c≠b)/\∀p∈X.pn++pins,p.1≠b
def Inv.zc(I:Inv X pins σ H s)(hb:s.heap.objs.size<=b)(hn:H' b=none):jO X pins H' b:=by
 refine⟨hn,A3i (A0q I.lt hb),I.nofs hb,.inr (A0z I.sz hb),fun x c e z=>?_,fun p hp z=>?_⟩
 ·obtain⟨v,q⟩:=I.cell x c e;exact absurd (A0q q.lt (by rw[z];exact hb)) (A1H _)
 ·exact absurd (A0q (A0v (I.pin p hp).1) (by rw[z];exact hb)) (A1H _)
structure Turn(P:Program)(w:World)(K:PySem.W.Frag)(tg:Expr)(J:It)(fp:List Addr)(it:Addr)(tn:Nat->Heap->Prop):Prop where
 mem:it∈fp
 obj:∀i h,tn i h->∀b∈fp,∃o,h.get? b=some o/\∀v,o.data≠.cell v
 keep:∀i h h',tn i h->(∀b∈fp,∀o,h.get? b=some o->h'.get? b=some o)->tn i h'
 item:∀(X:Cx),X.prog=P->X.w=w->X.K=K->X.calm=true->∀(i:Nat)(pins:List 0x1E)(s:Shared)(σ:St)(H:Hp)(E:Value->Shared->Prop),Inv X pins σ H s->(∀b∈fp,jO X pins H b)->tn i s.heap->J.go i H->
  wpAny (model P w) X.A (pyNext 0x88) (fun r s1=>∃u,r=some u/\
   wpAny (model P w) X.A (letOwnedTupleGo tg 0x88 u) (fun _ s2=>∃x H',Inv X pins σ H' s2/\RelV x u/\J.Pk i H x H'/\tn (i+1) s2.heap/\∀b∈fp,H' b=none) E s1) E s
 done:∀(X:Cx),X.prog=P->X.w=w->X.K=K->X.calm=true->∀(i:Nat)(pins:List 0x1E)(s:Shared)(σ:St)(H:Hp)(E:Value->Shared->Prop),Inv X pins σ H s->(∀b∈fp,jO X pins H b)->tn i s.heap->J.stop i H->
  wpAny (model P w) X.A (pyNext 0x88) (fun r s1=>r=none/\Inv X pins σ H s1) E s
 self:∀(A:Around)(i:Nat)(s:Shared)(Q:Value->Shared->Prop)(E:Value->Shared->Prop),tn i s.heap->Q 0x88 s->wpAny (model P w) A (pyIter 0x88) Q E s
abbrev TI:=St->Hp->(It->Hp->Prop)->Prop
variable{wi:TI}
inductive PIE(X:Cx)(pins:List 0x1E)(σ:St)(tg:Expr)(R:It->Hp->Prop)(itv:Value)(s2:Shared):Prop
 |mk(it:Addr)(fp:List Addr)(tn:Nat->Heap->Prop)(J:It)(H':Hp)(_:itv=.ref it)(_:Inv X pins σ H' s2)(_:Turn X.prog X.w X.K tg J fp it tn)(_:tn 0 s2.heap)(_:(∀b∈fp,jO X pins H' b))(_:R J H'):PIE X pins σ tg R itv s2
def PI(X:Cx)(tg iter:Expr)(wi:TI):Prop:=
 ∀ (pins:List 0x1E)(s:Shared)(σ:St)(H:Hp)(R:It->Hp->Prop),Inv X pins σ H s->wi σ H R->
  wpAny 0x9 X.A (eval iter X.env) (fun v s1=>wpAny 0x9 X.A (pyIter v) (PIE X pins σ tg R) X.xe s1) X.xe s
def Qg{M:Model}{o:Obj}{n:String}{vs:Array Value}{Q:Unit->Shared->Prop}(ho:s.heap.get? it=some o)(hc:o.cls=.type n)(hd:o.data=.fields vs)
  (hn:["enumerate","zip","dict_itemiterator","dict_reverseitemiterator","odict_iterator","itertools.zip_longest","itertools.pairwise"].contains n=false)(hQ:Q () s):wpAny M A (letOwnedTupleGo tg 0x88 u) Q E s:=by
 unfold letOwnedTupleGo;cases tg<;>first
  |exact A0n hQ
  | (cases u<;>first
    |exact A0n hQ
    | (refine A0a (wpAny_load ho ?_)
       rw[hc,hd]
       show wpAny M A (if(["enumerate","zip","dict_itemiterator","dict_reverseitemiterator","odict_iterator","itertools.zip_longest","itertools.pairwise"].contains n&&vs[0]?==some (rawInt _))=true then _ else _) Q E s
       rw[A0f (by intro h;rw[hn,A3H]at h;cases h)];exact A0n hQ))
def Itl(K:PySem.W.Frag)(a:Addr):It:=
 ⟨fun i H=>∃xs x,bY K H a xs/\xs[i]?=some x,fun i H x H'=>H'=H/\∀xs,bY K H a xs->xs[i]?=some x,fun i H=>∃xs,bY K H a xs/\xs.length<=i⟩
def Itr(lo:Int)(n:Nat):It:=⟨fun i _=>i<n,fun i H x H'=>H'=H/\x=.int (lo+i),fun i _=>n<=i⟩
def Mt(a it:Addr):Turn P w K tg (Itl K a) [it] it (fun i h=>h.IsListIter it a i) where
 mem:=by simp
 obj:=fun i h st b hb=>by
  have e:b=it:=by simpa using hb
  subst e;obtain⟨o,e,c,d⟩:=st;exact⟨o,e,fun v z=>by rw[d]at z;cases z⟩
 keep:=fun i h h' st k=>st.at fun o e=>k it 0xA o e
 item:=by
  intro X hP hw hK hc i pins s σ H E I hf st hg;subst hP hw hK;obtain⟨xs,x,hq,hx⟩:=hg;obtain⟨its,rv,p,hz⟩:=I.list hq;obtain⟨u,hu,ru⟩:=rv.get hx;obtain⟨f0,f1,f2,f3,f4,f5⟩:=hf it 0xA;refine wpAny_pyNext_list_item st p.isList (x:=u) (by simpa using hu) fun h' st' sb=>?_;have I1:Inv X pins σ H {s with heap:=h'}:=I.turned (t':=s.toks) (fun b o hb e=>(sb.2 b hb).trans e) f0 f1 f3 f4 f5;obtain⟨o,e,c,d⟩:=id st';exact⟨u,rfl,Qg (s:={s with heap:=h'}) e c d 0x5 ⟨x,H,I1,ru,⟨rfl,fun ys hy=>by rw[I.Qc hy hq];exact hx⟩,st',fun b hb=>(hf b hb).1⟩⟩
 done:=by
  intro X hP hw hK hc i pins s σ H E I hf st hg;subst hP hw hK;obtain⟨xs,hq,hx⟩:=hg;obtain⟨its,rv,p,hz⟩:=I.list hq;obtain⟨f0,f1,f2,f3,f4,f5⟩:=hf it 0xA;have hl:=rv.length;exact wpAny_pyNext_list_end (I.ok.hd hc) st p.isList (by simp;lia) fun h' eb=>⟨rfl,I.turned (t':=s.toks) (fun b o hb e=>eb b o hb e) f0 f1 f3 f4 f5⟩
 self:=fun _ _ _ _ _ st h=>wpAny_pyIter_listiter st h
def Gd(it:Addr)(lo:Int)(n:Nat):Turn P w K tg (Itr lo n) [it] it (fun i h=>IsRangeIter h it (lo+(i:Nat)*1) ((n:Int)-(i:Nat)) 1) where
 mem:=by simp
 obj:=fun i h st b hb=>by
  have e:b=it:=by simpa using hb
  subst e;exact⟨_,st,fun v z=>by
   have z':Data.fields _=Data.cell v:=z;cases z'⟩
 keep:=fun i h h' st k=>k it 0xA _ st
 item:=by
  intro X hP hw hK hc i pins s σ H E I hf st hg;subst hP hw hK;obtain⟨f0,f1,f2,f3,f4,f5⟩:=hf it 0xA;have W:=Walks.range (prog:=X.prog) (w:=X.w) (I.ok.hd hc) it lo 1 n;refine W.item i s _ _ hg st fun v h' tk hv st' kk=>?_;obtain⟨t,rfl⟩:=hv;have I1:Inv X pins σ H {s with heap:=h',toks:=tk}:=I.turned (fun b o hb e=>kk b o (by simpa using hb) e) f0 f1 f3 f4 f5;refine⟨_,rfl,Qg (s:={s with heap:=h',toks:=tk}) (n:="range_iterator") st' rfl rfl 0x5 ⟨.int (lo+i),H,I1,⟨t,?_⟩,⟨rfl,rfl⟩,st',fun b hb=>(hf b hb).1⟩⟩;rw[Int.mul_one]
 done:=by
  intro X hP hw hK hc i pins s σ H E I hf st hg;subst hP hw hK;obtain⟨f0,f1,f2,f3,f4,f5⟩:=hf it 0xA;exact wpAny_pyNext_range_end (I.ok.hd hc) st (by have:n<=i:=hg;lia) fun h' eb=>⟨rfl,I.turned (t':=s.toks) (fun b o hb e=>eb b o hb e) f0 f1 f3 f4 f5⟩
 self:=fun _ _ _ _ _ st h=>wpAny_pyIter_rangeiter st h
inductive Js(K:W.Frag)(R:It->Hp->Prop)(x:V)(H1:Hp):Prop
 |mk(a:Addr)(_:x=.ref a)(_:(∃xs,bY K H1 a xs))(_:R (Itl K a) H1):Js K R x H1
def a2A(K:PySem.W.Frag)(tl:TE):TI:=fun σ H R=>tl σ H fun x H1=>Js K R x H1
def fu{l:Expr}(hl:PE X l tl):PI X tg l (a2A X.K tl):=by
 intro pins s σ H R I h;refine cP (hl pins s σ H _ I h) fun v s1 zq=>?_;obtain⟨x,H1,I1,r1,q1⟩:=zq;obtain⟨a,e,⟨xs,hq⟩,q⟩:=q1;subst e;cases r1;obtain⟨its,rv,p,hz⟩:=I1.list hq;refine A4r p.isList ?_;refine⟨s1.heap.objs.size,[s1.heap.objs.size],_,_,H1,rfl,I1.kept (t':=s1.toks) fun b o e=>A0c _ e,Mt a _,⟨_,A0x _ rfl,rfl,rfl⟩,fun b hb=>?_,q⟩;have e:b=s1.heap.objs.size:=by simpa using hb
 subst e;exact I1.zc 0x33 (I1.hok.fresh 0x33)
def Qh{R:It->Hp->Prop}{t u v:Tok}{tk:Nat}(I:Inv X pins σ H s)(h1:-(2^62)<=lo)(h2:lo<2^62)(h3:-(2^62)<=hi)(h4:hi<2^62)
  (q:R (Itr lo (hi-lo).toNat) H):wpAny 0x9 X.A (pyIter 0x30) (PIE X pins σ tg R) E {s with heap:=s.heap.push {cls:=.type "range",data:=.fields #[.int lo t,.int hi u,.int 1 v]},toks:=tk}:=by
 refine wpAny_pyIter_range (IsRange.new ..) (small_one h1 h2 h3 h4) ?_;have I1:Inv X pins σ H {s with heap:=s.heap.push {cls:=.type "range",data:=.fields #[.int lo t,.int hi u,.int 1 v]},toks:=tk}:=I.kept fun b o e=>A0c _ e;refine⟨(s.heap.push {cls:=.type "range",data:=.fields #[.int lo t,.int hi u,.int 1 v]}).objs.size,[(s.heap.push {cls:=.type "range",data:=.fields #[.int lo t,.int hi u,.int 1 v]}).objs.size],_,_,H,rfl,
  I1.kept (t':=tk) fun b o e=>A0c _ e,Gd _ lo (hi-lo).toNat,?_,fun b hb=>?_,q⟩
 ·have e1:lo+((0:Nat):Int)*1=lo:=by simp
  have e2:(((hi-lo).toNat:Nat):Int)-((0:Nat):Int)=Builtin.Range.rangeSize lo hi 1:=by rw[rangeSize_one];split<;>lia
  show IsRangeIter _ _ (lo+((0:Nat):Int)*1) ((((hi-lo).toNat:Nat):Int)-((0:Nat):Int)) 1
  rw[e1,e2];exact A0x _ rfl
 ·have e:b=(s.heap.push {cls:=.type "range",data:=.fields #[.int lo t,.int hi u,.int 1 v]}).objs.size:=by simpa using hb
  subst e;exact I1.zc 0x33 (I1.hok.fresh 0x33)
inductive Jt(R:It->Hp->Prop)(vs:List V)(H1:Hp):Prop
 |mk(j:Int)(_:vs=[.int j])(_:-(2^62)<=j)(_:j<2^62)(_:R (Itr 0 j.toNat) H1):Jt R vs H1
def a2B(ta:TA):TI:=fun σ H R=>ta σ H fun vs H1=>Jt R vs H1
def lJ{a:Expr}{ta:TA}{p:Pos}(hg:Gl X "range")(hm:X.mg "range"=none)(ha:PA X [a] ta)(hs:starEach [a] X.env=[(false,eval a X.env)]:=by rfl):PI X tg (.Call (.Name "range" p) [a] [] pos) (a2B ta):=by
 intro pins s σ H R I h;refine Call_ (rG I hg hm boot_range (A3b (cP 0x6C fun us s1 ⟨vs,H1,I1,r1,q1⟩=>?_) hs rfl));obtain⟨j,e,q1,q2,q⟩:=q1;subst e;cases r1 with
 | cons r rr=>
  cases rr;obtain⟨t,rfl⟩:=r;exact call_range_1 (Qh I1 0x4 0x4 q1 q2 (by simpa using q))
def tFor(wi:TI)(g:TG)(tb:TS):TS:=fun D σ H=>wi σ H fun J H1=>∃W:Nat->Nat->St->Hp->Prop,(∃m,W 0 m σ H1)/\∀i m σ H,W i m σ H->
 (J.stop i H/\D.nx σ H)\/(J.go i H/\∃N:St->Hp->Prop,(∀σ' H',N σ' H'->∃m',m'<m/\W (i+1) m' σ' H')/\∀x H',J.Pk i H x H'->g x σ H' fun σ2 H2=>tb {D with nx:=N,ct:=N,bk:=D.nx} σ2 H2)
def uK(fp:List Addr)(h:Heap):List 0x1E:=fp.filterMap fun b=>(h.get? b).map fun o=>(b,o)
def jc{o:Obj}(hb:b∈fp)(e:h.get? b=some o):(b,o)∈uK fp h:=A3t.mpr ⟨b,hb,by rw[e];rfl⟩
def Mu{p:Addr×Obj}(hp:p∈uK fp h):p.1∈fp/\h.get? p.1=some p.2:=by
 obtain⟨b,hb,e⟩:=A3t.mp hp;cases q:h.get? b with
 |none=>rw[q]at e;cases e
 | some o=>
  rw[q]at e;have e':(b,o)=p:=A1b e;subst e';exact⟨hb,q⟩
def Inv.pinned(I:Inv X pins σ H s)(hf:∀b∈fp,jO X pins H b)(ho:∀b∈fp,∃o,s.heap.get? b=some o/\∀v,o.data≠.cell v):Inv X (pins++uK fp s.heap) σ H s:=
 I.Jp fun p hp=>(A0l.mp hp).elim (fun z=>I.pin p (A0G _ z)) fun z=>by
  obtain⟨hb,e⟩:=Mu z;obtain⟨f0,f1,f2,_⟩:=hf p.1 hb;obtain⟨o,e',d⟩:=ho p.1 hb;rw[e]at e';cases e';exact⟨e,f0,f1,f2,d⟩
def Inv.nQ{pl:List 0x1E}(I:Inv X (pins++pl) σ H s):Inv X pins σ H s:=I.Jp fun p hp=>I.pin p (A0G _ (A0W _ hp))
def gF(hp:PassesOwn 0x9 X.A X.env X.xe)(hc:X.calm=true)(hi:PI X tg iter wi)(hg:PG X tg g)(hb:BP X body tb)
  (hs:∀x,foldedSetIterable iter X.env x=pure x:=by intro _;rfl):PS X (.For tg iter body [] pos) (tFor wi g tb):=by
 intro pins s σ H D I h;refine wpAny_For (cP (hi pins s σ H _ I h) fun v s1 h1=>cP h1 fun itv s2 h2=>?_) hs;obtain⟨it,fp,tn,J,H2,e,I2,T,st2,f2,W,⟨m0,w0⟩,turn⟩:=h2;subst e;have stat:∀{H':Hp},(∀b∈fp,H' b=none)->∀b∈fp,jO X pins H' b:=fun hn b hb=>⟨hn b hb,(f2 b hb).2⟩;refine codeAny_forLoop_any (fun n s'=>∃i σ' H',Inv X pins σ' H' s'/\tn i s'.heap/\(∀b∈fp,H' b=none)/\W i n σ' H') ?_ m0 ⟨0,σ,H2,I2,st2,fun b hb=>(f2 b hb).1,w0⟩;rintro n s3 ⟨i,σ3,H3,I3,st3,fr3,w3⟩;rcases turn i n σ3 H3 w3 with⟨stop,qn⟩|⟨go,N,hN,step⟩
 ·refine A2s hp (cP (T.done X rfl rfl rfl hc i pins s3 σ3 H3 X.xe I3 (stat fr3) st3 stop) fun r s4 zq=>?_);obtain⟨hr,I4⟩:=zq;subst hr;exact A3r ⟨σ3,H3,I4,qn⟩
 ·refine A2s hp (cP (T.item X rfl rfl rfl hc i pins s3 σ3 H3 X.xe I3 (stat fr3) st3 go) fun r s4 zq=>?_);obtain⟨u,hr,h4⟩:=zq;subst hr;refine A2s hp (cP h4 fun _ s5 zq=>?_);obtain⟨x,H5,I5,r5,y5,st5,fr5⟩:=zq;have I5':=I5.pinned (stat fr5) (T.obj _ _ st5);refine A2s hp (cP (hg _ s5 σ3 H5 x u _ I5' r5 (step x H5 y5)) fun _ s6 zq=>?_);obtain⟨σ6,H6,I6,q6⟩:=zq;refine A2s hp (cP (hb _ s6 σ6 H6 _ I6 q6) fun f s7 q7=>?_);have again:∀{σ7:St}{H7:Hp},Inv X (pins++uK fp s5.heap) σ7 H7 s7->N σ7 H7->∃m,m<n/\∃i σ' H',Inv X pins σ' H' s7/\tn i s7.heap/\(∀b∈fp,H' b=none)/\W i m σ' H':=fun{σ7 H7}I7 n7=>by
   obtain⟨m',hm,w7⟩:=hN σ7 H7 n7;refine⟨m',hm,i+1,σ7,H7,I7.nQ,T.keep _ _ _ st5 fun b hb o e=>(I7.pin (b,o) (A0G _ (A0G _ (jc hb e)))).1,fun b hb=>?_,w7⟩;obtain⟨o,e,d⟩:=T.obj _ _ st5 b hb;exact(I7.pin (b,o) (A0G _ (A0G _ (jc hb e)))).2.1
  cases f with
  |next=>obtain⟨σ7,H7,I7,n7⟩:=q7;exact again I7 n7
  |cont=>obtain⟨σ7,H7,I7,n7⟩:=q7;exact again I7 n7
  |brk=>obtain⟨σ7,H7,I7,q7⟩:=q7;exact⟨σ7,H7,I7.nQ,q7⟩
  |ret v=>obtain⟨x7,σ7,H7,I7,r7,q7⟩:=q7;exact⟨x7,σ7,H7,I7.nQ,r7,q7⟩
def gA(Pv:Nat->St->Hp->Prop)(h0:Pv 0 σ H)(hl:∀i σ H,i<=xs.length->Pv i σ H->bY K H a xs)
  (hs:∀i x σ H,xs[i]?=some x->Pv i σ H->g x σ H fun σ2 H2=>tb {D with nx:=Pv (i+1),ct:=Pv (i+1),bk:=D.nx} σ2 H2)(hd:∀σ H,Pv xs.length σ H->D.nx σ H):
  ∃ W:Nat->Nat->St->Hp->Prop,(∃m,W 0 m σ H)/\∀i m σ H,W i m σ H->
   ((Itl K a).stop i H/\D.nx σ H)\/((Itl K a).go i H/\∃N:St->Hp->Prop,(∀σ' H',N σ' H'->∃m',m'<m/\W (i+1) m' σ' H')/\∀x H',(Itl K a).Pk i H x H'->g x σ H' fun σ2 H2=>tb {D with nx:=N,ct:=N,bk:=D.nx} σ2 H2):=by
 refine⟨fun i m σ H=>m=xs.length-i/\i<=xs.length/\Pv i σ H,⟨xs.length,by simp,A1j _,h0⟩,?_⟩;rintro i m σ H ⟨rfl,hi,p⟩;have q:=hl i σ H hi p
 by_cases hlt:i<xs.length
 ·refine .inr ⟨⟨xs,xs[i],q,by simp[hlt]⟩,Pv (i+1),fun σ' H' p'=>⟨xs.length-(i+1),by lia,rfl,hlt,p'⟩,fun x H' y=>?_⟩;obtain⟨e,y⟩:=y;subst e;exact hs i x σ _ (y xs q) p
 ·have e:i=xs.length:=by lia
  subst e;exact .inl ⟨⟨xs,q,A0g _⟩,hd σ H p⟩
def oU(Pv:Nat->St->Hp->Prop)(h0:Pv 0 σ H)
  (hs:∀i σ H,i<n->Pv i σ H->g (.int (lo+i)) σ H fun σ2 H2=>tb {D with nx:=Pv (i+1),ct:=Pv (i+1),bk:=D.nx} σ2 H2)(hd:∀σ H,Pv n σ H->D.nx σ H):
  ∃ W:Nat->Nat->St->Hp->Prop,(∃m,W 0 m σ H)/\∀i m σ H,W i m σ H->
   ((Itr lo n).stop i H/\D.nx σ H)\/((Itr lo n).go i H/\∃N:St->Hp->Prop,(∀σ' H',N σ' H'->∃m',m'<m/\W (i+1) m' σ' H')/\∀x H',(Itr lo n).Pk i H x H'->g x σ H' fun σ2 H2=>tb {D with nx:=N,ct:=N,bk:=D.nx} σ2 H2):=by
 refine⟨fun i m σ H=>m=n-i/\i<=n/\Pv i σ H,⟨n,by simp,A1j _,h0⟩,?_⟩;rintro i m σ H ⟨rfl,hi,p⟩
 by_cases hlt:i<n
 ·refine .inr ⟨hlt,Pv (i+1),fun σ' H' p'=>⟨n-(i+1),by lia,rfl,hlt,p'⟩,fun x H' y=>?_⟩;obtain⟨e,y⟩:=y;subst e y;exact hs i σ _ hlt p
 ·have e:i=n:=by lia
  subst e;exact .inl ⟨A0g _,hd σ H p⟩
def Cm{c:TT}(Pv:St->Hp->Prop)(μ:St->Hp->Nat)(h0:Pv σ H)
  (hs:∀σ H,Pv σ H->c σ H fun b H1=>if b=true then tb {D with nx:=fun σ' H'=>Pv σ' H'/\μ σ' H'<μ σ H,ct:=fun σ' H'=>Pv σ' H'/\μ σ' H'<μ σ H,bk:=D.nx} σ H1 else D.nx σ H1)
  (mono:∀σ H Q Q',(∀b H1,Q b H1->Q' b H1)->c σ H Q->c σ H Q'):Qf c tb D σ H:=by
 refine⟨fun m σ H=>m=μ σ H/\Pv σ H,⟨_,rfl,h0⟩,?_⟩;rintro m σ H ⟨rfl,p⟩;refine mono σ H _ _ (fun b H1 q=>?_) (hs σ H p);cases b with
 |true=>exact⟨_,fun σ' H' ⟨p',l⟩=>⟨_,l,rfl,p'⟩,q⟩
 |false=>exact q
abbrev R2:=V->V->Hp->VK->Prop
def lK(X:Cx)(f:Value->Value->Sem Value)(r:R2):Prop:=
 ∀ (pins:List 0x1E)(s:Shared)(σ:St)(H:Hp)(x y:V)(v u:Value)(Q:VK),Inv X pins σ H s->RelV x v->RelV y u->r x y H Q->
  wpAny 0x9 X.A (f v u) 0x37 X.xe s
def UnR(X:Cx)(f:Value->Sem Value)(r:V->Hp->VK->Prop):Prop:=
 ∀ (pins:List 0x1E)(s:Shared)(σ:St)(H:Hp)(x:V)(v:Value)(Q:VK),Inv X pins σ H s->RelV x v->r x H Q->
  wpAny 0x9 X.A (f v) 0x37 X.xe s
def gO(X:Cx)(f:Value)(r:List V->Hp->VK->Prop):Prop:=
 ∀ (pins:List 0x1E)(s:Shared)(σ:St)(H:Hp)(xs:List V)(us:List Value)(Q:VK),Inv X pins σ H s->Vals xs us->r xs H Q->
  wpAny 0x9 X.A (call f us) 0x37 X.xe s
def tOp(r:R2)(ta tb:TE):TE:=fun σ H Q=>ta σ H fun x H1=>tb σ H1 fun y H2=>r x y H2 Q
def tUn(r:V->Hp->VK->Prop)(ta:TE):TE:=fun σ H Q=>ta σ H fun x H1=>r x H1 Q
inductive rI(C:Int->Int->Prop)(g:Int->Int->V)(x y:V)(H:Hp)(Q:VK):Prop
 |mk(i j:Int)(_:x=.int i)(_:y=.int j)(_:C i j)(_:Q (g i j) H):rI C g x y H Q
inductive Wm(g:Int->Int->V)(x y:V)(H:Hp)(Q:VK):Prop
 |mk(i j:Int)(_:x=.int i)(_:y=.int j)(_:Q (g i j) H):Wm g x y H Q
inductive rU(g:Int->V)(x:V)(H:Hp)(Q:VK):Prop
 |mk(i:Int)(_:x=.int i)(_:Q (g i) H):rU g x H Q
section
variable{a b c:Expr}{tb tc:TE}
def a0q(ha:PE X a ta)(hb:PE X b tb){R:V->V->Hp->Prop}(I:Inv X pins σ H s)
  (h:ta σ H fun x H1=>tb σ H1 fun y H2=>R x y H2){f:Value->Value->Sem Value}
  (hf:∀v u s2 x y H2,Inv X pins σ H2 s2->RelV x v->RelV y u->R x y H2->wpAny 0x9 X.A (f v u) Q X.xe s2):
  wpAny 0x9 X.A (eval a X.env) (fun v s₁=>wpAny 0x9 X.A (eval b X.env) (fun u s₂=>wpAny 0x9 X.A (f v u) Q X.xe s₂) X.xe s₁) X.xe s:=by
 refine cP 0x3E fun v s1 zq=>?_;obtain⟨x,H1,I1,r1,q1⟩:=zq;refine cP (hb pins s1 σ H1 _ I1 q1) fun u s2 zq=>?_;obtain⟨y,H2,I2,r2,q2⟩:=zq;exact hf v u s2 x y H2 I2 r1 r2 q2
def aX{op:Operator}{r:R2}(ho:lK X (binaryOp op) r)(ha:PE X a ta)(hb:PE X b tb):PE X (.BinOp a op b pos) (tOp r ta tb):=by
 intro pins s σ H Q I h;exact wpAny_BinOp (a0q ha hb I h fun v u s2 x y H2 I2 rx ry q=>ho pins s2 σ H2 x y v u Q I2 rx ry q)
def uL{op:UnaryOp}{r:V->Hp->VK->Prop}(ho:UnR X (unaryOp op) r)(ha:PE X a ta):PE X (.UnaryOp op a pos) (tUn r ta):=by
 intro pins s σ H Q I h;exact UnaryOp_ (cP 0x3E fun v s1 ⟨x,H1,I1,r1,q1⟩=>ho pins s1 σ H1 x v Q I1 r1 q1)
def opI{f:Value->Value->Sem Value}{C:Int->Int->Prop}{g:Int->Int->Int}
  (rule:∀(i j:Int)(t u:Tok)(s:Shared)(Q:Value->Shared->Prop)(E:Value->Shared->Prop),C i j->Q (.int (g i j) s.toks) {s with toks:=s.toks+1}->wpAny 0x9 X.A (f (.int i t) (.int j u)) Q E s):
  lK X f (rI C fun i j=>.int (g i j)):=by
 intro pins s σ H x y v u Q I rx ry h;obtain⟨i,j,rfl,rfl,hc,q⟩:=h;obtain⟨t,rfl⟩:=rx;obtain⟨t',rfl⟩:=ry;exact rule i j t t' s _ _ hc ⟨.int (g i j),H,I.tok _,⟨_,rfl⟩,q⟩
def opI0{f:Value->Value->Sem Value}{g:Int->Int->Int}
  (rule:∀(i j:Int)(t u:Tok)(s:Shared)(Q:Value->Shared->Prop)(E:Value->Shared->Prop),Q (.int (g i j) s.toks) {s with toks:=s.toks+1}->wpAny 0x9 X.A (f (.int i t) (.int j u)) Q E s):
  lK X f (Wm fun i j=>.int (g i j)):=by
 intro pins s σ H x y v u Q I rx ry h;obtain⟨i,j,rfl,rfl,q⟩:=h;obtain⟨t,rfl⟩:=rx;obtain⟨t',rfl⟩:=ry;exact rule i j t t' s _ _ ⟨.int (g i j),H,I.tok _,⟨_,rfl⟩,q⟩
def a0r{f:Value->Value->Sem Value}{g:Int->Int->Bool}
  (rule:∀(i j:Int)(t u:Tok)(s:Shared)(Q:Value->Shared->Prop)(E:Value->Shared->Prop),Q (.bool (g i j)) s->wpAny 0x9 X.A (f (.int i t) (.int j u)) Q E s):
  lK X f (Wm fun i j=>.bl (g i j)):=by
 intro pins s σ H x y v u Q I rx ry h;obtain⟨i,j,rfl,rfl,q⟩:=h;obtain⟨t,rfl⟩:=rx;obtain⟨t',rfl⟩:=ry;exact rule i j t t' s _ _ ⟨.bl (g i j),H,I,rfl,q⟩
def CDiv(i j:Int):Prop:=0<j/\j<1073741824
def CPow(i j:Int):Prop:=0<=j/\j<=1000000/\i.natAbs<2^64
def a0s(i j:Int):Prop:=(-(2^64)<i/\i<2^64)\/(-(2^64)<j/\j<2^64)
def a0s.ok{i j:Int}(h:a0s i j):IntMulOk i j:=by
 rcases h with⟨h1,h2⟩|⟨h1,h2⟩
 ·exact .of_left (intBits_le_64 h1 h2)
 ·exact .of_right (intBits_le_64 h1 h2)
def dY:lK X (binaryOp .Add) (Wm fun i j=>.int (i+j)):=opI0 fun _ _ _ _ _ _ _ q=>add_int q
def nR:lK X (binaryOp .Sub) (Wm fun i j=>.int (i-j)):=opI0 fun _ _ _ _ _ _ _ q=>sub_int q
def lB:lK X (binaryOp .Mult) (rI a0s fun i j=>.int (i*j)):=opI fun _ _ _ _ _ _ _ hc q=>mul_int q hc.ok
def mj:lK X (binaryOp .FloorDiv) (rI CDiv fun i j=>.int (i/j)):=opI fun i j _ _ _ _ _ hc q=>by
 have h1:(0:Int)<j:=hc.1;have h2:j<1073741824:=hc.2;exact floordiv_int 0x4 (by rw[Int.fdiv_eq_ediv_of_nonneg i 0x4];exact q) (.inl (PyProof.noPylong_small 0x4))
def bV:lK X (binaryOp .Mod) (rI (fun _ j=>0<j) fun i j=>.int (i%j)):=opI fun i j _ _ _ _ _ hc q=>by
 have h1:(0:Int)<j:=hc;exact mod_int' 0x4 (by rw[Int.fmod_eq_emod_of_nonneg i 0x4];exact q)
def a0t:lK X (binaryOp .Pow) (rI CPow fun i j=>.int (i^j.toNat)):=opI fun _ _ _ _ _ _ _ hc q=>pow_int_small hc.1 hc.2.1 hc.2.2 q
def unI{f:Value->Sem Value}{g:Int->Int}
  (rule:∀(i:Int)(t:Tok)(s:Shared)(Q:Value->Shared->Prop)(E:Value->Shared->Prop),Q (.int (g i) s.toks) {s with toks:=s.toks+1}->wpAny 0x9 X.A (f (.int i t)) Q E s):
  UnR X f (rU fun i=>.int (g i)):=by
 intro pins s σ H x v Q I rx h;obtain⟨i,rfl,q⟩:=h;obtain⟨t,rfl⟩:=rx;exact rule i t s _ _ ⟨.int (g i),H,I.tok _,⟨_,rfl⟩,q⟩
def pR:UnR X (unaryOp .USub) (rU fun i=>.int (-i)):=unI fun _ _ _ _ _ q=>neg_int q
def Qi:V->V->Bool
 | .non,.non=>true| .non,.int _=>true| .int _,.non=>true| .non,.bl _=>true| .bl _,.non=>true| .non,.str _=>true| .str _,.non=>true
 | .int _,.int _=>true| .bl _,.bl _=>true| .str _,.str _=>true| .Mj _,.Mj _=>true
 | .int _,.str _=>true| .str _,.int _=>true| .bl _,.str _=>true| .str _,.bl _=>true
 |_,_=>false
def rEq:R2:=fun x y H Q=>Qi x y=true/\Q (.bl (decide (x=y))) H
def rNe:R2:=fun x y H Q=>Qi x y=true/\Q (.bl (!decide (x=y))) H
def tO{i j:Int}:decide (V.int i=V.int j)=(i==j):=by
 rw[A1h];simp
def Qj{i j:Bool}:decide (V.bl i=V.bl j)=(i==j):=by
 rw[A1h];simp
def gZ{i j:Str}:decide (V.str i=V.str j)=(i==j):=by
 rw[A1h];simp
def Ju{i j:Array UInt8}:decide (V.Mj i=V.Mj j)=(i.toList==j.toList):=by
 rw[A1h];cases i;cases j;simp
def cF{Q:VK}{k k':Bool}(I:Inv X pins σ H s)(q:Q (.bl k) H)(e:k=k'):EP X pins σ Q (.bool k') s:=by
 subst e;exact⟨.bl k,H,I,rfl,q⟩
def fJ:lK X (compareOp .Eq) rEq:=by
 intro pins s σ H x y v u Q I rx ry h;obtain⟨hs,q⟩:=h;cases x with
 | non=>
  cases rx;cases y with
  |non=>cases ry;exact PySem.EqNone.eq_none_none 0x3F
  |bl j=>cases ry;exact PySem.EqNone.eq_none_bool 0x3F
  |int j=>obtain⟨t',rfl⟩:=ry;exact PySem.EqNone.eq_none_int 0x3F
  |str j=>obtain⟨t',rfl⟩:=ry;exact PySem.EqNone.eq_none_str 0x3F
  |_=>exact absurd 0x2E A0r
 | bl i=>
  cases rx;cases y with
  |non=>cases ry;exact PySem.EqNone.eq_bool_none 0x3F
  |bl j=>cases ry;exact eq_bool (cF I q Qj)
  |str j=>obtain⟨t',rfl⟩:=ry;exact PySem.EqMixed.eq_bool_str 0x3F
  |_=>exact absurd 0x2E A0r
 | int i=>
  obtain⟨t,rfl⟩:=rx;cases y with
  |non=>cases ry;exact PySem.EqNone.eq_int_none 0x3F
  |int j=>obtain⟨t',rfl⟩:=ry;exact eq_int (cF I q tO)
  |str j=>obtain⟨t',rfl⟩:=ry;exact PySem.EqMixed.eq_int_str 0x3F
  |_=>exact absurd 0x2E A0r
 | str i=>
  obtain⟨t,rfl⟩:=rx;cases y with
  |non=>cases ry;exact PySem.EqNone.eq_str_none 0x3F
  |bl j=>cases ry;exact PySem.EqMixed.eq_str_bool 0x3F
  |int j=>obtain⟨t',rfl⟩:=ry;exact PySem.EqMixed.eq_str_int 0x3F
  |str j=>obtain⟨t',rfl⟩:=ry;exact eq_str (cF I q gZ)
  |_=>exact absurd 0x2E A0r
 | Mj i=>
  obtain⟨t,rfl⟩:=rx;cases y with
  |Mj j=>obtain⟨t',rfl⟩:=ry;exact PySem.W.eq_bytes (cF I q Ju)
  |_=>exact absurd 0x2E A0r
 |_=>cases y<;>exact absurd 0x2E A0r
def nU:lK X (compareOp .NotEq) rNe:=by
 intro pins s σ H x y v u Q I rx ry h;obtain⟨hs,q⟩:=h;cases x with
 | non=>
  cases rx;cases y with
  |non=>cases ry;exact PySem.EqNone.ne_none_none 0x3F
  |bl j=>cases ry;exact PySem.EqNone.ne_none_bool 0x3F
  |int j=>obtain⟨t',rfl⟩:=ry;exact PySem.EqNone.ne_none_int 0x3F
  |str j=>obtain⟨t',rfl⟩:=ry;exact PySem.EqNone.ne_none_str 0x3F
  |_=>exact absurd 0x2E A0r
 | bl i=>
  cases rx;cases y with
  |non=>cases ry;exact PySem.EqNone.ne_bool_none 0x3F
  |bl j=>cases ry;exact ne_bool (cF I q (A1R not Qj))
  |str j=>obtain⟨t',rfl⟩:=ry;exact PySem.EqMixed.ne_bool_str 0x3F
  |_=>exact absurd 0x2E A0r
 | int i=>
  obtain⟨t,rfl⟩:=rx;cases y with
  |non=>cases ry;exact PySem.EqNone.ne_int_none 0x3F
  |int j=>obtain⟨t',rfl⟩:=ry;exact ne_int (cF I q (A1R not tO))
  |str j=>obtain⟨t',rfl⟩:=ry;exact PySem.EqMixed.ne_int_str 0x3F
  |_=>exact absurd 0x2E A0r
 | str i=>
  obtain⟨t,rfl⟩:=rx;cases y with
  |non=>cases ry;exact PySem.EqNone.ne_str_none 0x3F
  |bl j=>cases ry;exact PySem.EqMixed.ne_str_bool 0x3F
  |int j=>obtain⟨t',rfl⟩:=ry;exact PySem.EqMixed.ne_str_int 0x3F
  |str j=>obtain⟨t',rfl⟩:=ry;exact ne_str (cF I q (A1R not gZ))
  |_=>exact absurd 0x2E A0r
 | Mj i=>
  obtain⟨t,rfl⟩:=rx;cases y with
  |Mj j=>obtain⟨t',rfl⟩:=ry;exact PySem.W.ne_bytes (cF I q (A1R not Ju))
  |_=>exact absurd 0x2E A0r
 |_=>cases y<;>exact absurd 0x2E A0r
def ql:lK X (compareOp .Lt) (Wm fun i j=>.bl (decide (i<j))):=a0r fun _ _ _ _ _ _ _ q=>lt_int q
def sE:lK X (compareOp .LtE) (Wm fun i j=>.bl (decide (i<=j))):=a0r fun _ _ _ _ _ _ _ q=>le_int q
def Qk:lK X (compareOp .Gt) (Wm fun i j=>.bl (decide (j<i))):=a0r fun _ _ _ _ _ _ _ q=>gt_int q
def Ql:lK X (compareOp .Is) (fun x y H Q=>y=.non/\Q (.bl (decide (x=.non))) H):=by
 intro pins s σ H x y v u Q I rx ry h;obtain⟨rfl,q⟩:=h;cases ry;refine is_none_gen (cF I q ?_);cases x<;>first
  |(cases rx;rfl)
  |(obtain⟨t,rfl⟩:=rx;rfl)
def Wx:lK X (compareOp .IsNot) (fun x y H Q=>y=.non/\Q (.bl (!decide (x=.non))) H):=by
 intro pins s σ H x y v u Q I rx ry h;obtain⟨rfl,q⟩:=h;cases ry;refine isnot_none_gen (cF I q ?_);cases x<;>first
  |(cases rx;rfl)
  |(obtain⟨t,rfl⟩:=rx;rfl)
def bF(b:Expr)(h:op≠.In:=by decide)(h2:op≠.NotIn:=by decide):behindInMarks op b=false:=by
 have e1:(op==CmpOp.In)=false:=by cases op<;>first|rfl|exact absurd rfl h
 have e2:(op==CmpOp.NotIn)=false:=by cases op<;>first|rfl|exact absurd rfl h2
 cases b<;>simp[behindInMarks,e1,e2]
def jA{r:R2}(ho:lK X (compareOp op) r)(ha:PE X a ta)(hb:PE X b tb)(hm:behindInMarks op b=false):PE X (.Compare a [op] [b] pos) (tOp r ta tb):=by
 intro pins s σ H Q I h;exact wpAny_Compare1 (a0q ha hb I h fun v u s2 x y H2 I2 rx ry q=>ho pins s2 σ H2 x y v u Q I2 rx ry q) hm
inductive Jv(Q:Bool->Hp->Prop)(x:V)(H':Hp):Prop
 |mk(k:Bool)(_:x=.bl k)(_:Q k H'):Jv Q x H'
def Qo(t:TE):TT:=fun σ H Q=>t σ H fun x H'=>Jv Q x H'
def aU{r:R2}(ho:lK X (compareOp op) r)(ha:PE X a ta)(hb:PE X b tb)(hm:behindInMarks op b=false):PT X (.Compare a [op] [b] pos) (Qo (tOp r ta tb)):=by
 intro pins s σ H Q I h;refine wpAny_isTrue_Compare1 (cP 0x3E fun v s1 ⟨x,H1,I1,r1,q1⟩=>cP (hb pins s1 σ H1 _ I1 q1) fun u s2 ⟨y,H2,I2,r2,q2⟩=>
  cP (ho pins s2 σ H2 x y v u _ I2 r1 r2 q2) fun c s3 ⟨z,H3,I3,r3,k,e,q3⟩=>?_) hm
 subst e;cases r3;exact A1M ⟨H3,I3,q3⟩
inductive Cp(r':R2)(tc:TE)(σ:L2.St)(Q:VK)(y z:V)(H3:Hp):Prop
 |mk(k:Bool)(_:z=.bl k)(_:(if k=true then tc σ H3 fun w' H4=>r' y w' H4 Q else Q (.bl false) H3)):Cp r' tc σ Q y z H3
def Ge(r r':R2)(ta tb tc:TE):TE:=fun σ H Q=>ta σ H fun x H1=>tb σ H1 fun y H2=>r x y H2 fun z H3=>Cp r' tc σ Q y z H3
def Cq{op':CmpOp}{r r':R2}(ho:lK X (compareOp op) r)(ho':lK X (compareOp op') r')(ha:PE X a ta)(hb:PE X b tb)(hc:PE X c tc)
  (hm:lastMarks [op,op'] [b,c]=false:=by with_unfolding_all rfl):PE X (.Compare a [op,op'] [b,c] pos) (Ge r r' ta tb tc):=by
 intro pins s σ H Q I h;refine Compare_chain (cP 0x3E fun v s1 ⟨x,H1,I1,r1,q1⟩=>chain_link (cP (hb pins s1 σ H1 _ I1 q1) fun u s2 ⟨y,H2,I2,r2,q2⟩=>
  cP (ho pins s2 σ H2 x y v u _ I2 r1 r2 q2) fun d s3 ⟨z,H3,I3,r3,k,e,q3⟩=>?_)) hm
 subst e;cases r3;refine A1M ?_;cases k with
 |false=>exact ite_ff ⟨.bl false,H3,I3,rfl,q3⟩
 |true=>exact ite_tt (chain_last (cP (hc pins s3 σ H3 _ I3 q3) fun w' s4 ⟨z',H4,I4,r4,q4⟩=>ho' pins s4 σ H4 y z' u w' Q I4 r2 r4 q4))
def Cr{op':CmpOp}{r r':R2}(ho:lK X (compareOp op) r)(ho':lK X (compareOp op') r')(ha:PE X a ta)(hb:PE X b tb)(hc:PE X c tc)
  (hm:lastMarks [op,op'] [b,c]=false:=by with_unfolding_all rfl):PT X (.Compare a [op,op'] [b,c] pos) (Qo (Ge r r' ta tb tc)):=by
 intro pins s σ H Q I h;refine isTrue_chain (cP 0x3E fun v s1 ⟨x,H1,I1,r1,q1⟩=>test_link (cP (hb pins s1 σ H1 _ I1 q1) fun u s2 ⟨y,H2,I2,r2,q2⟩=>
  cP (ho pins s2 σ H2 x y v u _ I2 r1 r2 q2) fun d s3 ⟨z,H3,I3,r3,k,e,q3⟩=>?_)) hm
 subst e;cases r3;refine A1M ?_;cases k with
 | false=>
  obtain⟨k',e',q'⟩:=q3;cases e';exact ite_ff ⟨H3,I3,q'⟩
 | true=>
  refine ite_tt (test_last (cP (hc pins s3 σ H3 _ I3 q3) fun w' s4 ⟨z',H4,I4,r4,q4⟩=>cP (ho' pins s4 σ H4 y z' u w' _ I4 r2 r4 q4) fun d' s5 zq=>?_));obtain⟨z2,H5,I5,r5,k2,e2,q5⟩:=zq;subst e2;cases r5;exact A1M ⟨H5,I5,q5⟩
def uM:(sizeLine:Nat)<2^63:=by rw[A1v];decide
def uN:lK X (binaryOp .Add) (fun x y H Q=>∃i j,x=.str i/\y=.str j/\i.length+j.length<=sizeLine/\Q (.str (i++j)) H):=by
 intro pins s σ H x y v u Q I rx ry h;obtain⟨i,j,rfl,rfl,hz,q⟩:=h;obtain⟨t,rfl⟩:=rx;obtain⟨t',rfl⟩:=ry;exact add_str (fun t' tk=>⟨.str (i++j),H,I.tok _,⟨_,rfl⟩,q⟩) hz
def vals1{x:V}(r:Vals [x] us):∃u,us=[u]/\RelV x u:=by
 cases r with
 |cons r1 r2=>cases r2;exact⟨_,rfl,r1⟩
def vals2{x:V}(r:Vals [x,y] us):∃u w',us=[u,w']/\RelV x u/\RelV y w':=by
 cases r with
 | cons r1 r2=>
  cases r2 with
  |cons r3 r4=>cases r4;exact⟨_,_,rfl,r1,r3⟩
def qp:gO X (.builtin "abs") (fun xs H Q=>∃i,xs=[.int i]/\Q (.int (if i<0 then -i else i)) H):=by
 intro pins s σ H xs us Q I r h;obtain⟨i,rfl,q⟩:=h;obtain⟨u,rfl,t,rfl⟩:=vals1 r;exact call_abs_int fun u tk=>⟨.int (if i<0 then -i else i),H,I.tok _,⟨_,rfl⟩,q⟩
def xH(hc:X.calm=true):gO X (.builtin "max") (fun xs H Q=>∃i j,xs=[.int i,.int j]/\Q (.int (if j>i then j else i)) H):=by
 intro pins s σ H xs us Q I r h;obtain⟨i,j,rfl,q⟩:=h;obtain⟨u,w',rfl,⟨t,rfl⟩,⟨t',rfl⟩⟩:=vals2 r;refine max_two_ints (I.ok.hd hc) fun h' tk k=>⟨_,H,I.kept k,?_,q⟩
 by_cases hj:j>i
 ·rw[A0i hj,A0i hj];exact⟨_,rfl⟩
 ·rw[A0f hj,A0f hj];exact⟨_,rfl⟩
def xJ(hc:X.calm=true):gO X (.builtin "min") (fun xs H Q=>∃i j,xs=[.int i,.int j]/\Q (.int (if j<i then j else i)) H):=by
 intro pins s σ H xs us Q I r h;obtain⟨i,j,rfl,q⟩:=h;obtain⟨u,w',rfl,⟨t,rfl⟩,⟨t',rfl⟩⟩:=vals2 r;refine min_two_ints (I.ok.hd hc) fun h' tk k=>⟨_,H,I.kept k,?_,q⟩
 by_cases hj:j<i
 ·rw[A0i hj,A0i hj];exact⟨_,rfl⟩
 ·rw[A0f hj,A0f hj];exact⟨_,rfl⟩
end
structure Gf(h:Heap)(x dx C:Addr)(mA:Str->Option Value):Prop where
 obj:h.get? x=some (PySem.W.instObj C dx)
 ns:h.Ns1 dx mA
 ne:dx≠x
def Mv(n:h.Ns1 dx mA):∃od,h.get? dx=some od/\∀name,PySem.W.lookIn name od=some (mA name):=by
 obtain⟨o,es,ep,ho,hd,hk,_,hm⟩:=n;refine⟨o,ho,fun name=>?_⟩;have e:=hm name;unfold nsFind findBy at e;rw[<-Array.find?_toList]at e;unfold PySem.W.lookIn;rw[hd];dsimp only
 split
 ·rename_i y q
  rw[q]at e;exact A1R some e
 ·rename_i q
  rw [q]at e;have a:es.toList.any (·.refKey)=false:=by
   rw[A3I];intro y hy;obtain⟨z,t,hkey⟩:=hk y (Array.mem_toList_iff.mp hy);simp[DictEntry.refKey,hkey]
  have a':¬es.toList.any (·.refKey)=true:=by rw[a];exact A0r
  rw[A0f a'];exact A1R some e
def Gf.look{x:Addr}(I:Gf h x dx C mA):∃od,PySem.W.InstAt h x (PySem.W.instObj C dx) C (some od)/\∀name,PySem.W.lookIn name od=some (mA name):=
 let⟨od,ho,hl⟩:=Mv I.ns
 ⟨od,⟨I.obj,rfl,rfl,ho⟩,hl⟩
section
variable{x:Addr}{v:Value}
def get_map{expr:Bool}(X:K.In s.heap)(I:Gf s.heap x dx C mA)(hg:PySem.W.plainGet K C name=true)(hh:PySem.W.hasDictIn K C=true)
  (ha:PySem.W.findIn K 0x59 name=some none)(hv:mA name=some v)(hv':PySem.W.handedIn v=true)(h:Q v {s with toks:=s.toks+1}):
  wpAny 0x13 A (getAttr (.ref x) name expr) Q E s:=by
 obtain⟨od,J,hl⟩:=I.look;exact PySem.W.get_value X J (A4d hg).1 (PySem.W.findObj_own hh ha rfl (by rw[hl,hv])) hv' h
def Qp{Q:Value×List Value->Shared->Prop}(X:K.In s.heap)(I:Gf s.heap x dx C mA)(hg:PySem.W.plainGet K C name=true)
  (hf:PySem.W.findIn K 0x59 name=some (some 0x48))(ht:PySem.W.isFn K 0x48=true)(hv:mA name=none)(h:Q (.ref f,[.ref x]) s):
  wpAny 0x13 A (getMethod (.ref x) name pl) Q E s:=by
 obtain⟨od,J,hl⟩:=I.look;exact PySem.W.method_fn X J (A4d hg).1 (A4d hg).2 hf (A2P.mp ht) (by show(PySem.W.lookIn name od).map (·.isSome)=some false;rw[hl,hv];rfl) h
def Wy{ns:List Str}{Q:Unit->Shared->Prop}(X:K.In s.heap)(I:Gf s.heap x dx C mA)
  (hs:PySem.W.findIn K 0x59 "__setattr__"=some (some (.builtin "object.__setattr__")))(hp:PySem.W.plainOver K C=true)(ht:PySem.W.takerIn K C name=some none)(hh:PySem.W.hasDictIn K C=true)
  (hw:PySem.Within mA ns)(hsz:ns.length<=sizeLine)
  (h:∀h',Gf h' x dx C (fun y=>if y=name then some v else mA y)->Heap.SameBut dx s.heap h'->Q () {s with heap:=h',toks:=s.toks+2}):
  wpAny 0x13 A (setAttr (.ref x) name v) Q E s:=by
 obtain⟨od,J,hl⟩:=I.look;refine PySem.W.set_plain X J hs (PySem.W.osa_open (s:={s with toks:=s.toks+1}) (r:=none) X J hp ht fun b=>?_);obtain⟨cd,hc,hd'⟩:=PySem.W.any_some hh;have hx:s.heap.get? x=some ⟨.ref C,some dx,.plain,#[]⟩:=I.obj;refine A0a (A0n (A0a (A0a (wpAny_loadPart hx (A0a (PySem.W.Looks.here (s:={s with toks:=s.toks+1}) (PySem.W.looks_clsIn X hc) ?_))))));rw[hd'];refine A0n (a:=some dx) (A0a (A0n (A0a ?_)));refine wpAny_nsSet1 (s:={s with toks:=s.toks+1}) I.ns fun h' hn2 hs2=>?_;obtain⟨oD,esD,epD,hoD,hdD,hcD⟩:=hn2.count (PySem.Within.cons name v hw);refine A0a (wpAny_lookBehind hoD (by rw[hdD];exact pastItsLine_dict (A0z hcD (by rw[wO];lia))) ?_);exact A0n (h _ ⟨(hs2.2 _ (A0m I.ne)).trans I.obj,hn2,I.ne⟩ hs2)
def Cu{R:Result->Shared->Prop}{vs:List Value}(X:K.In s.heap)(hm:PySem.W.makesIn K C=true)
  (hi:PySem.W.findIn K 0x59 "__init__"=some (some 0x48))(hf:PySem.W.typeIn K 0x48=some (.type "function"))
  (h:codeAny 0x13 (A.under (.builtin "type.__call__" ⟨.ref C::vs,kw⟩)) (.call 0x48 ⟨.ref 0x11::vs,kw⟩) (PySem.W.InitBack 0x11 R)
   {s with heap:=(0x45).push 0x7B}):
  codeAny 0x13 A (.call 0x59 ⟨vs,kw⟩) R s:=by
 obtain⟨hh,g,d,t,os⟩:=s;exact PySem.W.make_core (PySem.W.makes_of X hm) (PySem.W.looks_findIn X hi) (fun self=>PySem.W.bind_fn X self hf) 0x5F h
end
def nW(f:Str)(v:V):List 0x81->List 0x81
 |[]=>[(f,v)]
 |(g,x)::r=>if g=f then(g,v)::r else(g,x)::nW f v r
theorem sG(f g:Str)(v:V):∀fs:List 0x81,(nW f v fs).lookup g=if g=f then some v else fs.lookup g
 | []=>by
  show List.lookup g [(f,v)]=_
  by_cases h:g=f
  ·have hb:(g==f)=true:=A2P.mpr h;simp only[List.lookup,hb,A0i h]
  ·have hb:(g==f)=false:=A1n.mpr h;simp only[List.lookup,hb,A0f h]
 | (k,x)::r=>by
  have ih:=sG f g v r;rw[show nW f v ((k,x)::r)=(if k=f then(k,v)::r else(k,x)::nW f v r)from rfl]
  by_cases hk:k=f
  ·rw[A0i hk]
   by_cases h:g=k
   ·have hb:(g==k)=true:=A2P.mpr h;simp only[List.lookup,hb,A0i (h.trans hk)]
   ·have hb:(g==k)=false:=A1n.mpr h;simp only[List.lookup,hb,A0f (fun e:g=f=>h (e.trans hk.symm))]
  ·rw[A0f hk]
   by_cases h:g=k
   ·have hb:(g==k)=true:=A2P.mpr h;simp only[List.lookup,hb,A0f (fun e:g=f=>hk (h.symm.trans e))]
   ·have hb:(g==k)=false:=A1n.mpr h;simp only[List.lookup,hb];exact ih
theorem rJ(f:Str)(v:V):∀fs:List 0x81,f∈(nW f v fs).map (·.1)/\∀g,g∈fs.map (·.1)->g∈(nW f v fs).map (·.1)
 |[]=>⟨by simp[nW],fun g h=>by simp at h⟩
 | (k,x)::r=>by
  obtain⟨i1,i2⟩:=rJ f v r;rw[show nW f v ((k,x)::r)=(if k=f then(k,v)::r else(k,x)::nW f v r)from rfl]
  by_cases hk:k=f
  ·rw[A0i hk];subst hk;exact⟨by simp,fun g h=>by simpa using h⟩
  ·rw [A0f hk];refine⟨?_,fun g h=>?_⟩
   ·rw[A0h];exact jK _ i1
   ·rw[A0h]at h ⊢;rcases A0d.mp h with e|e
    ·exact A0d.mpr (.inl e)
    ·exact jK _ (i2 g e)
theorem sI(f:Str)(v:V):∀fs:List 0x81,(nW f v fs).length<=fs.length+1
 |[]=>by simp[nW]
 | (k,x)::r=>by
  have ih:=sI f v r;rw[show nW f v ((k,x)::r)=(if k=f then(k,v)::r else(k,x)::nW f v r)from rfl]
  by_cases hk:k=f
  ·rw[A0i hk,wO,wO];lia
  ·rw[A0f hk,wO,wO];lia
def jz.some_of{o:Option Value}(r:jz (some v) o):∃u,o=some u/\RelV v u:=by
 cases o with
 |none=>exact(show False from r).elim
 |some u=>exact⟨u,rfl,r⟩
def jz.none_of{o:Option Value}(r:jz none o):o=none:=by
 cases o with
 |none=>rfl
 |some u=>exact(show False from r).elim
def Mw(r:RelV v u):PySem.W.handedIn u=true:=by
 cases v with
 |non=>cases(show u=Value.none from r);rfl
 |bl b=>cases(show u=Value.bool b from r);rfl
 |int i=>obtain⟨t,e⟩:=(show ∃t,u=Value.int i t from r);cases e;rfl
 |str x=>obtain⟨t,e⟩:=(show ∃t,u=Value.str x t from r);cases e;rfl
 |Mj b=>obtain⟨t,e⟩:=(show ∃t,u=Value.bytes b t from r);cases e;rfl
 |flt b=>obtain⟨t,e⟩:=(show ∃t,u=Value.float b t from r);cases e;rfl
 |ref a=>cases(show u=Value.ref a from r);rfl
 |ty n=>cases(show u=Value.type n from r);rfl
section
variable{fs:List 0x81}
def tQ(hok:m6 P w H h)(e:H a=some (.ins C dx fs)):∃mA,Gf h a dx C mA/\(∀f,jz (fs.lookup f) (mA f))/\PySem.Within mA (fs.map (·.1))/\fs.length<=1000/\H dx=some (.own a):=by
 obtain⟨d,z,ne,ob,mA,n,r,q⟩:=(show dW P w H h a (.ins C dx fs)from hok a _ e)
 exact⟨mA,⟨ob,n,ne⟩,r,q,z,d⟩
end
structure Cls(K:PySem.W.Frag)(C:Addr):Prop where
 pg:PySem.W.plainGet K C Str.empty=true
 hd:PySem.W.hasDictIn K C=true
 po:PySem.W.plainOver K C=true
 sa:PySem.W.findIn K 0x59 "__setattr__"=some (some (.builtin "object.__setattr__"))
def Cls.get(c:Cls K C)(f:Str):PySem.W.plainGet K C f=true:=c.pg
def dZ(K:PySem.W.Frag)(C:Addr)(f:Str):Prop:=PySem.W.findIn K 0x59 f=some none
def dZ.taker{f:Str}(n:dZ K C f):PySem.W.takerIn K C f=some none:=by
 unfold PySem.W.takerIn;rw[show PySem.W.findIn K 0x59 f=some none from n]
 rfl
structure Con(K:PySem.W.Frag)(C:Addr)(f:Str)(v:V)(u:Value):Prop where
 at_:PySem.W.findIn K 0x59 f=some (some u)
 rel:RelV v u
 get:PySem.W.specialIn K u "__get__"=some none
 cp:PySem.W.copiedNames.contains f=false
structure Meth(K:PySem.W.Frag)(C:Addr)(m:Str)(f:Addr):Prop where
 at_:PySem.W.findIn K 0x59 m=some (some 0x48)
 fn:PySem.W.isFn K 0x48=true
 kp:PySem.W.keepIn K 0x48=true
section
variable{fs:List 0x81}{f:Str}
def Gg{b:Bool}(I:Inv X pins σ H s)(e:H a=some (.ins C dx fs))(c:Cls X.K C)(n:dZ X.K C f)(l:fs.lookup f=some v)
  (h:∀u s',Inv X pins σ H s'->RelV v u->Q u s'):wpAny 0x9 A (getAttr 0x4E f b) Q E s:=by
 obtain⟨mA,O,r,_,_,_⟩:=tQ I.hok e;obtain⟨u,hu,ru⟩:=jz.some_of (v:=v) (o:=mA f) (by rw[<-l];exact r f);exact get_map I.lZ O (c.get f) c.hd n hu (Mw ru) (h u _ (I.tok _) ru)
def pU{m:Str}{g:Addr}{Q:Value×List Value->Shared->Prop}(I:Inv X pins σ H s)(e:H a=some (.ins C dx fs))(c:Cls X.K C)(k:Meth X.K C m g)(l:fs.lookup m=none)
  (h:Q (.ref g,[.ref a]) s):wpAny 0x9 A (getMethod 0x4E m pl) Q E s:=by
 obtain⟨mA,O,r,_,_,_⟩:=tQ I.hok e;have hn:mA m=none:=jz.none_of (by rw[<-l];exact r m);exact Qp I.lZ O (c.get m) k.at_ k.fn hn h
def Gh{Q:Unit->Shared->Prop}(I:Inv X pins σ H s)(e:H a=some (.ins C dx fs))(c:Cls X.K C)(n:dZ X.K C f)(hl:fs.length<1000)(ry:RelV y u)
  (h:∀s',Inv X pins σ (upd H a (.ins C dx (nW f y fs))) s'->Q () s'):wpAny 0x9 A (setAttr 0x4E f u) Q E s:=by
 obtain⟨mA,O,r,wi,_,ho⟩:=tQ I.hok e;have hz:(fs.map (·.1)).length<=sizeLine:=by rw[cM,A1v];lia
 refine Wy I.lZ O c.sa c.po n.taker c.hd wi hz fun h' O' sb=>h _ ?_;have hd:∃o,h'.get? dx=some o:=let⟨o,_,_,e',_⟩:=O'.ns;⟨o,e'⟩
 refine I.write (x:=a) (e:=dx) 0x5B (.inr ho) (fun b q hb z=>(sb.2 b hb).trans z) hd ?_;refine⟨by rw[ak O.ne];exact ho,?_,O.ne,O'.obj,_,O'.ns,fun g=>?_,fun g hg=>?_⟩
 ·have:=sI f y fs;lia
 ·show jz ((nW f y fs).lookup g) (if g=f then some u else mA g)
  rw[sG]
  by_cases q:g=f
  ·rw[A0i q,A0i q];exact ry
  ·rw[A0f q,A0f q];exact r g
 ·by_cases q:g=f
  ·rw[q];exact(rJ f y fs).1
  ·refine(rJ f y fs).2 g (wi g fun z=>hg ?_)
   show(if g=f then some u else mA g)=none
   rw[A0f q];exact z
def Inv.made(I:Inv X pins σ H s):Inv X pins σ (upd (upd H s.heap.objs.size (.own 0x11)) 0x11 (.ins C s.heap.objs.size []))
  {s with heap:=(0x45).push 0x7B}:=by
 have e1:(0x45).get? s.heap.objs.size=some PySem.W.emptyDict:=A0x s.heap rfl;have e2:((0x45).push 0x7B).get? 0x11=some 0x7B:=by
  have:=A0x 0x45 (o:=PySem.W.instObj C s.heap.objs.size) rfl
  rwa [A2I]at this
 have e3:(0x45).Ns s.heap.objs.size (fun _=>none):=⟨PySem.W.emptyDict,#[],_,e1,rfl,(fun e he=>absurd he 0xA),fun _=>rfl⟩;have I1:=I.laid (a:=s.heap.objs.size) (o:=.own 0x11) (h':=s.heap.push PySem.W.emptyDict) (t':=s.toks) (fun b u q=>A0c _ q) 0x33 ⟨_,e1⟩;refine I1.laid (a:=s.heap.objs.size+1) (o:=.ins C s.heap.objs.size []) (t':=s.toks) (fun b u q=>A0c _ q) (Nat.le_of_eq (A2I _ _)) ?_;have ne:s.heap.objs.size≠s.heap.objs.size+1:=A0M (A3Q _);refine⟨by rw[ak ne,ao],A1j _,ne,e2,fun _=>none,(Heap.Ns1.of_empty e3).at fun o q=>A0c _ q,fun _=>True.intro,fun y hy=>absurd rfl hy⟩
def Wz{f:Str}(hb:attributeBase e f env (eval e env)=eval e env)
  (h:wpAny 0x13 A (eval e env) (fun o s₁=>wpAny 0x13 A (getAttr o f true) Q E s₁) E s):wpAny 0x13 A (eval (.Attribute e f pos) env) Q E s:=
 Attribute_any_ h (by rw[arm_eval_Attribute,hb])
end
inductive Qq(K:W.Frag)(f:Str)(Q:VK)(x:V)(H1:Hp):Prop
 |mk(a C dx:Addr)(fs:List (Prod Str V))(v:V)(_:x=.ref a)(_:H1 a=some (.ins C dx fs))(_:Cls K C)(_:dZ K C f)(_:fs.lookup f=some v)(_:Q v H1):Qq K f Q x H1
def tFld(K:PySem.W.Frag)(ta:TE)(f:Str):TE:=fun σ H Q=>ta σ H fun x H1=>Qq K f Q x H1
inductive zf(K:W.Frag)(f:Str)(D:Ends)(σ:L2.St)(y x:V)(H2:Hp):Prop
 |mk(a C dx:Addr)(fs:List (Prod Str V))(_:x=.ref a)(_:H2 a=some (.ins C dx fs))(_:Cls K C)(_:dZ K C f)(_:fs.length<1000)(_:D.nx σ (upd H2 a (.ins C dx (nW f y fs)))):zf K f D σ y x H2
def a0u(K:PySem.W.Frag)(ta tv:TE)(f:Str):TS:=fun D σ H=>tv σ H fun y H1=>ta σ H1 fun x H2=>zf K f D σ y x H2
def a0v(X:Cx)(op:Operator)(rd:V->V->Hp->VK->Prop):Prop:=
 ∀(pins:List 0x1E)(s:Shared)(σ:St)(H:Hp)(x y:V)(u v:Value)(Q:VK),Inv X pins σ H s->RelV x u->RelV y v->rd x y H Q->wpAny 0x9 X.A (inplaceOp op u v) 0x37 X.xe s
section
variable{o:Expr}{f:Str}{tpos:Pos}
def bf(he:PE X e ta)(hb:attributeBase e f X.env (eval e X.env)=eval e X.env):PE X (.Attribute e f pos) (tFld X.K ta f):=by
 intro pins s σ H Q I h;refine Wz hb (cP 0x49 fun u s1 zq=>?_);obtain⟨x,H1,I1,rx,a,C,dx,fs,v,ex,ea,c,n,l,q⟩:=zq;subst ex;obtain rfl:u=Value.ref a:=rx;exact Gg I1 ea c n l fun u' s2 I2 ru=>⟨v,H1,I2,ru,q⟩
def eF(ha:PE X o ta)(hv:PE X value tv)(hs:swapsWith value (some (.Attribute o f pos')) pos.line X.env=pure false):PS X (.Assign [.Attribute o f pos'] value pos) (a0u X.K ta tv f):=by
 intro pins s σ H D I h;refine plainObj_wpAny_Assign_Attribute (cP (hv pins s σ H _ I h) fun u s1 ⟨y,H1,I1,ry,q⟩=>cP (ha pins s1 σ H1 _ I1 q) fun ov s2 ⟨x,H2,I2,rx,a,C,dx,fs,ex,ea,c,n,l,q2⟩=>?_) hs;subst ex;obtain rfl:ov=Value.ref a:=rx;exact Gh I2 ea c n l ry fun s3 I3=>⟨σ,_,I3,q2⟩
inductive rAdd(x y:V)(H:Hp)(Q:VK):Prop
 |mk(i j:Int)(_:x=.int i)(_:y=.int j)(_:Q (.int (i+j)) H):rAdd x y H Q
inductive rSub(x y:V)(H:Hp)(Q:VK):Prop
 |mk(i j:Int)(_:x=.int i)(_:y=.int j)(_:Q (.int (i-j)) H):rSub x y H Q
def Qs:a0v X .Add rAdd:=by
 rintro pins s σ H x y u v Q I rx ry ⟨i,j,rfl,rfl,q⟩;obtain⟨t,rfl⟩:=(show ∃t,u=Value.int i t from rx)
 obtain⟨t',rfl⟩:=(show ∃t',v=Value.int j t' from ry)
 exact PyProof.Rows.iadd_int ⟨.int (i+j),H,I.tok _,⟨_,rfl⟩,q⟩
def zj:a0v X .Sub rSub:=by
 rintro pins s σ H x y u v Q I rx ry ⟨i,j,rfl,rfl,q⟩;obtain⟨t,rfl⟩:=(show ∃t,u=Value.int i t from rx)
 obtain⟨t',rfl⟩:=(show ∃t',v=Value.int j t' from ry)
 exact PyProof.Rows.isub_int ⟨.int (i-j),H,I.tok _,⟨_,rfl⟩,q⟩
end
section
variable{c:Value}{b:Bool}
inductive qu(K:PySem.W.Frag)(H:Hp):V->Value->Prop where
 |non:qu K H .non (.type "NoneType")
 |bl (x:Bool):qu K H (.bl x) (.type "bool")
 |int (i:Int):qu K H (.int i) (.type "int")
 |str (x:Str):qu K H (.str x) (.type "str")
 |flt (x:UInt64):qu K H (.flt x) (.type "float")
 |lst {a:Addr}{xs:List V} (e:H a=some 0x4D):qu K H 0x4E (.type "list")
 |iY {a:Addr}{o:Obj}{xs:List V} (e:H a=some (.iY o 0x4D)):qu K H 0x4E (.type "list")
 |tup {a:Addr}{xs:List V} (e:H a=some 0x23):qu K H 0x4E (.type "tuple")
 |dK {a:Addr}{kvs:List 0x2B} (e:H a=some 0x16):qu K H 0x4E (.type "dict")
 |dT {a:Addr}{kvs:List 0x38} (e:H a=some (.dT kvs)):qu K H 0x4E (.type "dict")
 | ins {a C dx:Addr}{fs:List 0x81} (e:H a=some (.ins C dx fs)) (cl:Cls K C) (ha:PySem.W.findIn K 0x59 "__class__"=some (some 0x25))
   (hn:PySem.W.specialIn K 0x25 "__get__"=some (some 0x39)) (htk:PySem.W.takesIn K 0x25=some true)
   (hm:PySem.W.mroIn K C (.type "object")=some true):qu K H 0x4E 0x59
def Mx{x:V}{t:Value}(I:Inv X pins σ H s)(rx:RelV x u)(ty:qu X.K H x t)(e:PySem.W.kitOne X.K t c=some b)(h:∀tk,Q (.bool b) {s with toks:=tk}):
  wpAny 0x9 A (call 0x8F [u,c]) Q E s:=by
 cases ty with
 |non=>cases(show u=Value.none from rx);exact A1I PySem.W.kitx_none I.lZ True.intro e 0x2F h
 |bl y=>cases(show u=Value.bool y from rx);exact A1I PySem.W.kitx_bool I.lZ True.intro e 0x2F h
 |int i=>obtain⟨t,q⟩:=(show ∃t,u=Value.int i t from rx);cases q;exact A1I PySem.W.kitx_int I.lZ True.intro e 0x2F h
 |str y=>obtain⟨t,q⟩:=(show ∃t,u=Value.str y t from rx);cases q;exact A1I PySem.W.kitx_str I.lZ True.intro e 0x2F h
 |flt y=>obtain⟨t,q⟩:=(show ∃t,u=Value.float y t from rx);cases q;exact A1I PySem.W.kitx_float I.lZ True.intro e 0x2F h
 | @lst a xs ea=>
  cases 0x8B
  obtain⟨_,_,n,_,h1⟩:=(show dW X.prog X.w H s.heap a 0x4D from I.hok a _ ea)
  exact A1I PySem.W.kitx_list I.lZ ⟨_,h1,rfl⟩ e 0x2F h
 | @iY a ob xs ea=>
  cases 0x8B
  obtain⟨_,_,_,n,_,h1⟩:=(show dW X.prog X.w H s.heap a (.iY ob 0x4D)from I.hok a _ ea)
  exact A1I PySem.W.kitx_list I.lZ ⟨_,h1,rfl⟩ e 0x2F h
 | @tup a xs ea=>
  cases 0x8B
  obtain⟨_,_,_,p⟩:=(show dW X.prog X.w H s.heap a 0x23 from I.hok a _ ea)
  obtain⟨o,h1,h2,_⟩:=p;exact A1I PySem.W.kitx_tuple I.lZ ⟨o,h1,h2⟩ e 0x2F h
 | @dK a kvs ea=>
  cases 0x8B
  obtain⟨_,_,vs,_,p⟩:=(show dW X.prog X.w H s.heap a 0x16 from I.hok a _ ea)
  obtain⟨o,es,ep,h1,h2,_⟩:=p;exact A1I PySem.W.kitx_dict I.lZ ⟨o,h1,h2.1⟩ e 0x2F h
 | @dT a kvs ea=>
  cases 0x8B
  obtain⟨_,_,xs,_,o,es,ep,h1,h2,_⟩:=(show dW X.prog X.w H s.heap a (.dT kvs)from I.hok a _ ea)
  exact A1I PySem.W.kitx_dict I.lZ ⟨o,h1,h2.1⟩ e 0x2F h
 | @ins a C dx fs ea cl ha hn htk hm=>
  cases 0x8B
  obtain⟨mA,O,_⟩:=tQ I.hok ea;obtain⟨od,J,_⟩:=O.look;exact A1I (PySem.W.kitx_own (cl.get _) cl.hd ha hn htk hm) I.lZ J e 0x2F h
end
structure cG(k:Nat)(A:Around):Prop where
 hd:A.handled=none
 dp:A.depth+3*k+5<recursionLimit
 un:A.units+16*k+200<cLine
def cG.mono{k:Nat}(r:cG k A)(h:j<=k):cG j A:=⟨r.hd,by have:=r.dp;lia,by have:=r.un;lia⟩
def cG.deeper{k:Nat}(r:cG (k+1) A)(env:Env):cG k (A.deeper env):=
 ⟨r.hd,by have:=r.dp;show A.depth+1+3*k+5<_;lia,by have:=r.un;show A.units+3+16*k+200<_;lia⟩
def cG.in1{k:Nat}(r:cG (k+1) A):cG k A.in1:=
 ⟨r.hd,by have:=r.dp;show A.depth+3*k+5<_;lia,by have:=r.un;show A.units+1+16*k+200<_;lia⟩
def Gi:(A.under (.builtin "type.__call__" ⟨.ref C::us,kw⟩)).depth=A.depth+1:=by
 first|rfl|simp[Around.under,Code.weight,Code.isCreation,Code.isGuard,Code.isCaller,Code.frames,Code.isFrame,guardIds]
def Gj:(A.under (.builtin "type.__call__" ⟨.ref C::us,kw⟩)).units=A.units+1:=by
 first|rfl|simp[Around.under,Code.cUnits,Code.frames,Code.isFrame]
def cG.make{k:Nat}(r:cG (k+1) A)(C:Addr)(us:List Value)(kw:List 0x91):cG k (A.under (.builtin "type.__call__" ⟨.ref C::us,kw⟩)):=
 ⟨r.hd,by have:=r.dp;rw[Gi];lia,by have:=r.un;rw[Gj];lia⟩
def cG.depth{k:Nat}(r:cG k A):A.depth<recursionLimit:=by have:=r.dp;lia
def cG.units{k:Nat}(r:cG k A):A.units+64<cLine:=by have:=r.un;lia
def lC:TA:=fun _ H Q=>Q [] H
def sJ(ta:TE)(tr:TA):TA:=fun σ H Q=>ta σ H fun x H1=>tr σ H1 fun xs H2=>Q (x::xs) H2
section
variable{t:TA}
def aC:PA X [] lC:=fun _ _ _ _ H Q I h=>A2t ⟨[],H,I,.nil,h⟩
def aj(ha:PE X e te)(hr:PA X es t)(hs:starEach (e::es) X.env=0x2D::starEach es X.env:=by rfl):PA X (e::es) (sJ te t):=by
 intro pos pins s σ H Q I h;rw[hs]
 show wpAny _ _ (spliced (0x2D::backTo pos 0x34)) _ _ s
 refine A1Q (cP 0x3E fun u s1 zq=>?_);obtain⟨x,H1,I1,r1,q1⟩:=zq;exact cP (hr pos pins s1 σ H1 _ I1 q1) fun us s2 ⟨xs,H2,I2,r2,q2⟩=>⟨x::xs,H2,I2,.cons r1 r2,q2⟩
def WD(t:TA):TE:=fun σ H Q=>t σ H fun xs H1=>xs.length<=sizeLine/\∀p,H1 p=none->Q 0x46 (upd H1 p 0x23)
def a0w(t:TA):TE:=fun σ H Q=>t σ H fun xs H1=>xs.length<=sizeLine/\∀p,H1 p=none->Q 0x46 (upd H1 p 0x4D)
def cu{x1}(h:PA X es t):PE X (.Tuple es x1 pos) (WD t):=by
 intro pins s σ H Q I hq;refine wpAny_Tuple_spliced (cP (h pos pins s σ H _ I hq) fun us s1 ⟨xs,H1,I1,r,z,q⟩=>⟨by rw[<-r.length];exact z,?_⟩);have hf:H1 s1.heap.objs.size=none:=I1.hok.fresh 0x33;refine⟨.ref s1.heap.objs.size,upd H1 s1.heap.objs.size 0x23,I1.laid (t':=s1.toks) (fun b u e=>A0c _ e) 0x33 ?_,rfl,q _ hf⟩;exact⟨z,us,r,⟨_,A0x _ rfl,rfl,_,rfl⟩⟩
def cL(h:PA X es t):PE X (.List es pos) (a0w t):=by
 intro pins s σ H Q I hq;refine wpAny_List_spliced (cP (h pos pins s σ H _ I hq) fun us s1 ⟨xs,H1,I1,r,z,q⟩=>⟨by rw[<-r.length];exact z,?_⟩);have hf:H1 s1.heap.objs.size=none:=I1.hok.fresh 0x33;refine⟨.ref s1.heap.objs.size,upd H1 s1.heap.objs.size 0x4D,I1.laid (t':=s1.toks) (fun b u e=>A0c _ e) 0x33 ?_,rfl,q _ hf⟩;exact⟨z,us,0,r,A0x _ rfl⟩
end
abbrev Sp:=List V->Hp->VK->XK->Prop
variable{sp:Sp}
abbrev xK:=List Env->Hp->Shared->XK->Value->Shared->Prop
variable{CX:xK}
structure wV(P:Program)(w:World)(K:PySem.W.Frag)(mg:Str->Option Value)(base:Heap)(A:Around)(outer:List Env)(s:Shared)(H:Hp):Prop where
 frames:A.frames=some outer
 mod:Mod K mg base
 bs:∀b o,base.get? b=some o->s.heap.get? b=some o/\H b=none
 Pj:base.objs.size<=s.heap.objs.size
 nJ:s.heap.FunFrames base outer
 Wk:∀b∈frs outer,H b=none
 hok:m6 P w H s.heap
 bare:AllBare s.gens
inductive CE(outer:List Env)(P:Program)(w:World)(H:Hp)(s:Shared)(Q:VK)(u:Value)(s':Shared):Prop
 |mk(v:V)(H':Hp)(_:s'.os=s.os)(_:AllBare s'.gens)(_:Un (frs outer) [] H H' s.heap s'.heap)(_:m6 P w H' s'.heap)(_:RelV v u)(_:Q v H'):CE outer P w H s Q u s'
def CR(CX:xK)(outer:List Env)(P:Program)(w:World)(H:Hp)(s:Shared)(Q:VK)(E:XK)(r:Result)(s':Shared):Prop:=
 match r with
 | .ok (.ret u)=>CE outer P w H s Q u s'
 | .ok _=>False
 | .error e=>CX outer H s E e s'
structure aL(P:Program)(w:World)(K:PySem.W.Frag)(mg:Str->Option Value)(base:Heap)(CX:xK)(k:Nat)(f:Addr)(fd:FuncData)(ps:List Str)(sp:Sp):Prop where
 len:∀vs H Q E,sp vs H Q E->vs.length=ps.length
 run:∀(A:Around)(outer:List Env)(s:Shared)(H:Hp)(args:Args)(us:List Value)(vs:List V)(Q:VK)(E:XK),cG k A->wV P w K mg base A outer s H->BindsTo s fd args (ps.zip us)->Vals vs us->sp vs H Q E->
  codeAny (model P w) A (.call 0x48 args) (CR CX outer P w H s Q E) s
def aL.mono{k:Nat}(F:aL P w K mg base CX j f fd ps sp)(h:j<=k):
  aL P w K mg base CX k f fd ps sp:=⟨F.len,fun A outer s H args us vs Q E hr=>F.run A outer s H args us vs Q E (hr.mono h)⟩
def aL.imp{k:Nat}{FN:Sp}(F:aL P w K mg base CX k f fd ps sp)
  (h:∀vs H Q E,FN vs H Q E->sp vs H Q E):aL P w K mg base CX k f fd ps FN:=
 ⟨fun vs H Q E q=>F.len vs H Q E (h _ _ _ _ q),fun A outer s H args us vs Q E hr he hb hv hs=>F.run A outer s H args us vs Q E hr he hb hv (h _ _ _ _ hs)⟩
def wV.make(e:wV P w K mg base A outer s H)(C:Addr)(us:List Value)(kw:List 0x91):
  wV P w K mg base (A.under (.builtin "type.__call__" ⟨.ref C::us,kw⟩)) outer s H:=⟨by first|exact e.frames|(simpa[Around.under,Code.envs,Code.isFrame,pushEnvs]using e.frames),e.mod,e.bs,e.Pj,e.nJ,e.Wk,e.hok,e.bare⟩
def wV.in1(e:wV P w K mg base A outer s H):
  wV P w K mg base A.in1 outer s H:=⟨e.frames,e.mod,e.bs,e.Pj,e.nJ,e.Wk,e.hok,e.bare⟩
def Inv.env0(I:Inv X pins σ H s):wV X.prog X.w X.K X.mg X.base X.A X.stack s H:=
 ⟨I.ok.frames,I.ok.mod,I.bs,A0z I.ok.Pj I.sz,I.stack,I.z9,I.hok,I.bare⟩
def Inv.after{Q:VK}(I:Inv X pins σ H s)(h:CE X.stack X.prog X.w H s Q u s'):EP X pins σ Q u s':=by
 obtain⟨v,H',os,bare,un,hok,r,q⟩:=h;obtain⟨hh,g,d,t,os'⟩:=s';obtain rfl:os'=s.os:=os;exact⟨v,H',I.call (h':=hh) (g':=g) (d':=d) (t':=t) (ch:=[]) un hok bare (fun b z=>absurd z 0xA),r,q⟩
def Zf(sp:Sp)(jB:List V)(E:XK)(t:TA):TE:=fun σ H Q=>t σ H fun vs H1=>sp (vs++jB) H1 Q E
inductive Jw(C:Addr)(m:Str)(sp:Sp)(jB:List V)(E:XK)(t:TA)(σ:L2.St)(Q:VK)(x:V)(H1:Hp):Prop
 |mk(a dx:Addr)(fs:List (Prod Str V))(_:x=.ref a)(_:H1 a=some (.ins C dx fs))(_:fs.lookup m=none)(_:t σ H1 fun vs H2=>sp (x::(vs++jB)) H2 Q E):Jw C m sp jB E t σ Q x H1
def Zg(C:Addr)(m:Str)(sp:Sp)(jB:List V)(E:XK)(ta:TE)(t:TA):TE:=fun σ H Q=>ta σ H fun x H1=>Jw C m sp jB E t σ Q x H1
def Zh(C:Addr)(sp:Sp)(jB:List V)(E:XK)(t:TA):TE:=fun σ H Q=>t σ H fun vs H1=>∀x dx,H1 x=none->H1 dx=none->dx≠x->
 sp (.ref x::(vs++jB)) (upd (upd H1 dx (.own x)) x (.ins C dx [])) (fun v H2=>v=.non/\Q (.ref x) H2) E
def Binds(K:PySem.W.Frag)(fd:FuncData)(ps:List Str)(ds:List Value):Prop:=
 ∀(s:Shared)(us:List Value),K.In s.heap->(us++ds).length=ps.length->BindsTo s fd ⟨us,[]⟩ (ps.zip (us++ds))
def Binds.all(h:∀us:List Value,us.length=ps.length->bindArgs fd ⟨us,[]⟩=pure (ps.zip us)):Binds K fd ps []:=fun s us _ hl=>by
 rw[A1t]at hl ⊢;exact .of_eq (h us hl)
def Passes(CX:xK)(X:Cx)(E:XK):Prop:=∀(pins:List 0x1E)(σ:St)(H:Hp)(s:Shared)(e:Value)(s':Shared),Inv X pins σ H s->CX X.stack H s E e s'->X.xe e s'
section
variable{k:Nat}{E:XK}{x m:Str}{p:Pos}{o:Expr}{t:TA}
def uO{Q:VK}{vs:List V}(F:aL X.prog X.w X.K X.mg X.base CX k f fd ps sp)(hr:cG k X.A)(hb:Binds X.K fd ps ds)(hd:Vals jB ds)(hx:Passes CX X E)
  (I:Inv X pins σ H s)(r:Vals vs us)(h:sp (vs++jB) H Q E):wpAny 0x9 X.A (call 0x48 us) 0x37 X.xe s:=by
 have r2:Vals (vs++jB) (us++ds):=r.append hd;have hl:(us++ds).length=ps.length:=by rw[<-r2.length];exact F.len _ _ _ _ h
 refine A3R (A2Q (F.run X.A X.stack s H ⟨us,[]⟩ (us++ds) (vs++jB) Q E hr I.env0 (hb s us I.lZ hl) r2 h) fun r s' hq=>?_);cases r with
 |error e=>exact hx pins σ H s e s' I hq
 | ok fl=>
  cases fl with
  |ret u=>exact I.after hq
  |next=>exact False.elim hq
  |brk=>exact False.elim hq
  |cont=>exact False.elim hq
def bG(F:aL X.prog X.w X.K X.mg X.base CX k f fd ps sp)(hr:cG k X.A)(hg:Gl X x)(hm:X.mg x=some 0x48)(hk:PySem.W.keepIn X.K 0x48=true)(hb:Binds X.K fd ps ds)(hd:Vals jB ds)(hx:Passes CX X E)
  (ha:PA X (e::es) t)(hdb:0x24=false:=by decide)(he:starEach (e::es) X.env=0x2D::starEach es X.env:=by rfl)(hpl:(0x70).any (·.1)=false:=by rfl):
  PE X (.Call (.Name x p) (e::es) [] pos) (Zf sp jB E t):=by
 intro pins s σ H Q I h;refine A1z (jY I hg hm ?_ hdb);refine A2l (h₀:=X.base) I.ok.mod.kin hk (cP 0x6C fun us s1 ⟨vs,H1,I1,r,q⟩=>⟨I1.lZ,?_⟩) he hpl;exact uO F hr hb hd hx I1 r q
def Cw(F:aL X.prog X.w X.K X.mg X.base CX k f fd ps sp)(hr:cG k X.A)(hg:Gl X x)(hm:X.mg x=some 0x48)(hk:PySem.W.keepIn X.K 0x48=true)(hb:Binds X.K fd ps ds)(hd:Vals jB ds)(hx:Passes CX X E)
  (hdb:0x24=false:=by decide):PE X (.Call (.Name x p) [] [] pos) (Zf sp jB E lC):=by
 intro pins s σ H Q I h;refine A1z (jY I hg hm ?_ hdb);exact A4e I.lZ hk (uO (us:=[]) F hr hb hd hx I .nil h)
def bZ(he:PE X o ta)(c:Cls X.K C)(hm:Meth X.K C m f)(F:aL X.prog X.w X.K X.mg X.base CX k f fd ps sp)(hr:cG k X.A)(hb:Binds X.K fd ps ds)(hd:Vals jB ds)(hx:Passes CX X E)(ha:PA X (e::es) t)
  (hst:starEach (e::es) X.env=0x2D::starEach es X.env:=by rfl)(hpl:(0x70).any (·.1)=false:=by rfl)
  (ht:eval (.Call (.Attribute o m apos) (e::es) [] pos) X.env=(do
   let ov<-eval o X.env
   standAt apos.atName
   let(f,first)<-holding [ov] (getMethod ov m pl)
   callWith pos f first (backTo pos (starEach (e::es) X.env)) (backToKw pos (keywordEach [] X.env))):=by rfl):
  PE X (.Call (.Attribute o m apos) (e::es) [] pos) (Zg C m sp jB E ta t):=by
 intro pins s σ H Q I h;refine A3N (pl:=pl) (cP 0x49 fun u s1 ⟨x,H1,I1,rx,a,dx,fs,ex,ea,l,q⟩=>?_) ht;subst ex;obtain rfl:u=Value.ref a:=rx;refine pU I1 ea c hm l ?_;refine A2l (first:=[.ref a]) (h₀:=X.base) I.ok.mod.kin hm.kp (cP (ha pos pins s1 σ H1 _ I1 q) fun us s2 ⟨vs,H2,I2,r,q2⟩=>⟨I2.lZ,?_⟩) hst hpl
 exact uO (us:=.ref a::us) (vs:=.ref a::vs) F hr hb hd hx I2 (.cons rfl r) q2
def nY(he:PE X o ta)(c:Cls X.K C)(hm:Meth X.K C m f)(F:aL X.prog X.w X.K X.mg X.base CX k f fd ps sp)(hr:cG k X.A)(hb:Binds X.K fd ps ds)(hd:Vals jB ds)(hx:Passes CX X E)
  (ht:eval (.Call (.Attribute o m apos) [] [] pos) X.env=(do
   let ov<-eval o X.env
   standAt apos.atName
   let(f,first)<-holding [ov] (getMethod ov m pl)
   callWith pos f first (backTo pos (starEach [] X.env)) (backToKw pos (keywordEach [] X.env))):=by rfl):
  PE X (.Call (.Attribute o m apos) [] [] pos) (Zg C m sp jB E ta lC):=by
 intro pins s σ H Q I h;refine A3N (pl:=pl) (cP 0x49 fun u s1 ⟨x,H1,I1,rx,a,dx,fs,ex,ea,l,q⟩=>?_) ht;subst ex;obtain rfl:u=Value.ref a:=rx;refine pU I1 ea c hm l ?_;exact A4e (first:=[.ref a]) I1.lZ hm.kp (uO (us:=[.ref a]) (vs:=[.ref a]) F hr hb hd hx I1 (.cons rfl .nil) q)
structure Mk(K:PySem.W.Frag)(C f:Addr):Prop where
 makes:PySem.W.makesIn K C=true
 init:PySem.W.findIn K 0x59 "__init__"=some (some 0x48)
 fn:PySem.W.isFn K 0x48=true
 kp:PySem.W.keepIn K 0x59=true
def Cy{Q:VK}{vs:List V}(M:Mk X.K C f)(F:aL X.prog X.w X.K X.mg X.base CX k f fd ps sp)(hr:cG (k+1) X.A)(hb:Binds X.K fd ps ds)(hd:Vals jB ds)
  (hx:Passes CX X E)(I:Inv X pins σ H s)(r:Vals vs us)
  (h:∀x dx,H x=none->H dx=none->dx≠x->sp (.ref x::(vs++jB)) (upd (upd H dx (.own x)) x (.ins C dx [])) (fun v H2=>v=.non/\Q (.ref x) H2) E):
  wpAny 0x9 X.A (call 0x59 us) 0x37 X.xe s:=by
 have hq:=h 0x11 s.heap.objs.size (I.hok.fresh (A2i _)) 0x4B (A0M (A3Q _));have I2:=Inv.made (C:=C) I;have r2:Vals (V.ref 0x11::(vs++jB)) (Value.ref 0x11::(us++ds)):=.cons rfl (r.append hd);have hl:(Value.ref 0x11::us++ds).length=ps.length:=by
  have e:=r2.length;rw[F.len _ _ _ _ hq]at e;exact e.symm
 refine A3R (Cu (f:=f) I.lZ M.makes M.init (A2P.mp M.fn) (A2Q (F.run _ X.stack _ _ ⟨Value.ref 0x11::us,[]⟩ (Value.ref 0x11::(us++ds)) _ _ E (hr.make C us [])
  (I2.env0.make C us []) (hb _ (Value.ref 0x11::us) I2.lZ hl) r2 hq) fun r s' hq'=>?_))
 cases r with
 |error e=>exact hx pins σ _ _ e s' I2 hq'
 | ok fl=>
  cases fl with
  | ret u=>
   obtain⟨v,H',I3,rv,ev,q3⟩:=I2.after hq';subst ev;exact⟨rv,⟨V.ref 0x11,H',I3,rfl,q3⟩⟩
  |next=>exact False.elim hq'
  |brk=>exact False.elim hq'
  |cont=>exact False.elim hq'
def zm(M:Mk X.K C f)(F:aL X.prog X.w X.K X.mg X.base CX k f fd ps sp)(hr:cG (k+1) X.A)(hg:Gl X x)(hm:X.mg x=some 0x59)(hb:Binds X.K fd ps ds)(hd:Vals jB ds)(hx:Passes CX X E)
  (ha:PA X (e::es) t)(hdb:0x24=false:=by decide)(he:starEach (e::es) X.env=0x2D::starEach es X.env:=by rfl)(hpl:(0x70).any (·.1)=false:=by rfl):
  PE X (.Call (.Name x p) (e::es) [] pos) (Zh C sp jB E t):=by
 intro pins s σ H Q I h;refine A1z (jY I hg hm ?_ hdb);refine A2l (h₀:=X.base) I.ok.mod.kin M.kp (cP 0x6C fun us s1 ⟨vs,H1,I1,r,q⟩=>⟨I1.lZ,?_⟩) he hpl;exact Cy M F hr hb hd hx I1 r q
def Qt(M:Mk X.K C f)(F:aL X.prog X.w X.K X.mg X.base CX k f fd ps sp)(hr:cG (k+1) X.A)(hg:Gl X x)(hm:X.mg x=some 0x59)(hb:Binds X.K fd ps ds)(hd:Vals jB ds)(hx:Passes CX X E)
  (hdb:0x24=false:=by decide):PE X (.Call (.Name x p) [] [] pos) (Zh C sp jB E lC):=by
 intro pins s σ H Q I h;refine A1z (jY I hg hm ?_ hdb);exact A4e I.lZ M.kp (Cy (us:=[]) M F hr hb hd hx I .nil h)
end
def PK(X:Cx)(kws:List Keyword)(t:TA):Prop:=
 ∀(pos:Pos)(pins:List 0x1E)(s:Shared)(σ:St)(H:Hp)(Q:List V->Hp->Prop),Inv X pins σ H s->t σ H Q->wpAny 0x9 X.A (evalAll ((backToKw pos (keywordEach kws X.env)).map (·.2))) (AP X pins σ Q) X.xe s
section
variable{k:Nat}{E:XK}{x m:Str}{p kpos:Pos}{o:Expr}{kws:List Keyword}{t tk:TA}{nm:Option Str}
def a0x:PK X [] lC:=fun _ _ _ _ H Q I h=>wpAny_evalAll_nil ⟨[],H,I,.nil,h⟩
def WK(ha:PE X e te)(hr:PK X kws t):PK X (⟨nm,e,kpos⟩::kws) (sJ te t):=by
 intro pos pins s σ H Q I h
 show wpAny _ _ (evalAll ((do let v<-eval e X.env;standAt pos;pure v)::(backToKw pos (keywordEach kws X.env)).map (·.2))) _ _ s
 refine wpAny_evalAll_cons (A0a (cP 0x3E fun u s1 ⟨x,H1,I1,r1,q1⟩=>A0a (A2Z (A0n ?_))));exact cP (hr pos pins s1 σ H1 _ I1 q1) fun us s2 ⟨xs,H2,I2,r2,q2⟩=>⟨x::xs,H2,I2,.cons r1 r2,q2⟩
structure KBinds(K:PySem.W.Frag)(fd:FuncData)(ps ks:List Str)(g:List Value->List Value->List Value)(gV:List V->List V->List V):Prop where
 to:∀(s:Shared)(us ws:List Value),K.In s.heap->(g us ws).length=ps.length->BindsTo s fd ⟨us,ks.zip ws⟩ (ps.zip (g us ws))
 rel:∀{vs:List V}{us:List Value}{zs:List V}{ws:List Value},Vals vs us->Vals zs ws->Vals (gV vs zs) (g us ws)
variable{g:List Value->List Value->List Value}{gV:List V->List V->List V}
end
structure aP(N P:List Str)(sc:Scope):Prop where
 kind:sc.kind=.function
 co:sc.isCoroutine=false
 gen:sc.isGenerator=false
 nd:N.Nodup
 pre:N.take P.length=P
 par:∀x∈P,sc.names.lookup x=some .local\/sc.names.lookup x=some .cell
 a0y:∀y∈sc.names,y.2≠.free
theorem xM{kindOf:Str->Option NameKind}{x:Str}:∀{binds:List 0x91}{m:Str->Option Value},(∀v,(x,v)∉binds)->bindL kindOf binds m x=m x
 |[],_,_=>rfl
 | (n,v)::r,m,h=>by
  unfold bindL;rw[xM fun w hw=>h w (jK _ hw)]
  split
  ·have:x≠n:=by rintro rfl;exact h v A0o
   simp[this]
  ·rfl
theorem xO{kindOf:Str->Option NameKind}{x:Str}:∀{binds:List 0x91}{m:Str->Option Value},(∀v,(x,v)∉binds)->bindC kindOf binds m x=m x
 |[],_,_=>rfl
 | (n,v)::r,m,h=>by
  unfold bindC;rw[xO fun w hw=>h w (jK _ hw)]
  split
  ·rfl
  ·have:x≠n:=by rintro rfl;exact h v A0o
   simp[this]
theorem xP{kindOf:Str->Option NameKind}{x:Str}{v:Value}:∀{P:List Str}{vs:List Value}{i:Nat}{m:Str->Option Value},P.Nodup->P[i]?=some x->vs[i]?=some v->kindOf x=some .local->
  bindL kindOf (P.zip vs) m x=some v
 |[],_,_,_,_,h,_,_=>by simp at h
 |_::_,[],_,_,_,_,h,_=>by simp at h
 | p::P,w::vs,0,m,nd,h1,h2,hk=>by
  simp at h1 h2;subst h1;subst h2
  show bindL kindOf ((p,w)::P.zip vs) m p=_
  unfold bindL;rw[xM fun v hv=>(A0L.mp nd).1 (A4O hv).1,A0i hk];simp
 | p::P,w::vs,i+1,m,nd,h1,h2,hk=>by
  show bindL kindOf ((p,w)::P.zip vs) m x=_
  unfold bindL;exact xP (i:=i) (A0L.mp nd).2 (by simpa using h1) (by simpa using h2) hk
theorem xQ{kindOf:Str->Option NameKind}{x:Str}{v:Value}:∀{P:List Str}{vs:List Value}{i:Nat}{m:Str->Option Value},P.Nodup->P[i]?=some x->vs[i]?=some v->kindOf x≠some .local->
  bindC kindOf (P.zip vs) m x=some v
 |[],_,_,_,_,h,_,_=>by simp at h
 |_::_,[],_,_,_,_,h,_=>by simp at h
 | p::P,w::vs,0,m,nd,h1,h2,hk=>by
  simp at h1 h2;subst h1;subst h2
  show bindC kindOf ((p,w)::P.zip vs) m p=_
  unfold bindC;rw[xO fun v hv=>(A0L.mp nd).1 (A4O hv).1,A0f hk];simp
 | p::P,w::vs,i+1,m,nd,h1,h2,hk=>by
  show bindC kindOf ((p,w)::P.zip vs) m x=_
  unfold bindC;exact xQ (i:=i) (A0L.mp nd).2 (by simpa using h1) (by simpa using h2) hk
def start(N:List Str)(vs:List V):St:=vs.map some++List.replicate (N.length-vs.length) none
def qw(CX:xK)(P:Program)(w:World)(K:PySem.W.Frag)(mg:Str->Option Value)(base:Heap)(N:List Str)(qual:Str)(scope:Scope)(f:Addr)(cd:Value)(A:Around)(outer:List Env)(s:Shared)(H:Hp)(E:XK):Cx where
 prog:=P
 w:=w
 K:=K
 mg:=mg
 base:=base
 A:=A.deeper 0x5E
 N:=N
 s₀:=s
 H₀:=H
 env:=envOfC qual scope s.heap.objs.size f cd
 outer:=outer
 stack:=envOfC qual scope s.heap.objs.size f cd::outer
 ex:=[]
 calm:=true
 fn:=fun _=>true
 pn:=[]
 xe:=fun e s'=>wpAny (model P w) (A.deeper 0x5E) (leaving 0x5E e) (fun _ s''=>CX outer H s E e s'') (fun e' s''=>CX outer H s E e' s'') s'
def Cz{sc:Scope}{x:Str}(h:sc.names.lookup x=some .cell):∃c,(cellsFrom n sc.names []).lookup x=some c:=by
 have q:=PySem.W.cellsFrom_some sc.names n [] (.inl h);exact A1O.mp q
def Mz{s1:Shared}{E:XK}{vs:List V}
  (S:aP N ps scope)(hd:A.handled=none)(e0:wV P w K mg base A outer s H)(hl:vs.length=ps.length)(r:Vals vs us)
  (x:InCallC s s.heap.objs.size (bindL (0x5E).kindOf (ps.zip us) fun _=>none) (cellsFrom 0x11 scope.names []) (bindC (0x5E).kindOf (ps.zip us) fun _=>none) s1):
  Inv (qw CX P w K mg base N qual scope f cd A outer s H E) [] (start N vs) H s1:=by
 have hpl:ps.length<=N.length:=by have:=A1R List.length S.pre;rw[A0H]at this;lia
 obtain⟨h1,tk,rfl,hk⟩:=x.done;have noA:∀b:Addr,b∉(qw CX P w K mg base N qual scope f cd A outer s H E).ex:=fun b z=>absurd (show b∈([]:List Addr)from z) 0xA
 refine⟨⟨e0.mod,S.kind,rfl,rfl,A0g _,fun y z c h1 h2=>?_,fun y hy=>?_,fun y c _ h=>?_,fun _=>hd,Around.frames_deeper e0.frames,.inr ⟨rfl,rfl⟩,fun b z=>absurd z (noA b),e0.bs,e0.Pj,fun b _ _=>noA b,fun b z=>absurd z (noA b),e0.nJ,e0.Wk⟩,
  rfl,e0.bare,Un.kept hk,⟨_,x.toInCall.ns,fun i y v h1 h2 h3=>?_⟩,fun y c h=>⟨_,x.cell y c h⟩,e0.hok.fresh 0x33,fun y c h=>?_,fun p hp=>absurd (show p∈([]:List 0x1E)from hp) 0xA,e0.hok.kept hk,?_⟩
 ·exact name_of_addr x.apart (A1w h1) (A1w h2)
 ·have hy:scope.names.lookup y=some .cell\/scope.names.lookup y=some .free:=hy;rcases hy with hy|hy
  ·exact Cz hy
  ·exact absurd rfl (S.a0y _ (A1w hy))
 ·exact A1P (x.above y c (A1w h))
 ·have hi:i<vs.length:=by
   unfold start at h2
   by_cases hi:i<vs.length
   ·exact hi
   ·rw[A0X (by simpa using hi)]at h2;rw[A3w]at h2
    split at h2<;>cases h2
  have ha:vs[i]?=some v:=by
   unfold start at h2;rw[A1k (by simpa using hi),pF]at h2;cases e:vs[i]? with
   |none=>rw[e]at h2;cases h2
   |some a=>rw[e]at h2;cases h2;rfl
  obtain⟨u,hu,rv⟩:=r.get ha;have hp:ps[i]?=some y:=by
   rw[<-S.pre,List.getElem?_take_of_lt 0x4];exact h1
  have ndP:ps.Nodup:=by rw[<-S.pre];exact S.nd.sublist (List.take_sublist _ _)
  refine⟨u,rv,?_⟩;rcases S.par y (wU hp)with k|k
  ·exact .inl ⟨k,xP ndP hp hu k⟩
  ·obtain⟨c,e⟩:=Cz (n:=s.heap.objs.size+1) k;refine .inr ⟨.inl k,c,e,?_⟩;have q:=x.cell y c e;rw[xQ ndP hp hu (by show scope.names.lookup y≠_;rw[k];decide)]at q
   exact q
 ·exact e0.hok.fresh (A1P (x.above y c (A1w h)))
 ·unfold start
  show _=N.length
  rw[iD,cM,A2r];lia
def xR{k:Nat}{params:Arguments}{dV kV doc pm cdv ct oc:Value}{an od:Option Addr}
  {osl:Array (Option Value)}(lk:K.lookup f=some ⟨oc,od,.func (PySem.W.fnOf name qual params body scope dV kV doc pm an cdv ct),osl⟩)(hcd:PySem.W.codeIn K cdv qual=true)(S:aP N ps scope)
  (len:∀vs H Q E,sp vs H Q E->vs.length=ps.length)
  (hbody:∀(A:Around)(outer:List Env)(s:Shared)(H:Hp)(vs:List V)(Q:VK)(E:XK),cG k (A.deeper (envOfC qual scope s.heap.objs.size f cdv))->sp vs H Q E->
   ∃t,BP (qw CX P w K mg base N qual scope f cdv A outer s H E) body t/\t {nx:=fun _ H'=>Q .non H',rt:=Q} (start N vs) H):
  aL P w K mg base CX (k+1) f (PySem.W.fnOf name qual params body scope dV kV doc pm an cdv ct) ps sp:=by
 refine⟨len,fun A outer s H args us vs Q E hr e0 hb r hsp=>?_⟩;have hl:=len _ _ _ _ hsp;have KX:K.In s.heap:=e0.mod.kin.keeps fun b o e=>(e0.bs b o e).1;have lim:s.heap.NoLimit:=e0.mod.nolimit.keeps fun b o e=>(e0.bs b o e).1;have hkind:∀y∈ps.zip us,scope.names.lookup y.1=some .local\/(scope.names.lookup y.1=some .cell/\((cellsFrom 0x11 scope.names []).lookup y.1).isSome=true):=fun⟨n,v⟩ hy=>by
  rcases S.par n (A4O hy).1 with q|q
  ·exact .inl q
  ·exact .inr ⟨q,PySem.W.cellsFrom_some _ _ _ (.inl q)⟩
 refine codeAny_call_function hr.depth (KX _ _ lk) rfl S.co S.gen rfl (PySem.W.codeRec_of KX hcd) (hb _ _ _ _ ?_);refine wpAny_newFunctionEnv_cells S.kind hkind fun env he s1 x=>?_;subst he;refine⟨lim.keeps x.toInCall.keep,codeAny_func ?_⟩;obtain⟨t,ht,hq⟩:=hbody A outer s H vs Q E (hr.deeper _) hsp;have I:Inv (qw CX P w K mg base N qual scope f cdv A outer s H E) [] (start N vs) H s1:=Mz S hr.hd e0 hl r x;refine A1i (ht [] s1 (start N vs) H _ I hq) (fun fl s' hs=>?_) fun e s' hs=>hs;have fin:∀{σ':St}{H':Hp}{v:V}{u:Value},Inv (qw CX P w K mg base N qual scope f cdv A outer s H E) [] σ' H' s'->RelV v u->Q v H'->CE outer P w H s Q u s':=
  fun{σ' H' v u}J rv q=>⟨v,H',J.os,J.bare,J.base,J.hok,rv,q⟩
 cases fl with
 | ret u=>
  obtain⟨v,σ',H',J,rv,q⟩:=hs;exact fin J rv q
 | next=>
  obtain⟨σ',H',J,q⟩:=hs;exact fin (v:=V.non) (u:=Value.none) J rfl q
 | brk=>
  obtain⟨_,_,_,q⟩:=hs;exact False.elim q
 | cont=>
  obtain⟨_,_,_,q⟩:=hs;exact False.elim q
section
variable{x:Str}{p:Pos}{t:TA}{id:String}{r:List V->Hp->VK->Prop}
def tCB(r:List V->Hp->VK->Prop)(t:TA):TE:=fun σ H Q=>t σ H fun vs H1=>r vs H1 Q
def bH(hc:gO X (.builtin id) r)(hg:Gl X x)(hm:X.mg x=none)(hv:bootBuiltins x=some (.builtin id))(ha:PA X (e::es) t)(hn:x≠"__name__":=by decide)(hdb:0x24=false:=by decide)
  (he:starEach (e::es) X.env=0x2D::starEach es X.env:=by rfl)(hpl:(0x70).any (·.1)=false:=by rfl):PE X (.Call (.Name x p) (e::es) [] pos) (tCB r t):=by
 intro pins s σ H Q I h;refine A1z (rG I hg hm hv ?_ hn hdb);exact PyProof.Rows.callWith_builtin1 (cP 0x6C fun us s1 ⟨vs,H1,I1,r1,q1⟩=>hc pins s1 σ H1 vs us Q I1 r1 q1) he hpl
def fV(hc:gO X (.type T) r)(hg:Gl X x)(hm:X.mg x=none)(hv:bootBuiltins x=some (.type T))(ha:PA X (e::es) t)(hn:x≠"__name__":=by decide)(hdb:0x24=false:=by decide)
  (he:starEach (e::es) X.env=0x2D::starEach es X.env:=by rfl)(hpl:(0x70).any (·.1)=false:=by rfl):PE X (.Call (.Name x p) (e::es) [] pos) (tCB r t):=by
 intro pins s σ H Q I h;refine A1z (rG I hg hm hv ?_ hn hdb);exact A3b (cP 0x6C fun us s1 ⟨vs,H1,I1,r1,q1⟩=>hc pins s1 σ H1 vs us Q I1 r1 q1) he hpl
end
end L2
variable{jB xs ys:List L2.V}{H H' H1 H2:L2.Hp}{o:L2.HO}{X:L2.Cx}{v y:L2.V}{σ:L2.St}{ta td te tl tv:L2.TE}{tb:L2.TS}{D:L2.Ends}{g:L2.TG}{wi:L2.TI}{fs':List (PySem.Str×L2.V)}{CX:L2.xK}{sp:L2.Sp}{tt:L2.TT}{du ho hs kvs ow:List (L2.Key×L2.V)}{Pq:List (L2.TE×L2.TE)}{dat:PySem.Addr->List L2.V}
namespace HT
open PySem PyProof.Rows
section
open PySem.SeqAt
open PySem.AutoSeq1(wpAny_loadPart')
open PySem.MeetsSeq PySem.MeetsSeq2 PySem.MeetsSeq3
end
def WL{t:Addr}{vs ws:List Value}(ht:IsTup s.heap t vs.toArray)(hb:IsTup s.heap b ws.toArray)(hv:vs≠[])
  (h1:ws=[]->Q 0x58 s)(h2:ws≠[]->Q 0x30 {s with heap:=s.heap.push {cls:=.type "tuple",data:=.seq (vs++ws).toArray}})
  (hsz:vs.length+ws.length<=sizeLine):wpAny 0x13 A (binaryOp .Add 0x58 (.ref b)) Q E s:=by
 obtain⟨⟨cls,dd,data,sl⟩,ho,hc,n,hd⟩:=id ht;obtain⟨⟨cls2,dd2,data2,sl2⟩,ho2,hc2,n2,hd2⟩:=id hb;simp only at hc hd hc2 hd2;subst hc hd hc2 hd2;have e:vs.toArray++ws.toArray=(vs++ws).toArray:=by simp
 by_cases hw:ws=[]
 ·exact concat_meets ⟨_,ho,rfl⟩ ⟨_,ho2,rfl⟩ noFill_tuple_add seq_tuple_add PySem.F.slot_tuple_add PySem.F.entry_tuple_add (PySem.F.args_tuple_add_2 _ _)
   (tuple_addW1 t b vs.toArray ws.toArray n n2 dd dd2 sl sl2 (by simpa using hv) (by simp[hw])) ⟨ho,ho2,h1 hw⟩
 ·refine concat_meets ⟨_,ho,rfl⟩ ⟨_,ho2,rfl⟩ noFill_tuple_add seq_tuple_add PySem.F.slot_tuple_add PySem.F.entry_tuple_add (PySem.F.args_tuple_add_2 _ _)
   (tuple_addW2 t b vs.toArray ws.toArray n n2 dd dd2 sl sl2 (by simpa using hv) (by simpa using hw) (by rw[A0u,A0u];exact hsz)) ⟨ho,ho2,?_⟩
  rw[e];exact h2 hw
def fQ(n d:Nat):Option Int->Nat
 |none=>d
 |some v=>if v<0 then(v+(n:Int)).toNat else min v.toNat n
def mq(n d k:Nat):fQ n d (some (k:Int))=min k n:=by
 show(if(k:Int)<0 then((k:Int)+(n:Int)).toNat else min (k:Int).toNat n)=min k n
 rw[A0f 0x4,A3J]
def Qu(n d:Nat)(hd:d<=n)(o:Option Int):fQ n d o<=n:=by
 cases o with
 |none=>exact hd
 | some v=>
  show(if v<0 then(v+(n:Int)).toNat else min v.toNat n)<=n
  by_cases hv:v<0
  ·rw[A0i hv];lia
  ·rw[A0f hv];exact Nat.min_le_right _ _
def Jx(v:Int)(n d:Nat):(if v<0 then max (v+(n:Int)) 0 else min v (n:Int))=((fQ n d (some v):Nat):Int):=by
 show(if v<0 then max (v+(n:Int)) 0 else min v (n:Int))=(((if v<0 then(v+(n:Int)).toNat else min v.toNat n):Nat):Int)
 by_cases hv:v<0
 ·simp only[A0i hv];lia
 ·simp only[A0f hv];lia
def Gk(lo hi:Option Int)(n:Nat):Builtin.Slice.sliceAdjust lo hi 1 (n:Int)=(((fQ n 0 lo:Nat):Int),((fQ n n hi:Nat):Int)):=by
 have h1:¬((1:Int)<0):=by lia
 unfold Builtin.Slice.sliceAdjust;simp only[h1,A3f];refine Prod.ext ?_ ?_
 ·cases lo with
  |none=>rfl
  |some v=>exact Jx v n 0
 ·cases hi with
  |none=>rfl
  |some v=>exact Jx v n n
def Gm(i j:Nat):Builtin.Slice.slicePlaces (i:Int) (j:Int) 1=j-i:=by
 unfold Builtin.Slice.slicePlaces;have h1:(1:Int)>0:=by lia
 simp only[h1,A3j,Int.ediv_one]
 split<;>lia
def uP{v:Value}{o:Option Int}{Q:Option Int->Shared->Prop}(p:IsPart v o)(h:Q o s):wpAny 0x13 A (Builtin.Slice.slicePartIndex v) Q E s:=by
 cases p with
 |none=>exact slicePart_none h
 |int i t=>exact slicePart_int h
def lM{lo hi:Option Int}{Q:Int×Int×Nat->Shared->Prop}(hs:s.heap.IsSliceOf sl vl vu .none)(pl:IsPart vl lo)(pu:IsPart vu hi)
  (h:Q (((fQ n 0 lo:Nat):Int),1,fQ n n hi-fQ n 0 lo) s):wpAny 0x13 A (Builtin.Slice.sliceApplied (.ref sl) (pure (n:Int))) Q E s:=by
 obtain⟨os,hos,hcs,hds⟩:=id hs;unfold Builtin.Slice.sliceApplied Builtin.Slice.sliceFields;refine A0a (A0a (A1N hos hds (x:=vl) rfl (A0a (A1N hos hds (x:=vu) rfl (A0a (A1N hos hds (x:=.none) rfl (A0n ?_)))))));refine A0a (slicePart_none ?_)
 show wpAny _ _ (if((1:Int)==0)=true then _ else _) _ _ s
 rw[A0f 0x5];refine A0a (uP pl (A0a (uP pu (A0a (A0n ?_)))))
 show wpAny _ _ (match Builtin.Slice.sliceAdjust lo hi 1 (n:Int)with|(lo,hi)=>pure (lo,(1:Int),Builtin.Slice.slicePlaces lo hi 1)) _ _ s
 rw[Gk lo hi n]
 show wpAny _ _ (pure (((fQ n 0 lo:Nat):Int),(1:Int),Builtin.Slice.slicePlaces ((fQ n 0 lo:Nat):Int) ((fQ n n hi:Nat):Int) 1)) _ _ s
 rw[Gm];exact A0n h
def Qw(xs:Array Value)(i k:Nat):((List.range k).filterMap fun(m:Nat)=>xs[((i:Int)+(m:Int)*1).toNat]?).toArray=((xs.toList.drop i).take k).toArray:=by
 have e:(fun(m:Nat)=>xs[((i:Int)+(m:Int)*1).toNat]?)=fun m=>xs[i+m]?:=by
  funext m
  have:((i:Int)+(m:Int)*1).toNat=i+m:=by lia
  rw[this]
 rw[e];have:=pick_run xs i k;rw[List.filterMap_map]at this;have e2:((fun x=>xs[x]?)∘fun x=>i+x)=fun m=>xs[i+m]?:=rfl;rw[e2]at this;rw[this]
def qx{t:Addr}{items:Array Value}{lo hi:Option Int}(ht:IsTup s.heap t items)(hs:s.heap.IsSliceOf sl vl vu .none)(pl:IsPart vl lo)(pu:IsPart vu hi)
  (hw:¬(fQ items.size 0 lo=0/\fQ items.size items.size hi=items.size))
  (h:Q 0x30 {s with heap:=s.heap.push {cls:=.type "tuple",data:=.seq ((items.toList.drop (fQ items.size 0 lo)).take 0x27).toArray}})
  (hsz:items.size<=sizeLine):wpAny 0x13 A (getItem 0x58 (.ref sl)) Q E s:=by
 have Jy:sizeOk (.seq ((items.toList.drop (fQ items.size 0 lo)).take 0x27).toArray):=by
  show((items.toList.drop (fQ items.size 0 lo)).take 0x27).toArray.size<=sizeLine
  rw[A0u,A0H,A1J,A1o];lia
 have hj:fQ items.size items.size hi<=items.size:=Qu _ _ 0x33 hi;obtain⟨os,hos,hcs,hds⟩:=id hs;have hTs:s.TypeIs (.ref sl) "slice":=⟨os,hos,hcs⟩;unfold getItem
 try with_reducible refine A1U ?_
 first|refine A0a (A0n ?_)|skip
 refine A0a (wpAny_sequenceKey ht.typeIs 0x5 ?_);refine A0a (A1y (name:=Str.ofString "__getitem__") ht.typeIs A1m
  (A2b A1m ht.typeIs entry_tuple_getitem ?_ (args_tuple_getitem _ _)))
 show wpAny _ _ (Builtin.Tuple.tupleItemsOf 0x58>>=_) _ _ s
 refine A0a (tupleItemsOf_ ht ?_);refine A0a (A4N hTs ?_);rw[A0i 0x5];refine A0a (lM hs pl pu ?_);have hno:¬((((fQ items.size 0 lo:Nat):Int)==0&&(1:Int)==1&&0x27==items.size)=true):=by
  intro q;rw[A0Y,A0Y]at q;have q1:((fQ items.size 0 lo:Nat):Int)=0:=eq_of_beq q.1.1;have q2:fQ items.size items.size hi-fQ items.size 0 lo=items.size:=eq_of_beq q.2;exact hw ⟨by lia,by lia⟩
 show wpAny _ _ (if(((fQ items.size 0 lo:Nat):Int)==0&&(1:Int)==1&&0x27==items.size)=true then _ else _) _ _ s
 rw[A0f hno,Qw]
 first
  |exact A0a (m:=Builtin.Tuple.tupleExact _) (A1V (A0n ⟨_,rfl,A0n h⟩) Jy)
  |exact A0a (m:=Builtin.Tuple.tupleExact _) (A1V (A0a (A0n (A0n ⟨_,rfl,A0n h⟩))) Jy)
  |exact A0a (A0a (m:=Builtin.Tuple.tupleExact _) (A1V (A0n (A0n ⟨_,rfl,A0n h⟩)) Jy))
  |exact A0a (A0a (m:=Builtin.Tuple.tupleExact _) (A1V (A0n ⟨_,rfl,A0n h⟩) Jy))
end HT
namespace L2
open PySem PySem.Spec PyProof.Rows
abbrev TO:=St->Hp->(Option Int->Hp->Prop)->Prop
def PO(X:Cx)(e:Option Expr)(t:TO):Prop:=
 ∀ (pins:List 0x1E)(s:Shared)(σ:St)(H:Hp)(Q:Option Int->Hp->Prop),Inv X pins σ H s->t σ H Q->
  wpAny 0x9 X.A (evalPart e X.env) (fun u s'=>∃o H',Inv X pins σ H' s'/\IsPart u o/\Q o H') X.xe s
def WM:TO:=fun _ H Q=>Q none H
inductive Jz(Q:Option Int->Hp->Prop)(x:V)(H1:Hp):Prop
 |mk(i:Int)(_:x=.int i)(_:Q (some i) H1):Jz Q x H1
def a2C(t:TE):TO:=fun σ H Q=>t σ H fun x H1=>Jz Q x H1
section
variable{lo hi:Option Expr}{tl th:TO}{p2:Pos}
def iI:PO X none WM:=by
 intro pins s σ H Q I h;rw[evalPart_none];exact A0n ⟨none,H,I,.none,h⟩
def cU(h:PE X e te):PO X (some e) (a2C te):=by
 intro pins s σ H Q I hw;rw[evalPart_some];refine cP (h pins s σ H _ I hw) fun u s1 zq=>?_;obtain⟨x,H1,I1,r1,q1⟩:=zq;obtain⟨i,rfl,q⟩:=q1;obtain⟨t,rfl⟩:=r1;exact⟨some i,H1,I1,.int i t,q⟩
inductive Zi(X:Cx)(pins:List (Prod Addr Obj))(s:Shared)(σ:L2.St)(v:Value)(sl:Addr)(Q:VK):Prop
 |mk(T id:String)(_:typeLookup (.type T) "__getitem__"=pure (some (.builtin id)))(_:s.TypeIs v T)(_:wpAny 0x9 X.A (getItem v (.ref sl)) 0x37 X.xe s):Zi X pins s σ v sl Q
def SlR(X:Cx)(r:V->Option Int->Option Int->Hp->VK->Prop):Prop:=
 ∀ (pins:List 0x1E)(s:Shared)(σ:St)(H:Hp)(x:V)(v vl vu:Value)(lo hi:Option Int)(sl:Addr)(Q:VK),Inv X pins σ H s->RelV x v->s.heap.IsSliceOf sl vl vu .none->IsPart vl lo->IsPart vu hi->r x lo hi H Q->
  Zi X pins s σ v sl Q
def tSl(r:V->Option Int->Option Int->Hp->VK->Prop)(te:TE)(tl th:TO):TE:=fun σ H Q=>te σ H fun x H1=>tl σ H1 fun l H2=>th σ H2 fun u H3=>r x l u H3 Q
def eG{r:V->Option Int->Option Int->Hp->VK->Prop}(hr:SlR X r)(he:PE X e te)(hl:PO X lo tl)(hu:PO X hi th):PE X (.Subscript e (.Slice lo hi none p2) pos) (tSl r te tl th):=by
 intro pins s σ H Q I h;refine Subscript_ (cP 0x49 fun v s1 zq=>?_);obtain⟨x,H1,I1,r1,q1⟩:=zq;refine wpAny_Slice (cP (hl pins s1 σ H1 _ I1 q1) fun vl s2 ⟨l,H2,I2,pl,q2⟩=>cP (hu pins s2 σ H2 _ I2 q2) fun vu s3 zq=>?_);obtain⟨u,H3,I3,pu,q3⟩:=zq;rw[evalPart_none];refine A0n ?_;have I4:Inv X pins σ H3 {s3 with heap:=s3.heap.push {cls:=.type "slice",data:=.fields #[vl,vu,.none]}}:=I3.kept (t':=s3.toks) fun b ob q=>A0c _ q;obtain⟨T,id,hT,ht,hg⟩:=hr pins {s3 with heap:=s3.heap.push {cls:=.type "slice",data:=.fields #[vl,vu,.none]}} σ H3 x v vl vu l u s3.heap.objs.size Q I4 r1 (Heap.IsSliceOf.new ..) pl pu q3
 show wpAny 0x9 X.A (subscriptTail e (.Slice lo hi none p2) v (.ref s3.heap.objs.size)) 0x37 X.xe {s3 with heap:=s3.heap.push {cls:=.type "slice",data:=.fields #[vl,vu,.none]}}
 exact tail_any (ops:=[.ref s3.heap.objs.size,v]) ht hT hg 0x12
def iG(xs:List V)(lo hi:Option Int):List V:=(xs.drop (HT.fQ xs.length 0 lo)).take 0x78
def jZ(xs:List V)(lo hi:Option Int):(iG xs lo hi).length<=xs.length:=by
 unfold iG;rw[A0H,A1J];lia
inductive a0z(K:W.Frag)(x:V)(lo hi:Option Int)(H:Hp)(Q:VK):Prop
 |mk(a:Addr)(xs:List V)(_:x=.ref a)(_:bN K H a xs)(_:¬(HT.fQ xs.length 0 lo=0/\HT.fQ xs.length xs.length hi=xs.length))(_:∀p,H p=none->Q 0x46 (upd H p (.tup (iG xs lo hi)))):a0z K x lo hi H Q
def Qx:SlR X (a0z X.K):=by
 intro pins s σ H x v vl vu lo hi sl Q I rx hs pl pu h;obtain⟨a,xs,rfl,hx,hw,q⟩:=h;cases rx;obtain⟨its,r,ht,hz⟩:=I.tuple hx;have hlen:its.toArray.size=xs.length:=by rw[A0u];exact r.length.symm
 refine⟨"tuple",_,A1m.lookup,ht.typeIs,?_⟩;refine HT.qx ht hs pl pu (by rw[hlen];exact hw) ?_ (by rw[hlen];exact hz);rw[hlen];refine⟨.ref s.heap.objs.size,_,I.laid (t':=s.toks) (o:=.tup (iG xs lo hi)) (fun b ob q=>A0c _ q) 0x33 ?_,rfl,q _ 0x4B⟩;exact⟨A0z (jZ xs lo hi) hz,_,(r.drop (HT.fQ xs.length 0 lo)).take 0x78,IsTup.new _ _⟩
inductive Qy(K:W.Frag)(x y:V)(H:Hp)(Q:VK):Prop
 |mk(a b:Addr)(xs ys:List V)(_:x=.ref a)(_:y=.ref b)(_:bN K H a xs)(_:bN K H b ys)(_:xs≠[])(_:xs.length+ys.length<=sizeLine)(_:(ys=[]->Q 0x4E H))(_:(ys≠[]->∀p,H p=none->Q 0x46 (upd H p (.tup (xs++ys))))):Qy K x y H Q
def Vals.zp(r:Vals xs us):us=[]↔xs=[]:=by
 cases r with
 |nil=>simp
 |cons _ _=>simp
def WQ:lK X (binaryOp .Add) (Qy X.K):=by
 intro pins s σ H x y v u Q I rx ry h;obtain⟨a,b,xs,ys,rfl,rfl,ha,hb,hx,hz,q1,q2⟩:=h;cases rx;cases ry;obtain⟨its,r1,p1,_⟩:=I.tuple ha;obtain⟨its2,r2,p2,_⟩:=I.tuple hb;refine HT.WL p1 p2 (fun z=>hx (r1.zp.mp z)) (fun z=>⟨.ref a,H,I,rfl,q1 (r2.zp.mp z)⟩) (fun z=>?_) (by rw[<-r1.length,<-r2.length];exact hz);refine⟨.ref s.heap.objs.size,_,I.laid (t':=s.toks) (o:=.tup (xs++ys)) (fun b ob q=>A0c _ q) 0x33 ?_,rfl,q2 (fun w=>z (r2.zp.mpr w)) _ 0x4B⟩;exact⟨by rw[iD];exact hz,_,r1.append r2,IsTup.new _ _⟩
end
def Zj(n:Nat)(i:Int):Option Nat:=if 0<=i then(if i<n then some i.toNat else none)else if -(n:Int)<=i then some (i+n).toNat else none
def xT{α:Type}(xs:List α)(i:Int):Option α:=(Zj xs.length i).bind fun j=>xs[j]?
def WR{i:Int}(h:Zj n i=some j):seqIndex? i n=some j/\j<n/\-(n:Int)<=i/\i<n:=by
 unfold Zj at h
 by_cases h0:0<=i
 ·rw[A0i h0]at h
  by_cases h1:i<n
  ·rw[A0i h1]at h;have e:i.toNat=j:=A1b h;exact⟨by rw[seqIndex_of h0 h1,e],by lia,by lia,h1⟩
  ·rw[A0f h1]at h;cases h
 ·rw[A0f h0]at h
  by_cases h1:-(n:Int)<=i
  ·rw[A0i h1]at h;have e:(i+n).toNat=j:=A1b h;exact⟨by rw[seqIndex_neg 0x4 h1,e],by lia,h1,by lia⟩
  ·rw[A0f h1]at h;cases h
def zu{α:Type}{xs:List α}{i:Int}{v:α}(h:xT xs i=some v):∃j,seqIndex? i xs.length=some j/\xs[j]?=some v/\j<xs.length/\-(xs.length:Int)<=i/\i<xs.length:=by
 unfold xT at h;cases e:Zj xs.length i with
 |none=>rw[e]at h;cases h
 | some j=>
  rw[e]at h;obtain⟨h1,h2,h3,h4⟩:=WR e;exact⟨j,h1,h,h2,h3,h4⟩
def aH{α:Type}{xs:List α}{v:α}(h:xs[j]?=some v):xT xs (j:Int)=some v:=by
 have hj:j<xs.length:=(A0j.mp h).1;have e:Zj xs.length (j:Int)=some j:=by
  unfold Zj;rw[A0i 0x4,A0i 0x4];simp
 unfold xT;rw[e];exact h
def CG{α:Type}(xs:List α)(v:α):xT (xs++[v]) (-1)=some v:=by
 have hl:(xs++[v]).length=xs.length+1:=by simp
 have e:Zj (xs++[v]).length (-1)=some xs.length:=by
  unfold Zj;rw[hl,A0f 0x5,A0i 0x4]
  congr 1
  lia
 unfold xT;rw[e]
 show(xs++[v])[xs.length]?=some v
 simp
def WT(b:Expr):Prop:=∀o i,subscripted b false o i=operate [o,i] (getItem o i)
def IxR(X:Cx)(r:R2):Prop:=
 ∀ (value slice:Expr)(pins:List 0x1E)(s:Shared)(σ:St)(H:Hp)(x y:V)(v u:Value)(Q:VK),Inv X pins σ H s->RelV x v->RelV y u->r x y H Q->
  subscripted slice false v u=operate [v,u] (getItem v u)->wpAny 0x9 X.A (subscriptTail value slice v u) 0x37 X.xe s
def MtR(X:Cx)(id:String)(r:V->List V->Hp->VK->Prop):Prop:=
 ∀ (pins:List 0x1E)(s:Shared)(σ:St)(H:Hp)(x:V)(xs:List V)(v:Value)(us:List Value)(Q:VK),Inv X pins σ H s->RelV x v->Vals xs us->r x xs H Q->
  wpAny 0x9 X.A (call (.builtin id) (v::us)) 0x37 X.xe s
section
variable{a b:Expr}{tb:TE}
def aN{r:R2}(hr:IxR X r)(ha:PE X a ta)(hb:PE X b tb)(hs:WT b):PE X (.Subscript a b pos) (tOp r ta tb):=by
 intro pins s σ H Q I h;exact Subscript_ (a0q ha hb I h fun v u s2 x y H2 I2 rx ry q=>hr a b pins s2 σ H2 x y v u Q I2 rx ry q (hs _ _))
inductive a0A(K:W.Frag)(x y:V)(H:Hp)(Q:VK):Prop
 |mk(p:Addr)(xs:List V)(i:Int)(v:V)(_:x=.ref p)(_:y=.int i)(_:bY K H p xs)(_:xT xs i=some v)(_:Q v H):a0A K x y H Q
inductive a0B(K:W.Frag)(x y:V)(H:Hp)(Q:VK):Prop
 |mk(p:Addr)(xs:List V)(i:Int)(v:V)(_:x=.ref p)(_:y=.int i)(_:bN K H p xs)(_:xT xs i=some v)(_:Q v H):a0B K x y H Q
inductive rIxS(x y:V)(H:Hp)(Q:VK):Prop
 |mk(z:Str)(i:Int)(c:Nat)(_:x=.str z)(_:y=.int i)(_:z.length<=sizeLine)(_:xT z.cps.toList i=some c)(_:Q (.str ⟨#[c]⟩) H):rIxS x y H Q
def bD:IxR X (a0A X.K):=by
 intro value slice pins s σ H x y v u Q I rx ry h hs;obtain⟨p,xs,i,z,rfl,rfl,hq,he,q⟩:=h;cases rx;obtain⟨t,rfl⟩:=ry;obtain⟨its,r,pl,hz⟩:=I.list hq;obtain⟨j,h1,h2,h3,h4,h5⟩:=zu he;obtain⟨w,ew,cN⟩:=r.get h2;have hl:=r.length;have hn:=uM;have fin:EP X pins σ Q w s:=⟨z,H,I,cN,q⟩
 by_cases h0:0<=i
 ·have hj:i.toNat=j:=by
   rw[seqIndex_of h0 h5]at h1;exact A1b h1
  exact item_listR pl.isList h0 0x4 (by rw[hj];simpa using ew) fin hs
 ·have hj:(i+(its.toArray.size:Int)).toNat=j:=by
   rw[seqIndex_neg 0x4 h4]at h1;rw[A0u,<-hl];exact A1b h1
  exact subscriptTail_builtinR (x:=w) pl.isList.typeIs A4s.lookup
   (wpAny_getItem_list_neg (Q:=fun r s'=>r=w/\EP X pins σ Q r s') pl.isList 0x4 (by rw[A0u]<;>lia) 0x4 (by rw[hj];simpa using ew) ⟨rfl,fin⟩) hs
def aY:IxR X (a0B X.K):=by
 intro value slice pins s σ H x y v u Q I rx ry h hs;obtain⟨p,xs,i,z,rfl,rfl,hq,he,q⟩:=h;cases rx;obtain⟨t,rfl⟩:=ry;obtain⟨its,r,pl,hz⟩:=I.tuple hq;obtain⟨j,h1,h2,h3,h4,h5⟩:=zu he;obtain⟨w,ew,cN⟩:=r.get h2;have hl:=r.length;have hn:=uM;have fin:EP X pins σ Q w s:=⟨z,H,I,cN,q⟩;exact subscriptTail_builtinR (x:=w) pl.typeIs slot_tuple_getitem.lookup
  (getItem_tuple (j:=j) (Q:=fun r s'=>r=w/\EP X pins σ Q r s') pl 0x4 0x4 (by rw[A0u,<-hl];exact h1) (by simpa using ew) ⟨rfl,fin⟩) hs
def Qz:IxR X rIxS:=by
 intro value slice pins s σ H x y v u Q I rx ry h hs;obtain⟨z,i,c,rfl,rfl,hz,he,q⟩:=h;obtain⟨t,rfl⟩:=rx;obtain⟨t',rfl⟩:=ry;obtain⟨j,h1,h2,h3,h4,h5⟩:=zu he;have hl:z.cps.toList.length=z.length:=by simp[Str.length]
 rw [hl]at h1 h4 h5;have hn:=uM;exact tail_any (typeIs_str s z t) slot_str_getitem.lookup (getItem_str (c:=c) (by
  have e1:decide (i< -(2^63:Int))=false:=A0p 0x4;have e2:decide (i>=2^63)=false:=A0p 0x4;rw[e1,e2,Bool.or_false]) (by rw[h1];simpa using h2) ⟨.str ⟨#[c]⟩,H,I.tok _,⟨_,rfl⟩,q⟩) hs
def zx(lo hi:Option Int)(n:Nat):(sliceBounds lo hi none n).1=((HT.fQ n 0 lo:Nat):Int)/\(sliceBounds lo hi none n).2.1=((HT.fQ n n hi:Nat):Int)/\(sliceBounds lo hi none n).2.2=1:=by
 refine⟨?_,?_,rfl⟩
 ·cases lo with
  |none=>simp[sliceBounds,HT.fQ]
  | some i=>
   simp only[sliceBounds,HT.fQ,Option.getD_none,show(1:Int)>0 by decide,A3j]
   by_cases h:i<0
   ·simp only[h,A3j]<;>lia
   ·simp only[h,A3f]<;>lia
 ·cases hi with
  |none=>simp[sliceBounds,HT.fQ]
  | some i=>
   simp only[sliceBounds,HT.fQ,Option.getD_none,show(1:Int)>0 by decide,A3j]
   by_cases h:i<0
   ·simp only[h,A3j]<;>lia
   ·simp only[h,A3f]<;>lia
def wW(its:List Value)(lo hi:Option Int):slicePick its.toArray lo hi none=((its.drop (HT.fQ its.length 0 lo)).take (HT.fQ its.length its.length hi-HT.fQ its.length 0 lo)).toArray:=by
 obtain⟨h1,h2,h3⟩:=zx lo hi its.toArray.size;unfold slicePick;rw[h1,h2,h3];simp only[sliceRange_one,pick_run,A0u]<;>rfl
inductive rSlL(K:W.Frag)(x:V)(lo hi:Option Int)(H:Hp)(Q:VK):Prop
 |mk(a:Addr)(xs:List V)(_:x=.ref a)(_:bY K H a xs)(_:∀p,H p=none->Q 0x46 (upd H p (.lst (iG xs lo hi)))):rSlL K x lo hi H Q
def mG:SlR X (rSlL X.K):=by
 intro pins s σ H x v vl vu lo hi sl Q I rx hs pl pu h;obtain⟨a,xs,rfl,hx,q⟩:=h;cases rx;obtain⟨its,r,ht,hz⟩:=I.list hx;have hlen:=r.length;refine⟨"list",_,A4s.lookup,ht.isList.typeIs,?_⟩;refine wpAny_getItem_list_slice ht.isList hs pl pu .none 0xA ?_ (by rw[A0u]<;>lia);rw[wW,<-hlen];refine⟨.ref s.heap.objs.size,_,I.laid (t':=s.toks) (o:=.lst (iG xs lo hi)) (fun b ob q=>A0c _ q) 0x33 ?_,rfl,q _ 0x4B⟩;exact⟨A0z (jZ xs lo hi) hz,_,0,(r.drop (HT.fQ xs.length 0 lo)).take 0x78,A0x _ rfl⟩
def qy:V->Bool
 | .non=>true
 | .bl _=>true
 | .int _=>true
 | .str _=>true
 |_=>false
def Zk:V->V->Bool
 | .non,.non=>true
 | .bl a,.bl b=>a==b
 | .bl a,.int b=>(if a then 1 else 0)==b
 | .int a,.bl b=>a==(if b then 1 else 0)
 | .int a,.int b=>a==b
 | .str a,.str b=>a==b
 |_,_=>false
def a0C{x:V}{v:Value}(ry:RelV y u)(rx:RelV x v)(fy:qy y=true)(fx:qy x=true):SeqAt.EqAt A s u v (Zk y x):=by
 cases y with
 | non=>
  cases ry;cases x with
  |non=>cases rx;exact SeqAt.EqAt.same _
  |bl b=>cases rx;exact SeqAt.EqAt.none_bool b
  |int b=>obtain⟨t,rfl⟩:=rx;exact SeqAt.EqAt.none_int b t
  |str b=>obtain⟨t,rfl⟩:=rx;exact SeqAt.EqAt.none_str b t
  |_=>exact absurd (show false=true from fx) A0r
 | bl a=>
  cases ry;cases x with
  |non=>cases rx;exact SeqAt.EqAt.bool_none a
  |bl b=>cases rx;exact SeqAt.EqAt.bool_bool a b
  |int b=>obtain⟨t,rfl⟩:=rx;exact SeqAt.EqAt.bool_int a b t
  |str b=>obtain⟨t,rfl⟩:=rx;exact SeqAt.EqAt.bool_str a b t
  |_=>exact absurd (show false=true from fx) A0r
 | int a=>
  obtain⟨t',rfl⟩:=ry;cases x with
  |non=>cases rx;exact SeqAt.EqAt.int_none a t'
  |bl b=>cases rx;exact SeqAt.EqAt.int_bool a t' b
  |int b=>obtain⟨t,rfl⟩:=rx;exact SeqAt.EqAt.int_int a t' b t
  |str b=>obtain⟨t,rfl⟩:=rx;exact A4j a t' b t
  |_=>exact absurd (show false=true from fx) A0r
 | str a=>
  obtain⟨t',rfl⟩:=ry;cases x with
  |non=>cases rx;exact SeqAt.EqAt.str_none a t'
  |bl b=>cases rx;exact SeqAt.EqAt.str_bool a t' b
  |int b=>obtain⟨t,rfl⟩:=rx;exact A4k a t' b t
  |str b=>obtain⟨t,rfl⟩:=rx;exact A4n a t' b t
  |_=>exact absurd (show false=true from fx) A0r
 |_=>exact absurd (show false=true from fy) A0r
def Gn(x:V)(u:Value):Bool:=match u with
 | .none=>Zk .non x
 | .bool b=>Zk (.bl b) x
 | .int i _=>Zk (.int i) x
 | .str z _=>Zk (.str z) x
 |_=>false
def QB{x:V}(r:RelV y u)(f:qy y=true):Gn x u=Zk y x:=by
 cases y with
 |non=>cases r;rfl
 |bl b=>cases r;rfl
 |int i=>obtain⟨t,rfl⟩:=r;rfl
 |str z=>obtain⟨t,rfl⟩:=r;rfl
 |_=>exact absurd (show false=true from f) A0r
theorem qz{x:V}:∀{xs:List V}{us:List Value},Vals xs us->xs.all qy=true->us.any (Gn x)=xs.any fun y=>Zk y x
 |_,_,.nil,_=>rfl
 | y::xs,u::us,.cons r t,f=>by
  rw[A2j,A0Y]at f;rw[A2k,A2k,QB r f.1,qz t f.2]
theorem nZ{x:V}{v:Value}(rx:RelV x v)(fx:qy x=true):∀{xs:List V}{us:List Value},Vals xs us->xs.all qy=true->∀u∈us,SeqAt.EqAt A s u v (Gn x u)
 |_,_,.nil,_=>fun u hu=>by cases hu
 | y::xs,u::us,.cons r t,f=>fun u' hu=>by
  rw[A2j,A0Y]at f;rcases A0d.mp hu with rfl|hu
  ·rw[QB r f.1];exact a0C r rx f.1 fx
  ·exact nZ rx fx t f.2 u' hu
def inV(x:V)(xs:List V):Bool:=xs.any fun y=>Zk y x
inductive rIn(K:W.Frag)(neg:Bool)(x y:V)(H:Hp)(Q:VK):Prop
 |mk(p:Addr)(xs:List V)(_:y=.ref p)(_:(bY K H p xs\/bN K H p xs))(_:qy x=true)(_:xs.all qy=true)(_:Q (.bl (if neg then !inV x xs else inV x xs)) H):rIn K neg x y H Q
def iz:lK X (compareOp .In) (rIn X.K false):=by
 intro pins s σ H x y v u Q I rx ry h;obtain⟨p,xs,rfl,hq,fx,fs,q⟩:=h;cases ry;rcases hq with hq|hq
 ·obtain⟨its,r,pl,hz⟩:=I.list hq;refine SeqAt.in_listAt (Gn x) pl.isList (fun w hw=>nZ rx fx r fs w (by simpa using hw)) ⟨.bl _,H,I,rfl,?_⟩;rw[show its.toArray.any (Gn x)=its.any (Gn x) by simp,qz r fs]
  exact q
 ·obtain⟨its,r,pl,hz⟩:=I.tuple hq;refine SeqAt.in_tupleAt (Gn x) pl (fun w hw=>nZ rx fx r fs w (by simpa using hw)) ⟨.bl _,H,I,rfl,?_⟩;rw[show its.toArray.any (Gn x)=its.any (Gn x) by simp,qz r fs]
  exact q
def mH:lK X (compareOp .NotIn) (rIn X.K true):=by
 intro pins s σ H x y v u Q I rx ry h;obtain⟨p,xs,rfl,hq,fx,fs,q⟩:=h;cases ry;rcases hq with hq|hq
 ·obtain⟨its,r,pl,hz⟩:=I.list hq;refine SeqAt.notIn_listAt (Gn x) pl.isList (fun w hw=>nZ rx fx r fs w (by simpa using hw)) ⟨.bl _,H,I,rfl,?_⟩;rw[show its.toArray.any (Gn x)=its.any (Gn x) by simp,qz r fs]
  exact q
 ·obtain⟨its,r,pl,hz⟩:=I.tuple hq;refine SeqAt.notIn_tupleAt (Gn x) pl (fun w hw=>nZ rx fx r fs w (by simpa using hw)) ⟨.bl _,H,I,rfl,?_⟩;rw[show its.toArray.any (Gn x)=its.any (Gn x) by simp,qz r fs]
  exact q
def cY:gO X (.builtin "len") (fun xs H Q=>∃p ys,xs=[.ref p]/\(bY X.K H p ys\/bN X.K H p ys)/\Q (.int ys.length) H):=by
 intro pins s σ H xs us Q I r h;obtain⟨p,ys,rfl,hq,q⟩:=h;obtain⟨u,rfl,rx⟩:=vals1 r;cases rx;have hn:=uM;rcases hq with hq|hq
 ·obtain⟨its,r',pl,hz⟩:=I.list hq;have hlen:=r'.length;exact Calls.call_len_list pl.isList (by simp only[A0u]<;>lia) ⟨.int ys.length,H,I.tok _,⟨s.toks+1,by rw[A0u,hlen]⟩,q⟩
 ·obtain⟨its,r',pl,hz⟩:=I.tuple hq;have hlen:=r'.length;exact len_tuple pl (by simp only[A0u]<;>lia) ⟨.int ys.length,H,I.tok _,⟨s.toks+1,by rw[A0u,hlen]⟩,q⟩
def zy:gO X (.builtin "len") (fun xs H Q=>∃z,xs=[.str z]/\z.length<=sizeLine/\Q (.int z.length) H):=by
 intro pins s σ H xs us Q I r h;obtain⟨z,rfl,hz,q⟩:=h;obtain⟨u,rfl,t,rfl⟩:=vals1 r;have hn:=uM;exact len_str 0x4 ⟨.int z.length,H,I.tok _,⟨_,rfl⟩,q⟩
def zA:gO X (.type "list") (fun xs H Q=>∃p ys,xs=[.ref p]/\(bY X.K H p ys\/bN X.K H p ys)/\∀l,H l=none->Q (.ref l) (upd H l 0x89)):=by
 intro pins s σ H xs us Q I r h;obtain⟨p,ys,rfl,hq,q⟩:=h;obtain⟨u,rfl,rx⟩:=vals1 r;cases rx;have fin:∀(its:List Value),Vals ys its->ys.length<=sizeLine->∀(h':Heap)(c':Nat),(∀b o',s.heap.get? b=some o'->h'.get? b=some o')->
   h'.get? s.heap.objs.size=some {cls:=.type "list",dict:=none,data:=.seq its.toArray c',slots:=#[]}->EP X pins σ Q 0x30 {s with heap:=h'}:=fun its r' hz h' c' kp e=>
  ⟨.ref s.heap.objs.size,_,I.laid (t':=s.toks) kp 0x33 (show dW X.prog X.w _ h' _ 0x89 from⟨hz,its,c',r',e⟩),rfl,q _ 0x4B⟩
 rcases hq with hq|hq
 ·obtain⟨its,r',pl,hz⟩:=I.list hq;have hlen:=r'.length;obtain⟨o,ho,hc,n,hd⟩:=pl.isList;exact call_list_seq p 0x5F ho hc hd (fun h' c' kp e=>fin its r' hz h' c' kp e) (by simp only[A0u]<;>lia)
 ·obtain⟨its,r',pl,hz⟩:=I.tuple hq;have hlen:=r'.length;obtain⟨o,ho,hc,n,hd⟩:=pl;exact call_list_seq p (.inr rfl) ho hc hd (fun h' c' kp e=>fin its r' hz h' c' kp e) (by simp only[A0u]<;>lia)
def tyV(K:PySem.W.Frag)(T:String)(x:V)(H:Hp):Prop:=match x with
 | .str _=>T="str"
 | .int _=>T="int"
 | .ref p=>(T="list"/\∃xs,bY K H p xs)\/(T="tuple"/\∃o,K.lookup p=some o/\o.cls=.type "tuple"/\o.dict=none)\/
   (T="dict"/\((∃kvs,H p=some 0x16)\/∃kvs,H p=some (.dT kvs)))\/(T="set"/\∃S n,H p=some (.set S n))
 |_=>False
def a0D{x:V}{v:Value}(I:Inv X pins σ H s)(r:RelV x v)(ty:tyV X.K T x H):
  s.TypeIs v T/\∀a,v=.ref a->∃ob,s.heap.get? a=some ob/\ob.dict=none:=by
 cases x with
 | str z=>
  obtain⟨t,rfl⟩:=r;cases(show T="str" from ty)
  exact⟨typeIs_str s z t,fun _ e=>nomatch e⟩
 | int i=>
  obtain⟨t,rfl⟩:=r;cases(show T="int" from ty)
  exact⟨typeIs_int s i t,fun _ e=>nomatch e⟩
 | ref p=>
  cases r;rcases ty with⟨rfl,xs,hq⟩|⟨rfl,o,hk,hc,hd⟩|⟨rfl,hk⟩|⟨rfl,S,n,hk⟩
  ·obtain⟨its,_,pl,_⟩:=I.list hq;refine⟨pl.isList.typeIs,fun a e=>?_⟩;cases e;obtain⟨o,n,e,c,hd,_⟩:=pl;exact⟨o,e,hd⟩
  ·refine⟨⟨o,I.lZ p o hk,hc⟩,fun a e=>?_⟩;cases e;exact⟨o,I.lZ _ o hk,hd⟩
  ·have z:∃o,s.heap.get? p=some o/\o.ExactDict:=by
    rcases hk with⟨kvs,hk⟩|⟨kvs,hk⟩
    ·obtain⟨_,_,_,_,o,_,_,e,ex,_⟩:=I.hok p _ hk;exact⟨o,e,ex⟩
    ·obtain⟨_,_,_,_,o,_,_,e,ex,_⟩:=I.hok p _ hk;exact⟨o,e,ex⟩
   obtain⟨o,e,ex⟩:=z;refine⟨⟨o,e,ex.1⟩,fun a e2=>?_⟩;cases e2;exact⟨o,e,ex.2.1⟩
  ·obtain⟨o,_,_,_,e,ex,_⟩:=I.hok p _ hk;refine⟨⟨o,e,ex.1⟩,fun a e2=>?_⟩;cases e2;exact⟨o,e,ex.2.1⟩
 |_=>exact False.elim ty
def tBM(K:PySem.W.Frag)(T:String)(r:V->List V->Hp->VK->Prop)(to:TE)(t:TA):TE:=fun σ H Q=>to σ H fun x H1=>tyV K T x H1/\t σ H1 fun xs H2=>r x xs H2 Q
variable{o:Expr}{to:TE}{t:TA}{id:String}{r:V->List V->Hp->VK->Prop}
def j8(pa:PlainAttrs T)(slot:Slot T name id)(hty:typeOf (.builtin id)=pure (.type "method_descriptor"))(hm:MtR X id r)(ho:PE X o to)(ha:PA X (e::es) t)
  (hbase:attributeBase o name X.env (eval o X.env)=eval o X.env:=by rfl)
  (hfew:((backTo cpos (starEach (e::es) X.env)).all (fun x=>!x.1)&&(backToKw cpos (keywordEach [] X.env)).all (fun x=>x.1.isSome)
   &&decide ((e::es).length+([]:List Keyword).length+(if([]:List Keyword).isEmpty then 0 else 1)<30))=true:=by rfl)
  (hline:(apos.endLine==cpos.line)=true:=by rfl)(hs:starEach (e::es) X.env=0x2D::starEach es X.env:=by rfl)(hplain:(backTo cpos 0x34).any (·.1)=false:=by rfl):
  PE X (.Call (.Attribute o name apos) (e::es) [] cpos) (tBM X.K T r to t):=by
 intro pins s σ H Q I h;refine wpAny_Call_method_late hbase hfew hline rfl (cP 0x71 fun v s1 zq=>?_);obtain⟨x,H1,I1,r1,ty,q1⟩:=zq;obtain⟨h1,h2⟩:=a0D I1 r1 ty;refine⟨T,id,pa,slot,hty,h1,h2,?_⟩;have hA:=ha cpos pins s1 σ H1 _ I1 q1;rw[hs]at hA ⊢;refine A1K (by show(false||(backTo cpos 0x34).any (·.1))=false;rw[hplain]<;>rfl) (A1S ?_)
 exact cP hA fun us s2 ⟨vs,H2,I2,r2,q2⟩=>hm pins s2 σ H2 x vs v us Q I2 r1 r2 q2
end
def MtM(X:Cx)(id:String)(r:V->List V->Hp->VK->Prop):Prop:=
 ∀ (pins:List 0x1E)(s:Shared)(σ:St)(H:Hp)(x:V)(xs:List V)(v:Value)(us:List Value)(Q:VK),Inv X pins σ H s->RelV x v->Vals xs us->r x xs H Q->
  wpAny 0x9 X.A (call (.builtin id) (v::us)) 0x37 X.xe s
theorem Vals.one:∀{x:V}{us:List Value},Vals [x] us->∃u,us=[u]/\RelV x u
 |_,_,.cons r .nil=>⟨_,rfl,r⟩
theorem Vals.rep(h:Vals xs us):∀k:Nat,Vals (List.replicate k xs).flatten (List.replicate k us).flatten
 |0=>.nil
 | k+1=>by
  rw[A1x,A1x,A2u,A2u];exact Vals.append h (Vals.rep h k)
theorem foldl_rep(its:List Value):∀(k:Nat)(acc:List Value),
  List.foldl (fun x1 x2=>x1++x2) acc.toArray (List.replicate k its.toArray)=(acc++(List.replicate k its).flatten).toArray
 |0,acc=>by simp
 | k+1,acc=>by
  have e:acc.toArray++its.toArray=(acc++its).toArray:=by simp
  have e2:(acc++its)++(List.replicate k its).flatten=acc++(List.replicate (k+1) its).flatten:=by
   rw[A1x,A2u,A3c]
  rw[<-e2,<-foldl_rep its k (acc++its),<-e,A1x,A1c]
section
variable{l:Addr}{zs:List V}
def Inv.lset{its':List Value}{f:Array Value->Array Value}(I:Inv X pins σ H s)(hH:H l=some 0x4D)
  (e:s.heap.get? l=some {cls:=.type "list",data:=.seq its.toArray n})(hf:f its.toArray=its'.toArray)(hv:Vals ys its')(hz:ys.length<=sizeLine):
  Inv X pins σ (upd H l 0x89) {s with heap:=s.heap.update l (Obj.mapSeq f),toks:=t'}:=by
 have q:=PySem.IsL.update e f;rw[hf]at q;refine I.write (x:=l) (e:=l) (by rw[hH];exact trivial) 0x5F (fun b' u hb hu=>(Heap.get?_update_other s.heap (Obj.mapSeq f) (A0m hb)).trans hu) ⟨_,q⟩ ?_;exact⟨hz,its',_,hv,q⟩
def Inv.lnew(I:Inv X pins σ H s)(hv:Vals ys its)(hz:ys.length<=sizeLine):
  Inv X pins σ (upd H s.heap.objs.size 0x89) {s with heap:=s.heap.push {cls:=.type "list",data:=.seq its.toArray},toks:=t'}:=
 I.laid (fun _ _ q=>A0c _ q) 0x33 ⟨hz,its,0,hv,A0x _ rfl⟩
def Inv.fresh(I:Inv X pins σ H s):H s.heap.objs.size=none:=I.hok.fresh 0x33
def Inv.QC(I:Inv X pins σ H s)(hH:H l=some 0x4D):xs.length<=sizeLine/\∃(its:List Value)(n:Nat),Vals xs its/\xs.length=its.length/\s.heap.get? l=some {cls:=.type "list",data:=.seq its.toArray n}:=by
 obtain⟨z,its,n,r,e⟩:=I.hok l _ hH;exact⟨z,its,n,r,r.length,e⟩
def QD(h:n<=sizeLine):Builtin.List.listTooLong n=false:=by
 unfold Builtin.List.listTooLong;exact A0p 0x4
end
inductive JC(x:V)(vs:List V)(H:Hp)(Q:VK):Prop
 |mk(l:Addr)(xs:List V)(y:V)(_:x=.ref l)(_:vs=[y])(_:H l=some 0x4D)(_:xs.length<sizeLine)(_:Q .non (upd H l (.lst (xs++[y])))):JC x vs H Q
def dw:MtM X "list.append" JC:=by
 intro pins s σ H x vs v us Q I rx rv h;obtain⟨l,xs,y,rfl,rfl,hH,hz,q⟩:=h;cases rx;obtain⟨u,rfl,ru⟩:=rv.one;obtain⟨z,its,n,r,hl,e⟩:=I.QC hH;refine A4o F.slot_list_append ⟨_,e,rfl⟩ F.entry_list_append (F.args_list_append_2 _ _) (PySem.list_append l its.toArray n u (by rw[A0u];lia)) ⟨e,?_⟩;refine⟨.non,_,I.lset (its':=its++[u]) hH e 0xA (r.append (.cons ru .nil)) ?_,rfl,q⟩;rw[iD,A0t];lia
inductive rCat(x y:V)(H:Hp)(Q:VK):Prop
 |mk(l b:Addr)(xs zs:List V)(_:x=.ref l)(_:y=.ref b)(_:H l=some 0x4D)(_:H b=some (.lst zs))(_:xs.length+zs.length<=sizeLine)(_:∀p,H p=none->Q 0x46 (upd H p (.lst (xs++zs)))):rCat x y H Q
def pW:lK X (binaryOp .Add) rCat:=by
 intro pins s σ H x y v u Q I rx ry h;obtain⟨l,b,xs,zs,rfl,rfl,hH,hB,hz,q⟩:=h;cases rx;cases ry;obtain⟨z,its,n,r,hl,e⟩:=I.QC hH;obtain⟨z2,its2,n2,r2,hl2,e2⟩:=I.QC hB;refine PySem.P.add_list e e2 ?_ (by rw[A0u,A0u];lia);have ea:its.toArray++its2.toArray=(its++its2).toArray:=by simp
 rw[ea];exact⟨.ref _,_,I.lnew (t':=s.toks) (r.append r2) (by rw[iD];lia),rfl,q _ I.fresh⟩
inductive rRep(x y:V)(H:Hp)(Q:VK):Prop
 |mk(l:Addr)(k:Int)(xs:List V)(_:x=.ref l)(_:y=.int k)(_:H l=some 0x4D)(_:-(2^63)<=k)(_:k<2^63)(_:xs.length*k.toNat<=sizeLine)(_:∀p,H p=none->Q 0x46 (upd H p (.lst (List.replicate k.toNat xs).flatten))):rRep x y H Q
def len_rep{α:Type}(xs:List α)(k:Nat):(List.replicate k xs).flatten.length=k*xs.length:=by
 induction k with
 |zero=>simp
 |succ k ih=>rw[A1x,A2u,iD,ih,Nat.succ_mul,Nat.add_comm]
def a0E:lK X (binaryOp .Mult) rRep:=by
 intro pins s σ H x y v u Q I rx ry h;obtain⟨l,k,xs,rfl,rfl,hH,h1,h2,hz,q⟩:=h;cases rx;obtain⟨t,rfl⟩:=ry;obtain⟨z,its,n,r,hl,e⟩:=I.QC hH;have hlen:its.toArray.size*k.toNat<=sizeLine:=by rw[A0u,<-hl];exact hz
 have hcap:¬its.toArray.size*k.toNat>(2^63-1)/8:=by
  have:(sizeLine:Nat)<=(2^63-1)/8:=by decide
  lia
 have hfit:¬(!Builtin.List.listFitsIndex k)=true:=by
  rw[fitsIndex_both h1 h2];exact A0r
 have a2D:¬Builtin.List.listTooLong (its.toArray.size*k.toNat)=true:=by
  rw[QD hlen];exact A0r
 have hnew:List.foldl (fun x1 x2=>x1++x2) #[] (List.replicate (if its.toArray.isEmpty=true then 0 else k.toNat) its.toArray)=(List.replicate k.toNat its).flatten.toArray:=by
  have f0:∀m:Nat,List.foldl (fun x1 x2=>x1++x2) #[] (List.replicate m its.toArray)=(List.replicate m its).flatten.toArray:=fun m=>by
   have:=foldl_rep its m [];rw[A1u]at this;exact this
  rw[f0];cases its with
  |nil=>simp
  |cons a r'=>rw[A0f 0xA]
 refine wpAny_binaryOp_repeat_ref (T:="list") (U:="int") 0x5 ⟨_,e,rfl⟩ (fun s'=>typeIs_int s' k t) noFill_list_mul F.fills_int_mul F.slot_int_rmul repeat_list F.slot_int_index.lookup
  (A4o F.slot_int_rmul (typeIs_int s k t) F.entry_int_rmul (F.args_int_rmul_2 _ _) (int___rmul___int_list k t l its.toArray n)
   ⟨e,rfl,⟨_,e,rfl⟩,A4o F.slot_list_mul ⟨_,e,rfl⟩ F.entry_list_mul (F.args_list_mul_2 _ _) (AutoListH.list___mul___list_int_3 l its.toArray n k t hfit hcap a2D) ⟨e,?_⟩⟩)
 rw[hnew];exact⟨.ref _,_,I.lnew (t':=s.toks) (r.rep k.toNat) (by rw[len_rep,Nat.mul_comm];exact hz),rfl,q _ I.fresh⟩
end L2
namespace Att
open PySem PySem.W PySem.Calls PyProof.Rows
def tD{P:Params}:∀(ns:List Int)(vs:List Value),WellAll P h vs (ns.map WData.int)->IntsAre vs ns:=by
 intro ns
 induction ns with
 | nil=>
  intro vs w;rw[A3K]at w;cases w;exact .nil
 | cons n ns ih=>
  intro vs w;rw[A0h]at w;cases w with
  | cons a b=>
   cases a;exact .cons _ _ (ih _ b)
def MF{l:OpenLaw}(hn:l.most=some n){P:Params}{args:List WData}{vals:List Value}
  (hpre:l.row.toRowW.claim.pre args=true)(hwl:WellAll P h vals args):
  ∃a vs ns,vals=[Value.ref a]/\args=[WData.list (ns.map WData.int)]/\h.get? a=some {cls:=.type "list",data:=.seq vs.toArray}/\IntsAre vs ns/\ns.length<=n:=by
 have hsh:WShape.hasAll [] args [.list .int]=true:=(pre_splitW hpre).1;have hc:l.pre.holds [] {args:=args}=true:=(pre_splitW hpre).2;obtain⟨d,r,rfl,h1,h2⟩:=hasAllW_cons hsh;obtain rfl:=hasAllW_nil h2;obtain⟨xs,rfl,h3⟩:=hasW_list h1;obtain⟨ns,rfl⟩:=items_int h3;have hlen:ns.length<=n:=by
  unfold OpenLaw.pre at hc;have h4:(WTm.not (.lt (.lit (.int (n:Int))) (.len (.arg 0)))).holds [] {args:=[.list (ns.map .int)]}=true:=by
   have h4:=(holds_andW hc).1;rw[hn]at h4;exact h4
  have h5:=condW_of h4 (w_not (w_lt w_lit (w_len_list (w_arg rfl))));rw[cM]at h5;refine Nat.le_of_not_lt fun q=>?_;have q':(n:Int)<((ns.length:Nat):Int):=by lia
  first
   |(rw[A0k q']at h5;exact absurd h5 0x5)
   |(simp at h5;lia)
 cases hwl with
 | cons w1 w2=>
  cases w2;cases w1 with
  |list ho hall=>exact⟨_,_,ns,rfl,rfl,ho,tD ns _ hall,hlen⟩
def MJ(l:OpenLaw)(args:List WData):l.row.toRowW.claim.post args (.bool true) args=true:=
 postW_of (r:=l.row.toRowW) (X:=(true==true))
  (show WShape.has [] (.bool true) .bool=true by first|rfl|decide|simp[WShape.has,WShape.arms,WShape.armsAll])
  (show(WTm.eq .res (.lit (.bool true))).value [] {args:=args,res:=some (.bool true),after:=args}=some (.bool (true==true))from w_eq_bool (w_res rfl) w_lit) rfl
def CJ{l:OpenLaw}{q:Program}{d:DefRec}
  (hn:l.most=some n)(hdf:d.params.defaults=[])
  (call:∀(w:World)(s₀ s₁:Shared)(mg mb:Str->Option Value)(fa:Addr)(o:Obj)(pm cd doc:Value)(a:Addr)(vs:List Value)(ns:List Int),
   Ground q loose [] XP w s₀ mg mb s₁.heap->YP w s₁.heap->
   s₁.heap.get? fa=some o->o.data=.func (docDef d.name d.params d.body d.scope pm cd doc)->s₁.heap.CodeRec cd d.name->mg d.name=some (.ref fa)->
   s₁.heap.get? a=some {cls:=.type "list",data:=.seq vs.toArray}->IntsAre vs ns->ns.length<=n->s₁.gens=#[]->
   codeAny (model l.prog w) callerA (.call (.ref fa) ⟨[.ref a],[]⟩) (fun r s'=>r=.ok (.ret (.bool true))/\OldK s₁.heap s'.heap/\s'.os=s₁.os/\AllBare s'.gens) s₁):
  WalkO q loose XP YP l.row.toRowW d [] (fun f vs=>PySem.call f vs):=by
 intro w s₀ s₁ mg mb G Y fa o pm cd doc dV kV ho hd hcd hD hmg hg args vals as hpre hlay hrd hwl hlo;obtain rfl:dV=.none:=Dflts.none hD hdf;obtain rfl:kV=.none:=Dflts.noKw hD;obtain⟨a,vs,ns,rfl,rfl,hobj,hints,hlen⟩:=MF hn hpre hwl;refine enter_call (A2Q (call w s₀ s₁ mg mb fa o pm cd doc a vs ns G Y ho (fd_plain hd) hcd hmg hobj hints hlen hg) fun r s' hq=>?_);obtain⟨rfl,h2,h3,h4⟩:=hq;exact⟨.inl ⟨.bool true,.bool true,[],rfl,fun _=>rfl,.bool true,MJ l _,fun _=>⟨List.Pairwise.nil,fun _ hm=>(nomatch hm)⟩⟩,h2,h3,h4⟩
end Att
namespace L2
open PySem PySem.Spec PyProof.Rows
theorem xU:∀{vs:List Value}{ns:List Int},IntsAre vs ns->Vals 0x36 vs
 |_,_,.nil=>.nil
 |_,_,.cons n t h=>.cons ⟨t,rfl⟩ (xU h)
def Only(H:Hp):Prop:=∀b,H b=none\/∃o xs,H b=some (.iY o 0x4D)
def QF{mb:Str->Option Value}{k:Nat}{fa:Addr}{x:Str}{s₁:Shared}{vs:List Value}{ns:List Int}
  (KX:K.In s₁.heap)(hns:s₁.heap.Ns mainGlobals mg)(hb:s₁.heap.Ns builtinsNs mb)(hbb:∀x:Str,x≠"__name__"->mb x=bootBuiltins x)(hlim:s₁.heap.NoLimit)(hg:s₁.gens=#[])
  (ha:s₁.heap.get? a=some {cls:=.type "list",data:=.seq vs.toArray})(hi:IntsAre vs ns)(hl:ns.length<=sizeLine)(hr:cG k callerA)
  (F:∀base:Heap,K.In base->base.Ns mainGlobals mg->aL P w K mg base CX k fa fd [x] sp)(hbind:∀(s:Shared)(u:Value),BindsTo s fd ⟨[u],[]⟩ [(x,u)])
  (hsp:∀H:Hp,Only H->bY K H a 0x36->sp [.ref a] H (fun v _=>v=.bl true) fun _ _ _=>False)
  (hCX:∀H e s',CX [] H s₁ (fun _ _ _=>False) e s'->False):
  codeAny (model P w) callerA (.call (.ref fa) ⟨[.ref a],[]⟩) (fun r s'=>r=.ok (.ret (.bool true))/\OldK s₁.heap s'.heap/\s'.os=s₁.os/\AllBare s'.gens) s₁:=by
 have rv:=xU hi;have lenV:=hi.length;have core:∀H:Hp,Only H->bY K H a 0x36->m6 P w H s₁.heap->(∀b,H b≠none->b=a)->(H a≠none->K.lookup a=none)->
   codeAny (model P w) callerA (.call (.ref fa) ⟨[.ref a],[]⟩) (fun r s'=>r=.ok (.ret (.bool true))/\OldK s₁.heap s'.heap/\s'.os=s₁.os/\AllBare s'.gens) s₁:=by
  intro H hO hS hok hA hK;have JD:∀{b:Addr}{o:Obj},s₁.heap.get? b=some o->H b=none->(z7 s₁.heap H).get? b=some o:=fun e n=>Q0 e n;have noA:∀{b:Addr}{o:Obj}{es:Array DictEntry}{ep:Nat},s₁.heap.get? b=some o->o.data=.dict es ep->H b=none:=fun{b o es ep}e d=>by
   cases q:H b with
   |none=>rfl
   | some u=>
    have e':b=a:=hA b (by rw[q];simp);subst e';rw[ha]at e;cases e;have d':Data.seq vs.toArray _=Data.dict es ep:=d;cases d'
  have nsK:∀{b:Addr}{m:Str->Option Value},s₁.heap.Ns b m->(z7 s₁.heap H).Ns b m:=fun{b m} ⟨o,es,ep,e,d,r⟩=>⟨o,es,ep,JD e (noA e d),d,r⟩;have hKb:K.In (z7 s₁.heap H):=fun b o e=>JD (KX b o e) (by
   cases q:H b with
   |none=>rfl
   | some u=>
    have e':b=a:=hA b (by rw[q];simp);subst e';rw[hK (by rw[q];simp)]at e;cases e)
  have hM:Mod K mg (z7 s₁.heap H):=⟨hKb,nsK hns,⟨mb,nsK hb,hbb⟩,let⟨mc,h1,h2⟩:=hlim;⟨mc,nsK h1,h2⟩⟩
  have e0:wV P w K mg (z7 s₁.heap H) callerA [] s₁ H:=⟨rfl,hM,fun b o e=>Wv e,Nat.le_of_eq (Mp _ _),trivial,fun b hb=>absurd (show b∈([]:List Addr)from hb) 0xA,hok,.of_eq hg⟩
  refine A2Q ((F _ hKb (nsK hns)).run callerA [] s₁ H ⟨[.ref a],[]⟩ [.ref a] [.ref a] _ _ hr e0 (hbind s₁ 0x4E) (.cons rfl .nil) (hsp H hO hS)) fun r s' h=>?_;cases r with
  |error e=>exact(hCX H e s' h).elim
  | ok fl=>
   cases fl with
   |next=>exact False.elim h
   |brk=>exact False.elim h
   |cont=>exact False.elim h
   | ret u=>
    obtain⟨v,H',os,bare,un,hok',r',q⟩:=h;have q':v=.bl true:=q;subst q';obtain rfl:u=Value.bool true:=r';refine⟨rfl,OldK.of_keep fun b o e=>?_,os,bare⟩;cases q:H b with
    |none=>exact un.keep b o e q (by intro z;exact absurd (show b∈([]:List Addr)from z) 0xA) 0xA
    | some u=>
     rcases hO b with z|⟨ob,xs,z⟩
     ·rw[q]at z;cases z
     ·have z2:=un.pP b ob _ z;obtain⟨e1,_⟩:=hok b _ z;obtain⟨e2,_⟩:=hok' b _ z2;rw[e]at e1;cases e1;exact e2
 cases hk:K.lookup a with
 | some o=>
  have e:=KX a o hk;rw[ha]at e;cases e;refine core (fun _=>none) (fun _=>.inl rfl) (.inr ⟨_,vs.toArray,_,hk,rfl,rfl,rfl,by rw[A0u,lenV];exact hl,by simpa using rv⟩) (fun b u z=>by have z':(none:Option HO)=some u:=z;cases z') (fun b z=>absurd rfl z) fun z=>absurd rfl z
 | none=>
  refine core (fun b=>if b=a then some (.iY {cls:=.type "list",data:=.seq vs.toArray} (.lst 0x36))else none) (fun b=>?_) (.inl (.inr ⟨{cls:=.type "list",data:=.seq vs.toArray},A0i rfl⟩)) (fun b u z=>?_) (fun b z=>?_) fun _=>hk
  ·by_cases hb:b=a
   ·exact .inr ⟨_,_,A0i hb⟩
   ·exact .inl (A0f hb)
  ·by_cases hb:b=a
   ·have z':=(A0i hb).symm.trans z;cases z';subst hb;exact⟨ha,by rw[cM];exact hl,vs,_,rv,ha⟩
   ·have z':=(A0f hb).symm.trans z;cases z'
  ·by_cases hb:b=a
   ·exact hb
   ·exact absurd (A0f hb) z
def WW{l:PySem.W.OpenLaw}{k:Nat}{q:Program}{d:DefRec}{K:Params->PySem.W.Frag}{CX:World->xK}{sp:World->Sp}{x:Str}
  (hn:l.most=some n)(hn2:n<=sizeLine)(hdf:d.params.defaults=[])(hr:cG k callerA)
  (hY:∀(w:World)(h:Heap),YP w h->(K w.params).In h)
  (F:∀(w:World)(mg:Str->Option Value)(fa:Addr)(h:Heap),(K w.params).In h->h.Ns mainGlobals mg->mg d.name=some (.ref fa)->
   ∃ fd:FuncData,(∀(s:Shared)(u:Value),BindsTo s fd ⟨[u],[]⟩ [(x,u)])/\
    ∀base:Heap,(K w.params).In base->base.Ns mainGlobals mg->aL l.prog w (K w.params) mg base (CX w) k fa fd [x] (sp w))
  (hsp:∀(w:World)(H:Hp)(a:Addr)(ns:List Int),ns.length<=n->Only H->bY (K w.params) H a 0x36->sp w [.ref a] H (fun v _=>v=.bl true) fun _ _ _=>False)
  (hCX:∀(w:World)(H:Hp)(s:Shared)(e:Value)(s':Shared),CX w [] H s (fun _ _ _=>False) e s'->False):
  PySem.W.WalkO q loose XP YP l.row.toRowW d [] (fun f vs=>PySem.call f vs):=by
 refine Att.CJ hn hdf fun w s₀ s₁ mg mb fa o pm cd doc a vs ns G Y ho hd hcd hmg hobj hints hlen hg=>?_;have KX:=hY w _ Y;obtain⟨fd,hb,hF⟩:=F w mg fa _ KX G.T.g hmg;exact QF KX G.T.g G.T.b G.T.builtins G.T.nolimit hg hobj hints (A0z hlen hn2) hr hF hb (fun H hO hS=>hsp w H a ns hlen hO hS) fun H e s'=>hCX w H s₁ e s'
def inClass(s:Stmt)(j:Nat):Stmt:=match s with
 | .ClassDef _ _ _ body _ _ _ _ _ _ _=>body.getD j (.Pass ⟨0,0,0,0⟩)
 |_=>.Pass ⟨0,0,0,0⟩
def mJ(s:Stmt):Arguments:=match s with
 | .FunctionDef _ a _ _ _ _ _ _ _ _=>a
 |_=>{posonlyargs:=[],args:=[],vararg:=none,kwonlyargs:=[],kw_defaults:=[],kwarg:=none,defaults:=[]}
def iJ(s:Stmt):List Stmt:=match s with
 | .FunctionDef _ _ b _ _ _ _ _ _ _=>b
 |_=>[]
def aJ(s:Stmt):Scope:=match s with
 | .FunctionDef _ _ _ _ _ _ sc _ _ _=>sc
 |_=>{kind:=.function,names:=[],isGenerator:=false,isCoroutine:=false}
abbrev bL:xK:=fun _ _ _ _ _ _=>False
abbrev E0:XK:=fun _ _ _=>False
def bC:Passes bL X E0:=fun _ _ _ _ _ _ _ h=>h.elim
structure fj(K:PySem.W.Frag)(x qual:Str)(st:Stmt)(f:Addr)(fd:FuncData):Prop where
 ex:∃(oc:Value)(od:Option Addr)(kV doc pm:Value)(an:Option Addr)(cdv ct:Value)(osl:Array (Option Value)),
  fd=PySem.W.fnOf x qual (mJ st) (iJ st) (aJ st) .none kV doc pm an cdv ct/\K.lookup f=some ⟨oc,od,.func fd,osl⟩/\PySem.W.codeIn K cdv qual=true
 kp:PySem.W.keepIn K 0x48=true
def fj.ok{x:Str}{k:Nat}(F:fj K x qual st f fd)(S:aP N ps (aJ st))(len:∀vs H Q E,sp vs H Q E->vs.length=ps.length)
  (hbody:∀(cdv:Value)(A:Around)(outer:List Env)(s:Shared)(H:Hp)(vs:List V)(Q:VK)(E:XK),cG k (A.deeper (envOfC qual (aJ st) s.heap.objs.size f cdv))->sp vs H Q E->
   ∃t,BP (qw bL P w K mg base N qual (aJ st) f cdv A outer s H E).nox (iJ st) t/\t {nx:=fun _ H'=>Q .non H',rt:=Q} (start N vs) H):aL P w K mg base bL (k+1) f fd ps sp:=by
 obtain⟨oc,od,kV,doc,pm,an,cdv,ct,osl,rfl,lk,hcd⟩:=F.ex;refine xR lk hcd S len fun A outer s H vs Q E hr hsp=>?_;obtain⟨t,h,q⟩:=hbody cdv A outer s H vs Q E hr hsp;exact⟨t,h.nox,q⟩
def fj.binds{x:Str}(F:fj K x qual st f fd)
  (h:∀(kV doc pm:Value)(an:Option Addr)(cdv ct:Value)(us:List Value),us.length=ps.length->bindArgs (PySem.W.fnOf x qual (mJ st) (iJ st) (aJ st) .none kV doc pm an cdv ct) ⟨us,[]⟩=pure (ps.zip us)):Binds K fd ps []:=by
 obtain⟨oc,od,kV,doc,pm,an,cdv,ct,osl,rfl,lk,hcd⟩:=F.ex;exact .all (h kV doc pm an cdv ct)
def QG{x:Str}{oc:Value}{od an:Option Addr}{osl:Array (Option Value)}{kV doc pm cdv ct:Value}(l:K.lookup f=some ⟨oc,od,.func (PySem.W.fnOf x qual (mJ st) (iJ st) (aJ st) .none kV doc pm an cdv ct),osl⟩)
  (c:PySem.W.codeIn K cdv qual=true)(k:PySem.W.keepIn K 0x48=true):fj K x qual st f (PySem.W.fnOf x qual (mJ st) (iJ st) (aJ st) .none kV doc pm an cdv ct):=⟨⟨oc,od,kV,doc,pm,an,cdv,ct,osl,rfl,l,c⟩,k⟩
def jL(h:n<=1000):n<sizeLine:=A0O h 0x5
def pv(i:Nat){x:Str}(hN:X.N[i]?=some x:=by rfl)(hv:Vis X.env.scope x:=by first|exact Or.inl rfl|exact Or.inr 0x8|exact Or.inr (Or.inr rfl))(hd:0x24=false:=by decide)
  (hcd:(x==("__classdict__":Str))=false:=by decide):PE X (.Name x pos) (za i):=a0m hN hv hd hcd
def cg{A:Prop}(h:B):if false=true then A else B:=by
 rw[A0f A0r];exact h
def cW{A:Prop}(h:A):if true=true then A else B:=by
 rw[A0i rfl];exact h
def iu{c A:Prop}[Decidable c](h1:c->A)(h2:¬c->B):if c then A else B:=by
 by_cases h:c
 ·rw[A0i h];exact h1 h
 ·rw[A0f h];exact h2 h
def QH{c A:Prop}[Decidable c](hc:c)(h:B):if(!decide c)=true then A else B:=by
 rw[A0k hc];exact cg h
def Same(H H':Hp):Prop:=∀b o,H b=some o->H' b=some o
def Same.refl(H:Hp):Same H H:=fun _ _ h=>h
def Same.trans(a:Same H H1)(b:Same H1 H2):Same H H2:=fun c o h=>b c o (a c o h)
def Same.free(e:Same H H'){l:Addr}(h:H' l=Option.none):H l=Option.none:=by
 cases q:H l with
 |none=>rfl
 | some o=>
  rw[e l o q]at h;cases h
def Same.seq(e:Same H H')(h:bY K H a xs):bY K H' a xs:=by
 rcases h with(h|⟨o,h⟩)|h
 ·exact .inl (.inl (e _ _ h))
 ·exact .inl (.inr ⟨o,e _ _ h⟩)
 ·exact .inr h
def jj(env:Env):List (Str×NameKind)->List (Str×Addr)->List (Str×Addr)
 |[],cs=>cs
 |(n,k)::r,cs=>jj env r (if k==.free then(n,(env.cells.lookup n).getD 0)::cs else cs)
theorem xV:∀(l:List (Str×NameKind))(cs:List (Str×Addr))(p:Str×Addr),p∈jj env l cs->p∈cs\/((p.1,NameKind.free)∈l/\p.2=(env.cells.lookup p.1).getD 0)
 |[],_,_,h=>.inl h
 | (n,k)::r,cs,p,h=>by
  rcases xV r _ p h with q|⟨q,e⟩
  ·by_cases hk:k=.free
   ·subst hk;rw[A0i (by rfl)]at q;rcases A0d.mp q with z|z
    ·subst z;exact .inr ⟨A0o,rfl⟩
    ·exact .inl z
   ·rw[A0f (by simpa using hk)]at q;exact .inl q
  ·exact .inr ⟨jK _ q,e⟩
theorem xW:∀(l:List (Str×NameKind))(cs:List (Str×Addr))(p:Str×Addr),p∈cs->p∈jj env l cs
 |[],_,_,h=>h
 | (n,k)::r,cs,p,h=>by
  refine xW r _ p ?_
  split
  ·exact jK _ h
  ·exact h
theorem xX{x:Str}:∀(l:List (Str×NameKind))(cs:List (Str×Addr)),(x,NameKind.free)∈l->∃c,(x,c)∈jj env l cs
 |[],_,h=>nomatch h
 | (n,k)::r,cs,h=>by
  rcases A0d.mp h with z|z
  ·cases z;exact⟨_,xW r _ _ (by rw[A0i (by rfl)];exact A0o)⟩
  ·exact xX r _ z
theorem pJ{α:Type}{x:Str}:∀{l:List (Str×α)}{c:α},(x,c)∈l->∃c',l.lookup x=some c'
 |[],_,h=>nomatch h
 | (n,d)::r,c,h=>by
  by_cases e:x=n
  ·subst e;exact⟨d,by simp[A0Z]⟩
  ·have:(x==n)=false:=by simpa using e
   simp only[A0Z,this];rcases A0d.mp h with z|z
   ·cases z;exact absurd rfl e
   ·exact pJ z
theorem uQ:∀(l:List (Str×NameKind))(cs:List (Str×Addr)),(∀x∈l,x.2=.free->(env.cells.lookup x.1).isSome=true)->
  (forIn l cs fun(x:Str×NameKind)(r:List (Str×Addr))=>(match x with
   |(name,kind)=>if(kind==NameKind.free)=true then do let a<-cellOf env name;pure (ForInStep.yield ((name,a)::r))else pure (ForInStep.yield r):Sem (ForInStep (List (Str×Addr)))))=pure (jj env l cs)
 |[],cs,_=>rfl
 | (n,k)::r,cs,h=>by
  rw[A3Y];have ih:=fun cs'=>uQ r cs' fun x hx=>h x (jK _ hx)
  by_cases hk:k=.free
  ·subst hk;obtain⟨a,ha⟩:=A1O.mp (h (n,.free) A0o rfl);have hca:cellOf env n=pure a:=by unfold cellOf;rw[ha]
   have hn:jj env ((n,.free)::r) cs=jj env r ((n,a)::cs):=by
    show jj env r (if(NameKind.free==NameKind.free)=true then(n,(env.cells.lookup n).getD 0)::cs else cs)=_
    rw[A0i (by rfl),ha];rfl
   rw[hn];simp only[A2J,A3j,hca,pure_bind];exact ih _
  ·have hb:(k==NameKind.free)=false:=by simpa using hk
   have hn:jj env ((n,k)::r) cs=jj env r cs:=by
    show jj env r (if(k==NameKind.free)=true then(n,(env.cells.lookup n).getD 0)::cs else cs)=_
    rw[A0f (by simp[hb])]
   rw[hn];simp only[hb,A2c,A3f,pure_bind];exact ih _
def tE(h:∀x∈scope.names,x.2=.free->(env.cells.lookup x.1).isSome=true):closureFor scope env=pure (jj env scope.names []):=by
 simp only[closureFor];have:=uQ (env:=env) scope.names [] h
 first
  |(rw[this];rfl)
  |(erw [this];rfl)
  |(exact(A1R (·>>=pure) this))
def gw{l:List (Str×NameKind)}(h:∀x∈l,x.2=.free->(env.cells.lookup x.1).isSome=true){x:Str}(e:(jj env l []).lookup x=some c):env.cells.lookup x=some c:=by
 rcases xV l [] (x,c) (A1w e)with q|⟨q,e'⟩
 ·exact nomatch q
 ·obtain⟨a,ha⟩:=A1O.mp (h _ q rfl);have ha':env.cells.lookup x=some a:=ha;have e2:c=(env.cells.lookup x).getD 0:=e';rw[ha']at e2;rw[ha',e2];rfl
def o7{x:Str}{k':NameKind}(h:(relabel scope env).names.lookup x=some k'):∃k,scope.names.lookup x=some k/\(k'=k\/(k=.free/\k'=.cell)):=by
 unfold relabel at h;dsimp only at h;generalize scope.names=l at h ⊢
 induction l with
 |nil=>simp at h
 | cons p r ih=>
  obtain⟨n,k⟩:=p;rw[A0h]at h
  by_cases e:x=n
  ·subst e;refine⟨k,by simp[A0Z],?_⟩
   by_cases hc:(k==NameKind.free&&env.scope.kind==.function&&env.kindOf x==some .cell)=true
   ·simp only[hc,A3j,A0Z,A2J]at h;have hk:k=.free:=by
     have:=(Bool.and_eq_true_iff.mp (Bool.and_eq_true_iff.mp hc).1).1
     simpa using this
    exact .inr ⟨hk,(A1b h).symm⟩
   ·simp only[hc,A3f,A0Z,A2J,A2c]at h;exact .inl (A1b h).symm
  ·have hb:(x==n)=false:=by simpa using e
   have h':List.lookup x (List.map (fun x=>match x with|(n,k)=>if(k==NameKind.free&&env.scope.kind==ScopeKind.function&&env.kindOf n==some NameKind.cell)=true then(n,NameKind.cell)else(n,k)) r)=some k':=by
    by_cases hc:(k==NameKind.free&&env.scope.kind==.function&&env.kindOf n==some .cell)=true
    ·simpa only[hc,A3j,A0Z,hb]using h
    ·simpa only[hc,A3f,A0Z,hb,A2c]using h
   obtain⟨k0,e0,q⟩:=ih h';exact⟨k0,by simp only[A0Z,hb];exact e0,q⟩
def zB{x:Str}(h:scope.names.lookup x=some .free):(relabel scope env).names.lookup x=some .cell\/(relabel scope env).names.lookup x=some .free:=by
 unfold relabel;dsimp only;generalize scope.names=l at h ⊢
 induction l with
 |nil=>simp at h
 | cons p r ih=>
  obtain⟨n,k⟩:=p;rw[A0h]
  by_cases e:x=n
  ·subst e;simp only[A0Z,A2J]at h;cases h;generalize List.map _ r=r'
   show List.lookup x ((if(NameKind.free==NameKind.free&&env.scope.kind==.function&&env.kindOf x==some .cell)=true then(x,NameKind.cell)else(x,NameKind.free))::r')=_\/List.lookup x ((if(NameKind.free==NameKind.free&&env.scope.kind==.function&&env.kindOf x==some .cell)=true then(x,NameKind.cell)else(x,NameKind.free))::r')=_
   by_cases hc:(NameKind.free==NameKind.free&&env.scope.kind==.function&&env.kindOf x==some .cell)=true
   ·rw[A0i hc];exact .inl (by simp[A0Z])
   ·rw[A0f hc];exact .inr (by simp[A0Z])
  ·have hb:(x==n)=false:=by simpa using e
   simp only[A0Z,hb]at h
   by_cases hc:(k==NameKind.free&&env.scope.kind==.function&&env.kindOf n==some .cell)=true
   ·simp only[hc,A3j,A0Z,hb];exact ih h
   ·simp only[hc,A3f,A0Z,hb,A2c];exact ih h
def Pn(X:Cx)(N':List Str)(scope:Scope)(s:Shared)(H:Hp)(fp:List Addr)(C:Addr):Cx where
 prog:=X.prog
 w:=X.w
 K:=X.K
 mg:=X.mg
 base:=X.base
 A:=X.A
 N:=N'
 s₀:=s
 H₀:=H
 env:=compEnvC scope (jj X.env scope.names []) C X.env
 outer:=X.stack
 stack:=X.stack
 ex:=fp
 fn:=fun _=>false
 calm:=X.calm
 pn:=[]
 xe:=fun _ _=>False
structure iw(N:List Str)(sc scope:Scope)(ts fr:List Str)(ix:List Nat):Prop where
 kind:scope.kind=.function
 QJ:∀y∈scope.names,y.2≠.cell
 nms:∀y∈scope.names,y.2=.local->scope.names.lookup y.1=some .local
 frs:∀y∈scope.names,y.2=.free->sc.names.lookup y.1=some .cell\/sc.names.lookup y.1=some .free
 cap:fr.map some=ix.map fun i=>N[i]?
 capf:∀x∈fr,scope.names.lookup x=some .free
def pG(σ:St)(k:Nat)(ix:List Nat):St:=List.replicate k none++ix.map fun i=>(σ[i]?).join
def Kp(σ σ':St):Prop:=∀(j:Nat)(v:V),σ[j]?=some (some v)->σ'[j]?=some (some v)
def Kp.refl(σ:St):Kp σ σ:=fun _ _ h=>h
def Kp.set{σ1:St}{x:Option V}(h:σ[i]?=some none)(q:Kp σ σ1):Kp σ (σ1.set i x):=fun j v e=>by
 by_cases hj:j=i
 ·subst hj;rw[h]at e;cases e
 ·rw[A3e (A0m hj)];exact q j v e
def PTs(X:Cx)(ifs:List Expr)(t:TT):Prop:=
 ∀ (pins:List 0x1E)(s:Shared)(σ:St)(H:Hp)(Q:Bool->Hp->Prop),Inv X pins σ H s->t σ H Q->
  wpAny 0x9 X.A (forIn ifs true fun c r=>if r=true then do let ok<-isTrue c X.env (eval c X.env);pure (ForInStep.yield ok)else pure (ForInStep.yield r)) (TP X pins σ Q) X.xe s
def Zm:TT:=fun _ H Q=>Q true H
def uR{A B:Hp->Prop}(h:A H):Zm σ H (fun b H5=>if b=true then A H5 else B H5):=by
 show if true=true then A H else B H
 rw[A0i rfl];exact h
def zE:PTs X [] Zm:=fun _ _ _ H _ I h=>wpAny_tests_nil ⟨H,I,h⟩
def kE{c:Expr}{t:TT}(h:PT X c t):PTs X [c] t:=fun pins s σ H Q I q=>wpAny_tests_one (h pins s σ H Q I q)
def pX(J:It)(D:Addr)(σ:St)(k:Nat)(ix:List Nat)(g:TG)(tt:TT)(te:TE)(Q:VK)(H1:Hp):Prop:=∃W:Nat->Nat->List V->Hp->Prop,(∃m,W 0 m [] (upd H1 D 0x54))/\
 ∀ i m ys H2,W i m ys H2->H2 D=some 0x89/\((J.stop i H2/\Q 0x4F H2)\/(J.go i H2/\∃N:List V->Hp->Prop,(∀zs H',N zs H'->∃m',m'<m/\W (i+1) m' zs H')/\∀x H3,J.Pk i H2 x H3->g x (pG σ k ix) H3 fun σ2 H4=>Kp (pG σ k ix) σ2/\
  tt σ2 H4 fun b H5=>if b=true then te σ2 H5 fun y H6=>H6 D=some 0x89/\ys.length<sizeLine/\N (ys++[y]) (upd H6 D (.lst (ys++[y])))else N ys H5))
def JF(k:Nat)(ix:List Nat)(wi:TI)(g:TG)(tt:TT)(te:TE):TE:=fun σ H Q=>wi σ H fun J H1=>∀D,H1 D=none->pX J D σ k ix g tt te Q H1
section
variable{elt:Expr}{ifs:List Expr}{ts fr:List Str}
def QK{k:Nat}(h:(pG σ k ix)[j]?=some (some v)):∃a i,j=k+a/\ix[a]?=some i/\σ[i]?=some (some v):=by
 unfold pG at h
 by_cases hj:j<k
 ·rw[A1k (by simpa using hj),A3w,A0i hj]at h;cases h
 ·rw [A0X (by simpa using hj),A2r,pF]at h;cases e:ix[j-k]? with
  |none=>rw[e]at h;cases h
  | some i=>
   rw[e]at h;refine⟨j-k,i,by lia,e,?_⟩;have h':(σ[i]?).join=some v:=A1b h;cases e2:σ[i]? with
   |none=>rw[e2]at h';cases h'
   |some o=>rw[e2]at h';exact A1R some h'
def CN{k:Nat}:(pG σ k ix).length=k+ix.length:=by unfold pG;simp
def QL{h1:Heap}{tk:Nat}{D:Addr}(S:iw X.N X.env.scope scope ts fr ix)(I:Inv X pins σ H s)(hf:∀b∈fp,jO X pins H b)(hfp:∀b∈fp,b<s.heap.objs.size)
  (hD:s.heap.objs.size<=D)(hC:s.heap.objs.size<=C)(hDC:D≠C)(hk:∀b o,s.heap.get? b=some o->h1.get? b=some o)(ho:h1.get? D=some {cls:=.type "list",data:=.seq #[]}){m0:Str->Option Value}(hn:h1.Ns C m0):
  Inv 0x40 [] (pG σ ts.length ix) (upd H D 0x54) {s with heap:=h1,toks:=tk}:=by
 have hcl:∀x∈scope.names,x.2=.free->(X.env.cells.lookup x.1).isSome=true:=fun x hx hfx=>by
  obtain⟨c,hc⟩:=I.ok.has x.1 (S.frs x hx hfx);rw[hc];rfl
 have a2E:∀b,s.heap.objs.size<=b->∀x c,X.env.cells.lookup x=some c->c≠b:=fun b hb x c e z=>by
  obtain⟨v,q⟩:=I.cell x c e;exact absurd (A0q q.lt (by rw[z];exact hb)) (A1H _)
 have hasC:∀x,scope.names.lookup x=some .free->∃c,(jj X.env scope.names []).lookup x=some c/\X.env.cells.lookup x=some c:=fun x hx=>by
  obtain⟨c,hc⟩:=xX (env:=X.env) scope.names [] (A1w hx);obtain⟨c',hc'⟩:=pJ hc;exact⟨c',hc',gw hcl hc'⟩
 have hfrs:∀b∈fp,b∉frs X.stack:=fun b hb z=>by
  obtain⟨_,f1,f2,_⟩:=hf b hb;rcases A0d.mp (I.uH b z)with e|e
  ·exact f1 e
  ·exact f2 e
 have hCn:H C=none:=I.hok.fresh hC;have hDn:H D=none:=I.hok.fresh hD;refine⟨⟨I.ok.mod,?_,I.ok.glob,I.ok.blt,hC,fun x y c h1 h2=>?_,fun x hx=>?_,fun x c hfx=>?_,I.ok.hd,I.ok.frames,.inl rfl,fun b hb=>⟨?_,fun x c e=>?_⟩,I.bs,A0z I.ok.Pj I.sz,fun b o e hb=>?_,hfrs,I.stack,I.z9⟩,
  rfl,I.bare,Un.laid hk hD hDn,⟨m0,hn,fun i x v e1 e2 e3=>?_⟩,fun x c e=>?_,?_,fun x c e=>?_,fun p hp=>?_,I.hok.laid hk hD ⟨?_,[],0,.nil,ho⟩,?_⟩
 ·show(relabel scope X.env).kind=_
  exact S.kind
 ·exact I.ok.inj x y c (gw hcl h1) (gw hcl h2)
 ·have hx':(relabel scope X.env).names.lookup x=some .cell\/(relabel scope X.env).names.lookup x=some .free:=hx;have hfree:scope.names.lookup x=some .free:=by
   rcases hx' with q|q
   ·obtain⟨k,e,z⟩:=o7 q;rcases z with z|⟨z,_⟩
    ·subst z;exact absurd rfl (S.QJ _ (A1w e))
    ·rw[e,z]
   ·obtain⟨k,e,z⟩:=o7 q;rcases z with z|⟨_,z⟩
    ·rw[e,<-z]
    ·cases z
  obtain⟨c,hc,_⟩:=hasC x hfree;exact⟨c,hc⟩
 ·exact absurd (show false=true from hfx) 0x5
 ·exact A0M (A0q (hfp b hb) hC)
 ·exact(hf b hb).2.2.2.2.1 x c (gw hcl e)
 ·have f:=hf b hb;rcases f.2.2.2.1 with z|z
  ·exact I.ok.Ci b o e z
  ·exact absurd (A0q (A0v (I.ok.bs b o e).1) z) (A1H _)
 ·obtain⟨a,i',hj,hi,hσ⟩:=QK e2;subst hj;have e1':(ts++fr)[ts.length+a]?=some x:=e1;rw[A0X 0x4,Nat.add_sub_cancel_left]at e1';have hN:X.N[i']?=some x:=by
   have q:=A1R (fun l=>l[a]?) S.cap;simp only[pF,e1',hi]at q;exact(A1b q).symm
  have hfree:=S.capf x (wU e1');have hk':=S.frs (x,.free) (A1w hfree) rfl;obtain⟨m,hnm,hl⟩:=I.loc;obtain⟨u,r,lk⟩:=hl i' x v hN hσ (.inr hk');refine⟨u,r,?_⟩;obtain⟨c,hc,hc'⟩:=hasC x hfree;rcases lk with⟨z,_⟩|⟨_,c2,e4,z⟩
  ·have z':X.env.scope.names.lookup x=some .local:=z;rcases hk' with y|y
   ·have y':X.env.scope.names.lookup x=some .cell:=y;rw[z']at y';cases y'
   ·have y':X.env.scope.names.lookup x=some .free:=y;rw[z']at y';cases y'
  ·have hcc:c2=c:=A1b (e4.symm.trans hc');rw[hcc]at z;obtain⟨o,ho2,hd2⟩:=z;exact .inr ⟨zB hfree,c,hc,o,hk _ _ ho2,hd2⟩
 ·obtain⟨v,o,ho2,hd2⟩:=I.cell x c (gw hcl e);exact⟨v,o,hk _ _ ho2,hd2⟩
 ·show upd H D 0x54 C=none
  rw[ak (A0m hDC)];exact hCn
 ·show upd H D 0x54 c=none
  rw[ak (a2E D hD x c (gw hcl e))];exact I.iZ x c (gw hcl e)
 ·exact absurd (show p∈([]:List 0x1E)from hp) 0xA
 ·exact A1j _
 ·have e:=A1R List.length S.cap;simp only[cM]at e;rw[CN]
  show _=(ts++fr).length
  rw[iD,e]
def xY{Q:VK}{use:Option (Value->Sem Unit)}{Qv:Value->Shared->Prop}(hc:X.calm=true)(S:iw X.N X.env.scope scope ts fr ix)(hi:PI X tg iter wi)
  (hb:∀s H fp C,PG 0x40 tg g/\PTs 0x40 ifs tt/\PE 0x40 elt te)
  (hs:∀x,foldedSetIterable iter X.env x=pure x)(I:Inv X pins σ H s)(h:JF ts.length ix wi g tt te σ H Q)
  (fin:∀(D C:Addr)(H':Hp)(s':Shared),Inv X pins σ H' s'->jO X pins H' C->(∃m,s'.heap.Ns C m)->Q 0x4F H'->compPost 0x9 X.A X.xe use Qv 0x4F C (.ok .next) s'):
  wpAny 0x9 X.A (comprehension 0x3A scope X.env (firstIterPos [⟨tg,iter,ifs,0⟩] pos) (newList []) false (eval iter X.env) use) Qv X.xe s:=by
 have hcl:∀x∈scope.names,x.2=.free->(X.env.cells.lookup x.1).isSome=true:=fun x hx hfx=>by
  obtain⟨c,hc⟩:=I.ok.has x.1 (S.frs x hx hfx);rw[hc];rfl
 refine wpAny_comprehension_free (use:=use) rfl hs (tE hcl) S.kind S.nms (cP (hi pins s σ H _ I h) fun v s1 h1=>cP h1 fun itv s2 h2=>?_);obtain⟨it,fp,tn,J,H2,rfl,I2,T,st2,f2,hW⟩:=h2;refine A1V (wpAny_newFunctionEnv S.QJ (by intro y hy;simp at hy) (fun h₁ hns₁ hsb₁=>?_) S.kind);dsimp only at hns₁ hsb₁ ⊢;generalize hH2:s2.heap.push {cls:=.type "list",dict:=none,data:=.seq ([]:List Value).toArray}=G2 at hns₁ hsb₁ ⊢;have hCs:G2.objs.size=s2.heap.objs.size+1:=by rw[<-hH2,A2I]
 have hDC:s2.heap.objs.size≠G2.objs.size:=by rw[hCs];exact A0M (A3Q _)
 have hCle:s2.heap.objs.size<=G2.objs.size:=by rw[hCs];exact A2i _
 have old:∀b o,s2.heap.get? b=some o->h₁.get? b=some o:=fun b o e=>hsb₁.extBut b o (by rw[hCs];exact A0M (A4t (A0v e))) (A0c _ (hH2▸ A0c _ e));have hacc:h₁.get? s2.heap.objs.size=some {cls:=.type "list",data:=.seq #[]}:=hsb₁.extBut _ _ hDC (A0c _ (hH2▸ A0x _ rfl));have hfp:∀b∈fp,b<s2.heap.objs.size:=fun b hb'=>by
  obtain⟨o,e,_⟩:=T.obj _ _ st2 b hb';exact A0v e
 have IC:Inv (Pn X (ts++fr) scope s2 H2 fp G2.objs.size) [] (pG σ ts.length ix) (upd H2 s2.heap.objs.size 0x54) {s2 with heap:=h₁,toks:=s2.toks+([]:List 0x91).length}:=
  QL S I2 f2 hfp 0x33 hCle hDC old hacc hns₁
 have st1:tn 0 h₁:=T.keep _ _ _ st2 fun b hb' o e=>old b o e;obtain⟨W,⟨m0,w0⟩,turn⟩:=hW s2.heap.objs.size I2.fresh;obtain⟨bg,bt,be⟩:=hb s2 H2 fp G2.objs.size;generalize hX:Pn X (ts++fr) scope s2 H2 fp G2.objs.size=Y at IC bg bt be;have eP:Y.prog=X.prog:=by rw[<-hX];rfl
 have eW:Y.w=X.w:=by rw[<-hX];rfl
 have eK:Y.K=X.K:=by rw[<-hX];rfl
 have eC:Y.calm=true:=by rw[<-hX];exact hc
 have eA:Y.A=X.A:=by rw[<-hX];rfl
 have eE:Y.env=compEnvC scope (jj X.env scope.names []) G2.objs.size X.env:=by rw[<-hX];rfl
 have eX:Y.xe=fun _ _=>False:=by rw[<-hX];rfl
 have stat:∀{H':Hp},(∀b∈fp,H' b=none)->∀b∈fp,jO Y [] H' b:=fun hn b hb'=>by
  rw[<-hX];have z:=IC.ok;rw[<-hX]at z;refine⟨hn b hb',(z.exf b hb').1,z.Ga b hb',.inl hb',(z.exf b hb').2,fun p hp=>absurd (show p∈([]:List 0x1E)from hp) 0xA⟩
 have fr0:∀b∈fp,upd H2 s2.heap.objs.size 0x54 b=none:=fun b hb'=>by rw[ak (A0M (hfp b hb'))];exact(f2 b hb').1
 have bot:∀{α:Type}{t:Sem α}{R:α->Shared->Prop}{E:Value->Shared->Prop}{z:Shared},wpAny (model Y.prog Y.w) Y.A t R Y.xe z->wpAny 0x9 X.A t R E z:=fun{α t R E z}q=>by
  rw[eP,eW,eA,eX]at q;exact A1i q (fun _ _ y=>y) fun _ _ y=>y.elim
 have loop:codeAny 0x9 X.A (.compLoop 0x3A 0 0x88 (.ref s2.heap.objs.size) (compEnvC scope (jj X.env scope.names []) G2.objs.size X.env))
   (compPost 0x9 X.A X.xe use Qv (.ref s2.heap.objs.size) G2.objs.size) {s2 with heap:=h₁,toks:=s2.toks+([]:List 0x91).length}:=by
  rw[<-eE];refine codeAny_loop rfl (fun n s'=>∃i ys H',Inv Y [] (pG σ ts.length ix) H' s'/\tn i s'.heap/\(∀b∈fp,H' b=none)/\W i n ys H') (fun n s3 hI=>?_) m0 ⟨0,[],_,IC,st1,fr0,w0⟩;obtain⟨i,ys,H3,I3,st3,fr3,w3⟩:=hI
  show wpAny _ _ ((compTurn 0x3A 0 0x88 (.ref s2.heap.objs.size) Y.env).onRaise (fun x=>do noteFrame x Y.env;theTreesLotGoes x)) _ _ s3
  refine wpAny_noted ?_;rw[compTurn_list];obtain⟨hD3,hcase⟩:=turn i n ys H3 w3;rcases hcase with⟨stop,qn⟩|⟨go,N,hN,step⟩
  ·have q:=T.done Y eP eW eK eC i [] s3 _ H3 (fun _ _=>False) I3 (stat fr3) st3 stop;rw[eA]at q;refine A0a (A2Z (A0a (A1i q (fun r s4 ⟨hr,I4⟩=>?_) fun _ _ y=>y.elim)));subst hr;refine A0n ?_;have b4:Un (frs X.stack) fp H2 H3 s2.heap s4.heap:=by have z:=I4.base;rw[<-hX]at z;exact z
   have ok4:m6 X.prog X.w H3 s4.heap:=by have z:=I4.hok;rw[eP,eW]at z;exact z
   have os4:s4.os=s2.os:=by have z:=I4.os;rw[<-hX]at z;exact z
   have I5:Inv X pins σ H3 s4:=I2.call' os4 b4 ok4 I4.bare fun b hb'=>⟨(f2 b hb').2.2.2.1,(f2 b hb').2.1,(f2 b hb').2.2.2.2.1,(f2 b hb').2.2.2.2.2⟩;have fC:H3 G2.objs.size=none:=by have z:=I4.free;rw[eE]at z;exact z
   have nC:∃m,s4.heap.Ns G2.objs.size m:=by obtain⟨m,z,_⟩:=I4.loc;rw[eE]at z;exact⟨m,z⟩
   exact fin _ _ H3 s4 I5 (I2.zc hCle fC) nC qn
  ·have q:=T.item Y eP eW eK eC i [] s3 _ H3 (fun _ _=>False) I3 (stat fr3) st3 go;rw[eA]at q;refine A0a (A2Z (A0a (A1i q (fun r s4 ⟨u,hr,h4⟩=>?_) fun _ _ y=>y.elim)));subst hr;refine A0a (A1i h4 (fun _ s5 ⟨x,H5,I5,r5,y5,st5,fr5⟩=>?_) fun _ _ y=>y.elim);have I5':=I5.pinned (stat fr5) (T.obj _ _ st5);refine A0a (bot (cP (bg _ s5 _ H5 x u _ I5' r5 (step x H5 y5)) fun _ s6 zq=>?_));obtain⟨σ6,H6,I6,kp6,q6⟩:=zq;refine A0a (bot (cP (bt _ s6 σ6 H6 _ I6 q6) fun ok s7 zq=>?_));obtain⟨H7,I7,q7⟩:=zq;have again:∀{H8:Hp}{s8:Shared}{zs:List V}{m':Nat},Inv Y ([]++uK fp s5.heap) σ6 H8 s8->m'<n->W (i+1) m' zs H8->∃m,m<n/\∃i ys H',Inv Y [] (pG σ ts.length ix) H' s8/\tn i s8.heap/\(∀b∈fp,H' b=none)/\W i m ys H':=fun{H8 s8 zs m'}I8 hm w8=>by
    refine⟨m',hm,i+1,zs,H8,(I8.nQ).weak ?_ kp6,T.keep _ _ _ st5 fun b hb' o e=>(I8.pin (b,o) (A0G _ (A0G _ (jc hb' e)))).1,fun b hb'=>?_,w8⟩
    ·rw[I8.len,I3.len]
    ·obtain⟨o,e,d⟩:=T.obj _ _ st5 b hb';exact(I8.pin (b,o) (A0G _ (A0G _ (jc hb' e)))).2.1
   cases ok with
   | false=>
    rw[A0f 0x5]at q7;obtain⟨m',hm,w8⟩:=hN _ _ q7;exact A0n ⟨rfl,again I7 hm w8⟩
   | true=>
    rw[A0i rfl]at q7;refine A0a (A0a (bot (cP (be _ s7 σ6 H7 _ I7 q7) fun u8 s8 zq=>?_)));obtain⟨y8,H8,I8,r8,hD8,hz,n8⟩:=zq;obtain⟨m',hm,w8⟩:=hN _ _ n8;refine A0a (bot (cP (dw _ s8 σ6 H8 (.ref s2.heap.objs.size) [y8] _ [u8] (fun _ H9=>H9=upd H8 s2.heap.objs.size (.lst (ys++[y8]))) I8 rfl (.cons r8 .nil) ⟨_,ys,y8,rfl,rfl,hD8,hz,rfl⟩) fun _ s9 zq=>?_));obtain⟨_,H9,I9,_,e9⟩:=zq;subst e9;exact A0n (A0n ⟨rfl,again I9 hm w8⟩)
 exact codeAny_compStart_list loop (T.self _ 0 _ _ _ st1 loop)
def kI(hc:X.calm=true)(S:iw X.N X.env.scope scope ts fr ix)(hi:PI X tg iter wi)
  (hb:∀s H fp C,PG 0x40 tg g/\PTs 0x40 ifs tt/\PE 0x40 elt te)
  (hs:∀x,foldedSetIterable iter X.env x=pure x:=by intro _;rfl):PE X 0x3A (JF ts.length ix wi g tt te):=by
 intro pins s σ H Q I h;rw[eval_ListComp];refine xY (use:=none) (Qv:=EP X pins σ Q) hc S hi hb hs I h fun D C H' s' I' f' n' q'=>?_;obtain⟨m,hm⟩:=n';refine⟨m,hm,fun h' sb=>⟨.ref D,H',?_,rfl,q'⟩⟩;exact I'.turned (t':=s'.toks) (fun b o hb' e=>(sb.2 b hb').trans e) f'.1 f'.2.1 f'.2.2.2.1 f'.2.2.2.2.1 f'.2.2.2.2.2
def zF{x:Str}{pos2:Pos}(hc:X.calm=true)(S:iw X.N X.env.scope scope ts fr ix)(hi:PI X tg iter wi)
  (hb:∀s H fp C,PG 0x40 tg g/\PTs 0x40 ifs tt/\PE 0x40 elt te)
  (hN:X.N.Nodup)(hix:X.N[i]?=some x)(hx:Loc X.env.scope x)
  (hw:swapsWith 0x3A (some (.Name x pos')) pos2.line X.env=pure true:=by rfl)
  (hf:X.fn x=true\/X.env.scope.names.lookup x=some .local:=by first|exact .inl rfl|exact .inr rfl|assumption)
  (hs:∀x,foldedSetIterable iter X.env x=pure x:=by intro _;rfl):
  PS X (.Assign [.Name x pos'] 0x3A pos2) (fun D σ H=>JF ts.length ix wi g tt te σ H fun v H'=>D.nx (σ.set i (some v)) H'):=by
 intro pins s σ H D I h;rw[exec_Assign_Name_used _ _ _ _ hw];refine A0a (A2Z (A0a ?_))
 show wpAny _ X.A (do let _<-comprehension 0x3A scope X.env _ (newList []) false (eval iter X.env) (some (assign (.Name x pos') X.env))) _ _ s
 refine A0a (A1i (xY (use:=some (assign (.Name x pos') X.env)) (Qv:=fun _ s'=>SP X pins D .next s') hc S hi hb hs I h fun D' C H' s' I' f' n' q'=>?_) (fun _ s' hq=>A0n (A0n hq)) fun _ _ e=>e);obtain⟨m,hm⟩:=n';refine wpAny_assign_Name (xu I' hN hix hx (v:=.ref D') rfl (fun s'' I'' ⟨a,sb,ha⟩=>?_) hf);have hCa:C≠a:=by
  rcases ha with rfl|ha
  ·exact f'.2.1
  ·exact fun z=>f'.2.2.2.2.1 _ _ ha z.symm
 refine⟨m,hm.sameBut sb hCa,fun h' sb'=>⟨_,H',?_,q'⟩⟩;exact I''.turned (t':=s''.toks) (fun b o hb' e=>(sb'.2 b hb').trans e) f'.1 f'.2.1 f'.2.2.2.1 f'.2.2.2.2.1 f'.2.2.2.2.2
end
abbrev CP(D:Addr)(σ:St)(k:Nat)(ix:List Nat)(g:TG)(tt:TT)(te:TE)(x:V)(ys:List V)(H:Hp)(N:List V->Hp->Prop):Prop:=
 g x (pG σ k ix) H fun σ2 H4=>Kp (pG σ k ix) σ2/\tt σ2 H4 fun b H5=>if b=true then te σ2 H5 fun y H6=>H6 D=some 0x89/\ys.length<sizeLine/\N (ys++[y]) (upd H6 D (.lst (ys++[y])))else N ys H5
def zG{J:It}{item:Nat->V}{D:Addr}{k:Nat}{Q:VK}(Pv:Nat->List V->Hp->Prop)
  (hJ:∀i ys H,Pv i ys H->(i<n->J.go i H/\∀x H',J.Pk i H x H'->H'=H/\x=item i)/\(n<=i->J.stop i H))(h0:Pv 0 [] (upd H1 D 0x54))(hD:∀i ys H,Pv i ys H->H D=some 0x89)
  (hs:∀i ys H,i<n->Pv i ys H->CP D σ k ix g tt te (item i) ys H (Pv (i+1)))(hd:∀ys H,Pv n ys H->Q 0x4F H):pX J D σ k ix g tt te Q H1:=by
 refine⟨fun i m ys H=>m=n-i/\i<=n/\Pv i ys H,⟨n,by simp,A1j _,h0⟩,?_⟩;rintro i m ys H ⟨rfl,hi,p⟩;refine⟨hD i ys H p,?_⟩;obtain⟨h1,h2⟩:=hJ i ys H p
 by_cases hlt:i<n
 ·obtain⟨hg,hy⟩:=h1 hlt;refine .inr ⟨hg,Pv (i+1),fun zs H' p'=>⟨n-(i+1),by lia,rfl,hlt,p'⟩,fun x H' y=>?_⟩;obtain⟨rfl,rfl⟩:=hy x H' y;exact hs i ys H' hlt p
 ·have e:i=n:=by lia
  subst e;exact .inl ⟨h2 0x33,hd ys H p⟩
def Gp{D:Addr}{k:Nat}{Q:VK}(Pv:Nat->List V->Hp->Prop)(h0:Pv 0 [] (upd H1 D 0x54))(hD:∀i ys H,Pv i ys H->H D=some 0x89)
  (hs:∀i ys H,i<n->Pv i ys H->CP D σ k ix g tt te (.int (lo+i)) ys H (Pv (i+1)))(hd:∀ys H,Pv n ys H->Q 0x4F H):pX (Itr lo n) D σ k ix g tt te Q H1:=
 zG (item:=fun i=>.int (lo+i)) Pv (fun i ys H _=>⟨fun h=>⟨h,fun x H' y=>y⟩,fun h=>h⟩) h0 hD hs hd
def xZ{D:Addr}{k:Nat}{Q:VK}(Pv:Nat->List V->Hp->Prop)(hl:∀i ys H,Pv i ys H->bY K H a xs)(h0:Pv 0 [] (upd H1 D 0x54))(hD:∀i ys H,Pv i ys H->H D=some 0x89)
  (hs:∀i ys H x,xs[i]?=some x->Pv i ys H->CP D σ k ix g tt te x ys H (Pv (i+1)))(hd:∀ys H,Pv xs.length ys H->Q 0x4F H):pX (Itl K a) D σ k ix g tt te Q H1:=
 zG (n:=xs.length) (item:=fun i=>xs.getD i .non) Pv (fun i ys H p=>⟨fun h=>⟨⟨xs,xs[i],hl i ys H p,by simp[h]⟩,fun x H' y=>⟨y.1,by
  have:=y.2 xs (hl i ys H p);rw[wR,this];rfl⟩⟩,fun h=>⟨xs,hl i ys H p,h⟩⟩) h0 hD (fun i ys H h p=>hs i ys H _ (by rw[wR,lG h];rfl) p) hd
abbrev nF(l:List Nat):Str:=⟨l.toArray⟩
def o8(x:Str):nF x.cps.toList=x:=by cases x;simp[nF]
def jC(l:List Nat):(nF l).length=l.length:=by simp[nF,Str.length]
def zH{x y:Str}(h:x.cps.toList=y.cps.toList):x=y:=by
 rw[<-o8 x,<-o8 y,h]
def tG{α:Type}(xs:List α)(lo hi:Option Int):List α:=(xs.drop (HT.fQ xs.length 0 lo)).take 0x78
def uT(lo hi:Option Int)(n:Nat):Builtin.Str.strSliceIndices lo hi 1 n=(List.range (HT.fQ n n hi-HT.fQ n 0 lo)).map (HT.fQ n 0 lo+·):=by
 rw[<-sliceRange_one];unfold Builtin.Str.strSliceIndices;simp only[show(1:Int)>0 by decide,A3j]
 congr 1
 ·cases lo with
  |none=>simp[HT.fQ]
  |some i=>simp only[HT.fQ];by_cases h:i<0<;>simp only[h,A3j,A3f]<;>lia
 ·cases hi with
  |none=>simp[HT.fQ]
  |some i=>simp only[HT.fQ];by_cases h:i<0<;>simp only[h,A3j,A3f]<;>lia
def Gq(x:Str)(lo hi:Option Int):Txt.slice x lo hi=nF (tG x.cps.toList lo hi):=by
 have e:(Builtin.Str.strSliceIndices lo hi 1 x.length).filterMap (x.cps[·]?)=tG x.cps.toList lo hi:=by
  rw[uT,pick_run];unfold tG;simp only[Str.length,A1o]
 unfold Txt.slice
 split
 ·rename_i h
  have hl:(Builtin.Str.strSliceIndices lo hi 1 x.length).length=x.length:=by simpa using h
  have h1:tG x.cps.toList lo hi=x.cps.toList:=by
   rw[uT,cM,List.length_range]at hl;have hn:x.length=x.cps.toList.length:=by simp[Str.length]
   rw[hn]at hl;have b1:=HT.Qu x.cps.toList.length x.cps.toList.length 0x33 hi;unfold tG
   by_cases h0:HT.fQ x.cps.toList.length 0 lo=0
   ·rw[h0,List.drop_zero,A2h 0x4]
   ·have:x.cps.toList.length=0:=by lia
    have h2:x.cps.toList=[]:=List.length_eq_zero_iff.mp this;rw[h2];simp
  rw[h1,o8]
 ·rw[e]
inductive rSlS(x:V)(lo hi:Option Int)(H:Hp)(Q:VK):Prop
 |mk(z:Str)(_:x=.str z)(_:z.length<=sizeLine)(_:Q (.str (nF (tG z.cps.toList lo hi))) H):rSlS x lo hi H Q
def QM:SlR X rSlS:=by
 intro pins s σ H x v vl vu lo hi sl Q I rx hs pl pu h;obtain⟨z,rfl,hzl,q⟩:=h;obtain⟨t,rfl⟩:=rx;obtain⟨l,rfl,el⟩:∃l:Option (Int×Tok),vl=partValue l/\l.map (·.1)=lo:=by
  cases pl with
  |none=>exact⟨none,rfl,rfl⟩
  |int i t=>exact⟨some (i,t),rfl,rfl⟩
 obtain⟨u,rfl,eu⟩:∃l:Option (Int×Tok),vu=partValue l/\l.map (·.1)=hi:=by
  cases pu with
  |none=>exact⟨none,rfl,rfl⟩
  |int i t=>exact⟨some (i,t),rfl,rfl⟩
 subst el eu;refine⟨"str",_,F.slot_str_getitem.lookup,typeIs_str s z t,wpAny_getItem_str_slice (l:=l) (u:=u) (st:=none) hs rfl ?_⟩;have e:=Gq z (l.map (·.1)) (u.map (·.1));unfold Txt.slice at e;unfold sliceMade;have hp:slicePicked z l u none=Builtin.Str.strSliceIndices (l.map (·.1)) (u.map (·.1)) 1 z.length:=rfl;rw[hp];have h1:(((none:Option (Int×Tok)).map (·.1)).getD 1==1&&(Builtin.Str.strSliceIndices (l.map (·.1)) (u.map (·.1)) 1 z.length).length==z.length)=((1:Int)==1&&(Builtin.Str.strSliceIndices (l.map (·.1)) (u.map (·.1)) 1 z.length).length==z.length):=rfl;rw[h1]
 by_cases hc:((1:Int)==1&&(Builtin.Str.strSliceIndices (l.map (·.1)) (u.map (·.1)) 1 z.length).length==z.length)=true
 ·rw[A0i hc]at e ⊢;exact⟨.str z,H,I,⟨t,rfl⟩,by rw[<-e]at q;exact q⟩
 ·rw[A0f hc]at e ⊢;rw[<-e]at q;refine⟨?_,⟨.str _,H,I.tok _,⟨_,rfl⟩,q⟩⟩;have hle:=Txt.slice_le z (l.map (·.1)) (u.map (·.1));unfold Txt.slice at hle;rw[A0f hc]at hle;exact A0z hle hzl
theorem yc:∀{ts:List Str}{us:List Value},Vals (ts.map V.str) us->∃l:List (Str×Tok),us=strValues l/\l.map (·.1)=ts
 | [],_,r=>by
  rw[A3K]at r;cases r;exact⟨[],rfl,rfl⟩
 | t::ts,_,r=>by
  rw[A0h]at r;cases r with
  | cons r1 r2=>
   obtain⟨k,rfl⟩:=r1;obtain⟨l,rfl,e⟩:=yc r2;exact⟨(t,k)::l,rfl,by rw[A0h,e]⟩
inductive rJoin(K:W.Frag)(x:V)(vs:List V)(H:Hp)(Q:VK):Prop
 |mk(sep:Str)(l:Addr)(ts:List Str)(_:x=.str sep)(_:vs=[.ref l])(_:bY K H l (ts.map V.str))(_:JoinOk sep ts=true)(_:Q (.str (Txt.join sep ts)) H):rJoin K x vs H Q
def WX:MtR X "str.join" (rJoin X.K):=by
 intro pins s σ H x vs v us Q I rx rv h;obtain⟨sep,l,ts,rfl,rfl,hq,ok,q⟩:=h;obtain⟨t,rfl⟩:=rx;obtain⟨u,rfl,ru⟩:=rv.one;cases ru;obtain⟨its,r,p,hz⟩:=I.list hq;obtain⟨l',rfl,el⟩:=yc r;exact SC.join p.isList el ok fun t' k=>⟨.str _,H,I.tok _,⟨_,rfl⟩,q⟩
def Gr(hc:X.calm=true)(hin:X.A.in1.handled=none):gO X (.builtin "all") (fun xs H Q=>∃(p:Addr)(bs:List Bool),xs=[.ref p]/\bY X.K H p (bs.map V.bl)/\Q (.bl (bs.all id)) H):=by
 intro pins s σ H xs us Q I r h;obtain⟨p,bs,rfl,hq,q⟩:=h;obtain⟨u,rfl,ru⟩:=vals1 r;cases ru;obtain⟨its,rv,pl,hz⟩:=I.list hq;have hlen:=rv.length;rw[cM]at hlen;have hne:p≠s.heap.objs.size:=by
  obtain⟨o,n,e,_⟩:=pl;exact A0M (A0v e)
 refine call_all_walk (A4r pl.isList ?_);refine⟨s.heap.objs.size,_,_,its.toArray.size,_,_,fun i=>bs.getD i true,rfl,Walks.list hin s.heap.objs.size p hne its.toArray,⟨⟨_,A0x _ rfl,rfl,rfl⟩,?_⟩,?_,?_⟩
 ·obtain⟨o,n,e,c,d,dd⟩:=pl;exact⟨o,A0c _ e,c,n,dd⟩
 ·intro i v s' Q' E' hv hQ';have hv':its[i]?=some v:=by simpa using hv
  have hi:i<its.length:=(A0j.mp hv').1;have hb:(bs.map V.bl)[i]?=some (V.bl (bs.getD i true)):=by
   rw[pF,lG 0x4,wR,lG 0x4];rfl
  obtain⟨u,hu,ru⟩:=rv.get hb;rw[hv']at hu;cases hu;cases ru;exact A1M hQ'
 ·intro h' tk kk;have e:(List.range its.toArray.size).all (fun i=>bs.getD i true)=bs.all id:=by
   rw[A0u,<-hlen,A1h,A1L,A1L]
   constructor
   ·intro z b hb;obtain⟨i,hi,rfl⟩:=A1T.mp hb;have:=z i (List.mem_range.mpr hi);rw[wR,lG hi]at this;exact this
   ·intro z i hi;have hi':=List.mem_range.mp hi;rw[wR,lG hi'];exact z _ (A0U hi')
  rw[e];have I1:Inv X pins σ H {s with heap:=s.heap.push {cls:=.type "list_iterator",data:=.fields #[.ref p,.int 0 0]}}:=I.kept (t':=s.toks) fun b o e=>A0c _ e;obtain⟨f0,f1,f2,f3,f4,f5⟩:=I.zc 0x33 0x4B;exact⟨.bl (bs.all id),H,I1.turned (fun b o hb e=>kk b o (by simpa using hb) e) f0 f1 f3 f4 f5,rfl,q⟩
def CQ:gO X 0x8F (fun xs H Q=>∃x T t b,xs=[x,.ty T]/\qu X.K H x t/\PySem.W.kitOne X.K t (.type T)=some b/\Q (.bl b) H):=by
 intro pins s σ H xs us Q I r h;obtain⟨x,T,t,b,rfl,ty,e,q⟩:=h;obtain⟨u,u',rfl,ru,ru'⟩:=vals2 r;cases ru';exact Mx I ru ty e fun tk=>⟨.bl b,H,I.tok _,rfl,q⟩
def CT(h:X.K=K:=by rfl):IxR X (a0A K):=h▸ bD
def JG(h:X.K=K:=by rfl):IxR X (a0B K):=h▸ aY
def WY(h:X.K=K:=by rfl):SlR X (a0z K):=h▸ Qx
inductive Zn(K:W.Frag)(xs:List V)(H:Hp)(Q:VK):Prop
 |mk(p:Addr)(ys:List V)(_:xs=[.ref p])(_:(bY K H p ys\/bN K H p ys))(_:Q (.int ys.length) H):Zn K xs H Q
def yd(h:X.K=K:=by rfl):gO X (.builtin "len") (Zn K):=h▸ fun pins s σ H xs us Q I r ⟨p,ys,a,b,c⟩=>cY pins s σ H xs us Q I r ⟨p,ys,a,b,c⟩
inductive rIsi(K:W.Frag)(xs:List V)(H:Hp)(Q:VK):Prop
 |mk(x:V)(T:String)(t:Value)(b:Bool)(_:xs=[x,.ty T])(_:qu K H x t)(_:PySem.W.kitOne K t (.type T)=some b)(_:Q (.bl b) H):rIsi K xs H Q
def dM(h:X.K=K:=by rfl):gO X 0x8F (rIsi K):=h▸ fun pins s σ H xs us Q I r ⟨p,ys,t,d,a,b,c,e⟩=>CQ pins s σ H xs us Q I r ⟨p,ys,t,d,a,b,c,e⟩
inductive rAll(K:W.Frag)(xs:List V)(H:Hp)(Q:VK):Prop
 |mk(p:Addr)(bs:List Bool)(_:xs=[.ref p])(_:bY K H p (bs.map V.bl))(_:Q (.bl (bs.all id)) H):rAll K xs H Q
def MP(hc:X.calm=true)(hin:X.A.in1.handled=none)(h:X.K=K:=by rfl):gO X (.builtin "all") (rAll K):=h▸ fun pins s σ H xs us Q I r ⟨p,ys,a,b,c⟩=>Gr hc hin pins s σ H xs us Q I r ⟨p,ys,a,b,c⟩
def bT:bootBuiltins "isinstance"=some 0x8F:=by decide+kernel
def a0F:bootBuiltins "all"=some (.builtin "all"):=by decide+kernel
def zJ:bootBuiltins "abs"=some (.builtin "abs"):=by decide+kernel
def QS:bootBuiltins "max"=some (.builtin "max"):=by decide+kernel
def jM:bootBuiltins "sorted"=some (.builtin "sorted"):=by decide+kernel
def zK:bootBuiltins "bool"=some (.type "bool"):=by decide+kernel
def a0G:bootBuiltins "int"=some (.type "int"):=by decide+kernel
def a0H:bootBuiltins "str"=some (.type "str"):=by decide+kernel
def qC:bootBuiltins "list"=some (.type "list"):=by decide+kernel
def uU:bootBuiltins "tuple"=some (.type "tuple"):=by decide+kernel
def a0I:bootBuiltins "zip"=some (.type "zip"):=by decide+kernel
def a0J{t:Addr}{its:Array Value}{x:Value}(hit:s.heap.IsTupleIter it t i)(ht:s.heap.IsTuple t its)(hx:its[i]?=some x)
  (hQ:∀h',h'.IsTupleIter it t (i+1)->Heap.SameBut it s.heap h'->Q x {s with heap:=h'}):wpAny 0x13 A 0x93 Q E s:=by
 obtain⟨o,ho,hc,hd⟩:=id hit;obtain⟨ot,hot,_,nt,hdt⟩:=ht;unfold Builtin.SmallTypes.nextOf;refine A0a (A1y (name:=Str.ofString "__next__") hit.typeIs A2m (A2b A2m hit.typeIs A4g ?_ (A3Z _)))
 show wpAny _ _ (field 0x88 0>>=_) _ _ s;refine A0a (A1N ho hd (x:=.ref t) rfl ?_)
 show wpAny _ _ (if(Value.ref t==Value.none)=true then _ else _) _ _ s;rw[A0f (show ¬((Value.ref t==Value.none)=true)from fun z=>A0r z)]
 show wpAny _ _ (field 0x88 1>>=_) _ _ s;refine A0a (A1N ho hd (x:=.int i 0) rfl ?_)
 show wpAny _ _ (seqItems? 0x58>>=_) _ _ s;refine A0a (A2n hot hdt ?_);simp only[A3J,hx]
 refine A0a (wpAny_setField ho hd 0xA (A0n ⟨x,rfl,A0n (hQ _ ⟨_,Heap.get?_update_self _ ho (Obj.isFreed_of_fields (Obj.data_mapFields hd _)),(Obj.cls_mapFields ..).trans hc,by rw[Obj.data_mapFields hd];simp[rawInt]⟩ (Heap.SameBut.update ..))⟩))
def Gs{t:Addr}{its:Array Value}(hh:A.handled=none)(hit:s.heap.IsTupleIter it t i)(ht:s.heap.IsTuple t its)(hx:its[i]?=none)
  (hE:∀h' e,Heap.ExtBut it s.heap h'->(∃o,h'.get? e=some o/\o.cls=.type "StopIteration")->E (.ref e) {s with heap:=h'}):wpAny 0x13 A 0x93 Q E s:=by
 obtain⟨o,ho,hc,hd⟩:=id hit;obtain⟨ot,hot,_,nt,hdt⟩:=ht;unfold Builtin.SmallTypes.nextOf;refine A0a (A1y (name:=Str.ofString "__next__") hit.typeIs A2m (A2b A2m hit.typeIs A4g ?_ (A3Z _)))
 show wpAny _ _ (field 0x88 0>>=_) _ _ s;refine A0a (A1N ho hd (x:=.ref t) rfl ?_)
 show wpAny _ _ (if(Value.ref t==Value.none)=true then _ else _) _ _ s;rw[A0f (show ¬((Value.ref t==Value.none)=true)from fun z=>A0r z)]
 show wpAny _ _ (field 0x88 1>>=_) _ _ s;refine A0a (A1N ho hd (x:=.int i 0) rfl ?_)
 show wpAny _ _ (seqItems? 0x58>>=_) _ _ s;refine A0a (A2n hot hdt ?_);simp only[A3J,hx]
 refine A0a (A3P (A0a (wpAny_setField ho hd 0xA ?_)));show wpAny _ _ (newExc (.type "StopIteration") []>>=_) _ _ _
 refine A0a ?_;simp only[newExc,newTuple];refine A0a (A1V ?_ (by size_fits));refine A0a (m:=firstArgMember _ _) (wpAny_of_eq (a:=Value.none) (by first|rfl|(simp only[firstArgMember];rfl)) ?_);refine A1V ?_ (by size_fits)
 simp only[raiseNew];refine A0a (wpAny_handled ?_);first|rw[show A.in1.handled=none from hh]|rw[hh]
 refine A0a (A0n (wpAny_throw (hE _ _ (((Heap.SameBut.update ..).extBut.push _).push _) ⟨_,A0x _ rfl,rfl⟩)))
structure CV(P:Program)(w:World)(K:PySem.W.Frag)(it:Addr)(go stop:Nat->Hp->Prop)(Pk:Nat->Hp->V->Prop)(tn:Nat->Heap->Prop):Prop where
 obj:∀i h,tn i h->∃o,h.get? it=some o/\∀v,o.data≠.cell v
 keep:∀i h h',tn i h->(∀o,h.get? it=some o->h'.get? it=some o)->tn i h'
 item:∀(X:Cx)(pins:List 0x1E)(σ:St)(H:Hp)(s₀:Shared)(i:Nat)(fp:List Addr),X.prog=P->X.w=w->X.K=K->Inv X pins σ H s₀->(∀b∈fp,jO X pins H b)->go i H->
  ∃ U:Heap->Prop,U s₀.heap/\(∀h h',U h->(∀b o,b∉fp->h.get? b=some o->h'.get? b=some o)->U h')/\∃x,Pk i H x/\
   ∀ (A:Around)(s:Shared)(Q:Value->Shared->Prop)(E:Value->Shared->Prop),U s.heap->tn i s.heap->(∀u h' tk,RelV x u->tn (i+1) h'->Heap.SameBut it s.heap h'->Q u {s with heap:=h',toks:=tk})->
    wpAny (model P w) A 0x93 Q E s
 done:∀(X:Cx)(pins:List 0x1E)(σ:St)(H:Hp)(s₀:Shared)(i:Nat)(fp:List Addr),X.prog=P->X.w=w->X.K=K->Inv X pins σ H s₀->(∀b∈fp,jO X pins H b)->stop i H->
  ∃ U:Heap->Prop,U s₀.heap/\(∀h h',U h->(∀b o,b∉fp->h.get? b=some o->h'.get? b=some o)->U h')/\
   ∀ (A:Around)(s:Shared)(Q:Value->Shared->Prop)(E:Value->Shared->Prop),A.handled=none->U s.heap->tn i s.heap->(∀h' e,Heap.ExtBut it s.heap h'->(∃o,h'.get? e=some o/\o.cls=.type "StopIteration")->E (.ref e) {s with heap:=h'})->
    wpAny (model P w) A 0x93 Q E s
def Gu(I:Inv X pins σ H s)(hf:∀b∈fp,jO X pins H b){o:Obj}(e:X.base.get? a=some o):a∉fp:=fun hb=>by
 rcases(hf a hb).2.2.2.1 with z|z
 ·exact I.ok.Ci a o e z
 ·exact absurd (A0q (A0v (I.ok.bs a o e).1) z) (A1H _)
def yg(I:Inv X pins σ H s)(hf:∀b∈fp,jO X pins H b)(h:bN X.K H a xs):a∉fp:=by
 rcases h with(h|⟨o,h⟩)|⟨o,its,n,hk,_⟩
 ·exact fun hb=>by rw[(hf a hb).1]at h;cases h
 ·exact fun hb=>by rw[(hf a hb).1]at h;cases h
 ·exact Gu I hf (I.ok.mod.kin a o hk)
def JH(a it:Addr):CV P w K it (fun i H=>∃xs x,bN K H a xs/\xs[i]?=some x) (fun i H=>∃xs,bN K H a xs/\xs.length<=i) (fun i H x=>∀xs,bN K H a xs->xs[i]?=some x) (fun i h=>h.IsTupleIter it a i) where
 obj:=fun i h ⟨o,e,c,d⟩=>⟨o,e,fun v z=>by rw[d]at z;cases z⟩
 keep:=fun i h h' ⟨o,e,r⟩ k=>⟨o,k o e,r⟩
 item:=fun X pins σ H s₀ i fp hP hw hK I hf ⟨xs,x,hq,hx⟩=>by
  subst hP hw hK;obtain⟨its,rv,p,_⟩:=I.tuple hq;have na:=yg I hf hq;obtain⟨u,hu,ru⟩:=rv.get hx;refine⟨fun h=>h.IsTuple a its.toArray,p,fun h h' ⟨o,e,r⟩ k=>⟨o,k a o na e,r⟩,x,fun ys hy=>by rw[I.Mq hy hq];exact hx,fun A s Q E hU st hQ=>?_⟩;exact a0J st hU (x:=u) (by simpa using hu) fun h' st' sb=>hQ u h' s.toks ru st' sb
 done:=fun X pins σ H s₀ i fp hP hw hK I hf ⟨xs,hq,hx⟩=>by
  subst hP hw hK;obtain⟨its,rv,p,_⟩:=I.tuple hq;have na:=yg I hf hq;have hl:=rv.length;exact⟨fun h=>h.IsTuple a its.toArray,p,fun h h' ⟨o,e,r⟩ k=>⟨o,k a o na e,r⟩,fun A s Q E hh hU st hE=>Gs hh st hU (by simp;lia) hE⟩
structure ZA(z TI TO i1 i2:Addr):Prop where
 p1:TI≠z
 p2:TO≠z
 p3:i1≠z
 p4:i2≠z
 p5:TI≠TO
 p6:TI≠i1
 p7:TI≠i2
 p8:TO≠i1
 p9:TO≠i2
 p0:i1≠i2
def X3{TI TO:Addr}{x:V}{a b:Value}{U1 U2 T1 T2 X4 T2':Heap->Prop}(D:ZA z TI TO i1 i2)
  (hz:IsZip s.heap z TI TO .none)(hTI:IsPair s.heap TI (.ref i1) (.ref i2))(hTO:IsPair s.heap TO a b)(u1:U1 s.heap)(u2:U2 s.heap)(t1:T1 s.heap)(t2:T2 s.heap)
  (k1:∀h h',U1 h->(∀b o,b∉[z,TI,TO,i1,i2]->h.get? b=some o->h'.get? b=some o)->U1 h')(k2:∀h h',U2 h->(∀b o,b∉[z,TI,TO,i1,i2]->h.get? b=some o->h'.get? b=some o)->U2 h')
  (q1:∀h h',T1 h->(∀o,h.get? i1=some o->h'.get? i1=some o)->T1 h')(q2:∀h h',T2 h->(∀o,h.get? i2=some o->h'.get? i2=some o)->T2 h')
  (q1':∀h h',X4 h->(∀o,h.get? i1=some o->h'.get? i1=some o)->X4 h')(q2':∀h h',T2' h->(∀o,h.get? i2=some o->h'.get? i2=some o)->T2' h')
  (d1:∀(A:Around)(s:Shared)(Q:Value->Shared->Prop)(E:Value->Shared->Prop),U1 s.heap->T1 s.heap->(∀u h' tk,RelV x u->X4 h'->Heap.SameBut i1 s.heap h'->Q u {s with heap:=h',toks:=tk})->wpAny 0x13 A (Builtin.SmallTypes.nextOf (.ref i1)) Q E s)
  (d2:∀(A:Around)(s:Shared)(Q:Value->Shared->Prop)(E:Value->Shared->Prop),U2 s.heap->T2 s.heap->(∀u h' tk,RelV y u->T2' h'->Heap.SameBut i2 s.heap h'->Q u {s with heap:=h',toks:=tk})->wpAny 0x13 A (Builtin.SmallTypes.nextOf (.ref i2)) Q E s)
  (hQ:∀u v h' tk,RelV x u->RelV y v->IsZip h' z TI TO (rawInt s.heap.objs.size)->IsPair h' TI (.ref i1) (.ref i2)->IsPair h' TO u v->X4 h'->T2' h'->IsPair h' s.heap.objs.size u v->
   (∀c o,c≠z->c≠TO->c≠i1->c≠i2->s.heap.get? c=some o->h'.get? c=some o)->Q 0x30 {s with heap:=h',toks:=tk}):
  wpAny 0x13 A (Builtin.«zip.__next__» ⟨[.ref z],[]⟩) (fun fin s'=>∃v,fin=.done (.ret v)/\Q v s') E s:=by
 have mz:∀{c:Addr},c∉[z,TI,TO,i1,i2]->c≠z/\c≠TO/\c≠i1/\c≠i2:=fun{c}h=>by simp at h;exact⟨h.1,h.2.2.1,h.2.2.2.1,h.2.2.2.2⟩
 show wpAny _ _ (field (.ref z) 2>>=_) _ _ _;refine A0a (A1N hz rfl (x:=.bool false) rfl ?_)
 show wpAny _ _ (field (.ref z) 3>>=_) _ _ _;refine A0a (A1N hz rfl (x:=.ref TI) rfl (A0a (A2n hTI rfl ?_)))
 show wpAny _ _ (Builtin.SmallTypes.ownedTupleIsFree (.ref z)>>=_) _ _ _;refine A0a ?_;unfold Builtin.SmallTypes.ownedTupleIsFree
 refine A0a (A1N hz rfl (x:=.none) rfl (A0n ?_));simp only[A3j];refine A0a (A3P (A0a (A1N hz rfl (x:=.ref TO) rfl (A0a (A2o hz 0xA fun g1 hz1 hs1=>?_)))))
 replace hz1:IsZip g1 z TI TO .ellipsis:=hz1
 refine A0a ?_;simp only[List.zipIdx_cons,List.zipIdx_nil,A3Y,List.forIn_nil];refine A0a (A0a (A4H ?_));show wpAny _ _ (Builtin.SmallTypes.nextOf (.ref i1)>>=_) _ _ _
 refine A0a (d1 _ _ _ _ (k1 _ _ u1 fun c o hc e=>hs1.extBut _ _ (mz hc).1 e) (q1 _ _ t1 fun o e=>hs1.extBut _ _ D.p3 e) fun u g2 tk2 ru t1b hs2=>A0n ?_);have QT:IsPair g2 TO a b:=hs2.extBut _ _ D.p8 (hs1.extBut _ _ D.p2 hTO);refine A0a (A2n QT rfl (A0a (A3W QT fun g3 X5 hs3=>?_)))
 replace X5:IsPair g3 TO u b:=X5
 refine A0a (A4W (A0n (A0a (A0a (A4H ?_)))));show wpAny _ _ (Builtin.SmallTypes.nextOf (.ref i2)>>=_) _ _ _
 refine A0a (d2 _ _ _ _ (k2 _ _ u2 fun c o hc e=>hs3.extBut _ _ (mz hc).2.1 (hs2.extBut _ _ (mz hc).2.2.1 (hs1.extBut _ _ (mz hc).1 e))) (q2 _ _ t2 fun o e=>hs3.extBut _ _ D.p9.symm (hs2.extBut _ _ D.p0.symm (hs1.extBut _ _ D.p4 e))) fun v g4 tk4 rv t2b Zo=>A0n ?_);have hTO4:IsPair g4 TO u b:=Zo.extBut _ _ D.p9 X5;refine A0a (A2n hTO4 rfl (A0a (A3W hTO4 fun g5 X6 Zq=>?_)))
 replace X6:IsPair g5 TO u v:=X6
 refine A0a (A4W (A0n (A0n (A0a (A2n X6 rfl (A0a (wpAny_newTuple ?_)))))));have sz:g5.objs.size=s.heap.objs.size:=by rw[Zq.1,Zo.1,hs3.1,hs2.1,hs1.1]
 have all5:∀c o,c≠z->c≠TO->c≠i1->c≠i2->s.heap.get? c=some o->g5.get? c=some o:=fun c o c1 c2 c3 c4 e=>Zq.extBut _ _ c2 (Zo.extBut _ _ c4 (hs3.extBut _ _ c2 (hs2.extBut _ _ c3 (hs1.extBut _ _ c1 e))));have hz5:IsZip g5 z TI TO .ellipsis:=Zq.extBut _ _ D.p2.symm (Zo.extBut _ _ D.p4.symm (hs3.extBut _ _ D.p2.symm (hs2.extBut _ _ D.p3.symm hz1)));have t15:X4 g5:=q1' _ _ t1b fun o e=>Zq.extBut _ _ D.p8.symm (Zo.extBut _ _ D.p0 (hs3.extBut _ _ D.p8.symm e));have t25:T2' g5:=q2' _ _ t2b fun o e=>Zq.extBut _ _ D.p9.symm e;have zlt:z<g5.objs.size:=A0v hz5
 show wpAny _ _ (Builtin.SmallTypes.ownedTupleHandOut (.ref z) (.ref g5.objs.size)>>=_) _ _ _;refine A0a ?_;unfold Builtin.SmallTypes.ownedTupleHandOut
 have hz6:IsZip (g5.push {cls:=.type "tuple",data:=.seq #[u,v]}) z TI TO .ellipsis:=A0c _ hz5;refine A0a (A2o hz6 0xA fun g7 hz7 hs7=>?_)
 replace hz7:IsZip g7 z TI TO (rawInt g5.objs.size):=hz7
 refine A2o hz7 0xA fun g8 hz8 hs8=>?_
 replace hz8:IsZip g8 z TI TO (rawInt g5.objs.size):=hz8
 have up8:∀c o,c≠z->g5.get? c=some o->g8.get? c=some o:=fun c o c1 e=>hs8.extBut _ _ c1 (hs7.extBut _ _ c1 (A0c _ e));have hT8:IsPair g8 g5.objs.size u v:=hs8.extBut _ _ (A3i zlt) (hs7.extBut _ _ (A3i zlt) (A0x _ rfl));rw[sz]at hz8 hT8;refine A0n ⟨_,rfl,?_⟩
 show Q (.ref g5.objs.size) _;rw[sz]
 exact hQ u v g8 _ ru rv hz8 (up8 _ _ D.p1 (all5 _ _ D.p1 D.p5 D.p6 D.p7 hTI)) (up8 _ _ D.p2 X6) (q1' _ _ t15 fun o e=>up8 _ o D.p3 e) (q2' _ _ t25 fun o e=>up8 _ o D.p4 e) hT8 fun c o c1 c2 c3 c4 e=>up8 c o c1 (all5 c o c1 c2 c3 c4 e)
def CW{TI TO:Addr}{x:V}{a b:Value}{U1 U2 T1 T2 X4:Heap->Prop}{Q:Fin->Shared->Prop}(hh:A.handled=none)(D:ZA z TI TO i1 i2)
  (hz:IsZip s.heap z TI TO .none)(hTI:IsPair s.heap TI (.ref i1) (.ref i2))(hTO:IsPair s.heap TO a b)(u1:U1 s.heap)(t1:T1 s.heap)
  (k1:∀h h',U1 h->(∀b o,b∉[z,TI,TO,i1,i2]->h.get? b=some o->h'.get? b=some o)->U1 h')
  (q1:∀h h',T1 h->(∀o,h.get? i1=some o->h'.get? i1=some o)->T1 h')
  (hd:(∀(A:Around)(s:Shared)(Q:Value->Shared->Prop)(E:Value->Shared->Prop),A.handled=none->U1 s.heap->T1 s.heap->(∀h' e,Heap.ExtBut i1 s.heap h'->(∃o,h'.get? e=some o/\o.cls=.type "StopIteration")->E (.ref e) {s with heap:=h'})->wpAny 0x13 A (Builtin.SmallTypes.nextOf (.ref i1)) Q E s)\/
   ((∀(A:Around)(s:Shared)(Q:Value->Shared->Prop)(E:Value->Shared->Prop),U1 s.heap->T1 s.heap->(∀u h' tk,RelV x u->X4 h'->Heap.SameBut i1 s.heap h'->Q u {s with heap:=h',toks:=tk})->wpAny 0x13 A (Builtin.SmallTypes.nextOf (.ref i1)) Q E s)/\
    U2 s.heap/\T2 s.heap/\(∀h h',U2 h->(∀b o,b∉[z,TI,TO,i1,i2]->h.get? b=some o->h'.get? b=some o)->U2 h')/\(∀h h',T2 h->(∀o,h.get? i2=some o->h'.get? i2=some o)->T2 h')/\
    ∀(A:Around)(s:Shared)(Q:Value->Shared->Prop)(E:Value->Shared->Prop),A.handled=none->U2 s.heap->T2 s.heap->(∀h' e,Heap.ExtBut i2 s.heap h'->(∃o,h'.get? e=some o/\o.cls=.type "StopIteration")->E (.ref e) {s with heap:=h'})->wpAny 0x13 A (Builtin.SmallTypes.nextOf (.ref i2)) Q E s))
  (hE:∀h' tk e,(∀c o,c≠z->c≠TO->c≠i1->c≠i2->s.heap.get? c=some o->h'.get? c=some o)->(∃o,h'.get? e=some o/\o.cls=.type "StopIteration")->E (.ref e) {s with heap:=h',toks:=tk}):
  wpAny 0x13 A (Builtin.«zip.__next__» ⟨[.ref z],[]⟩) Q E s:=by
 have mz:∀{c:Addr},c∉[z,TI,TO,i1,i2]->c≠z/\c≠TO/\c≠i1/\c≠i2:=fun{c}h=>by simp at h;exact⟨h.1,h.2.2.1,h.2.2.2.1,h.2.2.2.2⟩
 show wpAny _ _ (field (.ref z) 2>>=_) _ _ _;refine A0a (A1N hz rfl (x:=.bool false) rfl ?_)
 show wpAny _ _ (field (.ref z) 3>>=_) _ _ _;refine A0a (A1N hz rfl (x:=.ref TI) rfl (A0a (A2n hTI rfl ?_)))
 show wpAny _ _ (Builtin.SmallTypes.ownedTupleIsFree (.ref z)>>=_) _ _ _;refine A0a ?_;unfold Builtin.SmallTypes.ownedTupleIsFree
 refine A0a (A1N hz rfl (x:=.none) rfl (A0n ?_));simp only[A3j];refine A0a (A3P (A0a (A1N hz rfl (x:=.ref TO) rfl (A0a (A2o hz 0xA fun g1 hz1 hs1=>?_)))))
 replace hz1:IsZip g1 z TI TO .ellipsis:=hz1
 refine A0a ?_;simp only[List.zipIdx_cons,List.zipIdx_nil,A3Y,List.forIn_nil];refine A0a (A0a (A4H ?_));show wpAny _ _ (Builtin.SmallTypes.nextOf (.ref i1)>>=_) _ _ _
 rcases hd with e1|⟨d1,u2,t2,k2,q2,e2⟩
 ·refine A0a (e1 _ _ _ _ hh (k1 _ _ u1 fun c o hc e=>hs1.extBut _ _ (mz hc).1 e) (q1 _ _ t1 fun o e=>hs1.extBut _ _ D.p3 e) fun g2 e hs2 he=>?_);obtain⟨oe,hoe,hce⟩:=he;have hz2:IsZip g2 z TI TO .ellipsis:=hs2 _ _ D.p3.symm hz1;have nez:e≠z:=fun q=>by subst q;rw[hz2]at hoe;cases hoe;simp at hce
  exact A2o hz2 0xA fun g3 _ hs3=>hE g3 _ e (fun c o c1 _ c3 _ q=>hs3.extBut _ _ c1 (hs2 _ _ c3 (hs1.extBut _ _ c1 q))) ⟨oe,hs3.extBut _ _ nez hoe,hce⟩
 ·refine A0a (d1 _ _ _ _ (k1 _ _ u1 fun c o hc e=>hs1.extBut _ _ (mz hc).1 e) (q1 _ _ t1 fun o e=>hs1.extBut _ _ D.p3 e) fun u g2 tk2 ru t1b hs2=>A0n ?_);have QT:IsPair g2 TO a b:=hs2.extBut _ _ D.p8 (hs1.extBut _ _ D.p2 hTO);refine A0a (A2n QT rfl (A0a (A3W QT fun g3 X5 hs3=>?_)));refine A0a (A4W (A0n (A0a (A0a (A4H ?_)))));show wpAny _ _ (Builtin.SmallTypes.nextOf (.ref i2)>>=_) _ _ _
  refine A0a (e2 _ _ _ _ hh (k2 _ _ u2 fun c o hc e=>hs3.extBut _ _ (mz hc).2.1 (hs2.extBut _ _ (mz hc).2.2.1 (hs1.extBut _ _ (mz hc).1 e))) (q2 _ _ t2 fun o e=>hs3.extBut _ _ D.p9.symm (hs2.extBut _ _ D.p0.symm (hs1.extBut _ _ D.p4 e))) fun g4 e Zo he=>?_);obtain⟨oe,hoe,hce⟩:=he;have hz4:IsZip g4 z TI TO .ellipsis:=Zo _ _ D.p4.symm (hs3.extBut _ _ D.p2.symm (hs2.extBut _ _ D.p3.symm hz1));have nez:e≠z:=fun q=>by subst q;rw[hz4]at hoe;cases hoe;simp at hce
  exact A2o hz4 0xA fun g5 _ Zq=>hE g5 _ e (fun c o c1 c2 c3 c4 q=>Zq.extBut _ _ c1 (Zo _ _ c4 (hs3.extBut _ _ c2 (hs2.extBut _ _ c3 (hs1.extBut _ _ c1 q))))) ⟨oe,Zq.extBut _ _ nez hoe,hce⟩
def Inv.nfp(I:Inv X pins σ H s)(hf:∀b∈fp,jO X pins H b){u:HO}(e:H b=some u):b∉fp:=fun hb=>by rw[(hf b hb).1]at e;cases e
def Inv.tR(I:Inv X pins σ H s)(hf:∀b∈fp,jO X pins H b)(k:∀b o,b∉fp->s.heap.get? b=some o->h'.get? b=some o):Inv X pins σ H {s with heap:=h',toks:=t'}:=by
 refine I.step (g':=s.gens) (d':=s.drawn) (ch:=fp) (fun b hb=>⟨(hf b hb).2.2.2.1,(hf b hb).2.1,(hf b hb).2.2.2.2.1,(hf b hb).2.2.2.2.2⟩) (fun b o _ _ hc e _=>k b o hc e) (fun b o _ _ hc e _=>⟨o.slots,k b o hc e⟩) (fun _ _ _ _ n=>n)
  (fun b o hc e=>⟨o,k b o hc e⟩) (fun _ _ e=>e) (fun _ _ _ e=>e) (fun b ps e=>⟨#[],by rw[e];simp⟩) (fun m hm=>?_) (fun b u e=>?_) I.bare
 ·obtain⟨o,es,ep,ho,r⟩:=hm;exact⟨o,es,ep,k _ o (fun z=>(hf _ z).2.1 rfl) ho,r⟩
 ·refine(I.hok b u e).stay (fun c v hc q=>k c v ?_ q) (fun _ q=>q) fun _ _ q=>q;rcases hc with z|z
  ·rw[z];exact I.nfp hf e
  ·exact I.nfp hf z
def Inv.JK{p:Addr}(I:Inv X pins σ H s)(hf:∀b∈fp,jO X pins H b)(k:∀b o,b∉fp->s.heap.get? b=some o->h'.get? b=some o)(hp:s.heap.objs.size<=p)(new:dW X.prog X.w (upd H p o) h' p o):
  Inv X pins σ (upd H p o) {s with heap:=h',toks:=t'}:=by
 have hn:H p=none:=I.hok.fresh hp;refine I.step (g':=s.gens) (d':=s.drawn) (ch:=fp) (fun b hb=>⟨(hf b hb).2.2.2.1,(hf b hb).2.1,(hf b hb).2.2.2.2.1,(hf b hb).2.2.2.2.2⟩) (fun b o _ _ hc e _=>k b o hc e) (fun b o _ _ hc e _=>⟨o.slots,k b o hc e⟩)
  (fun b o _ e n=>by rw[ak (A0M (A0q (A0v e) hp))];exact n)
  (fun b o hc e=>⟨o,k b o hc e⟩) (fun b xs e=>by rw[ak (au e hn)];exact e) (fun b u xs e=>by rw[ak (au e hn)];exact e) (fun b ps e=>⟨#[],by rw[ak (au e hn),e];simp⟩) (fun m hm=>?_) (fun b u e=>?_) I.bare
 ·obtain⟨o,es,ep,ho,r⟩:=hm;exact⟨o,es,ep,k _ o (fun z=>(hf _ z).2.1 rfl) ho,r⟩
 ·by_cases hb:b=p
  ·subst hb;rw[ao]at e;cases e;exact new
  ·rw [ak hb]at e;refine(I.hok b u e).stay (fun c v hc q=>k c v ?_ q) (fun c q=>?_) fun c xs q=>?_
   ·rcases hc with z|z
    ·rw[z];exact I.nfp hf e
    ·exact I.nfp hf z
   ·first
     |(rw[ak (au q hn)];exact q)
     |exact q
   ·first
     |(rw[ak (au q hn)];exact q)
     |exact q
def Itz(g1 g2 s1 s2:Nat->Hp->Prop)(y1 y2:Nat->Hp->V->Prop):It:=
 ⟨fun i H=>g1 i H/\g2 i H,fun i H v H'=>∃p x y,v=.ref p/\H p=none/\H'=upd H p (.tup [x,y])/\y1 i H x/\y2 i H y,fun i H=>s1 i H\/(g1 i H/\s2 i H)⟩
def QV{TI TO:Addr}{g1 g2 s1 s2:Nat->Hp->Prop}{y1 y2:Nat->Hp->V->Prop}{t1 t2:Nat->Heap->Prop}(D:ZA z TI TO i1 i2)
  (S1:CV P w K i1 g1 s1 y1 t1)(S2:CV P w K i2 g2 s2 y2 t2):
  Turn P w K (.Tuple elts x1 tp) (Itz g1 g2 s1 s2 y1 y2) [z,TI,TO,i1,i2] z (fun i h=>IsZip h z TI TO .none/\IsPair h TI (.ref i1) (.ref i2)/\(∃a b,IsPair h TO a b)/\t1 i h/\t2 i h) where
 mem:=by simp
 obj:=fun i h ⟨hz,hTI,⟨a,b,hTO⟩,st1,st2⟩ c hc=>by
  simp only[A0d,A0s,A1d]at hc;rcases hc with rfl|rfl|rfl|rfl|rfl
  ·exact⟨_,hz,fun v e=>by cases e⟩
  ·exact⟨_,hTI,fun v e=>by cases e⟩
  ·exact⟨_,hTO,fun v e=>by cases e⟩
  ·exact S1.obj i h st1
  ·exact S2.obj i h st2
 keep:=fun i h h' ⟨hz,hTI,⟨a,b,hTO⟩,st1,st2⟩ k=>⟨k z 0xA _ hz,k TI 0xA _ hTI,⟨a,b,k TO 0xA _ hTO⟩,S1.keep _ _ _ st1 fun o e=>k i1 0xA o e,S2.keep _ _ _ st2 fun o e=>k i2 0xA o e⟩
 item:=by
  intro X hP hw hK hc i pins s σ H E I hf ⟨hz,hTI,⟨a,b,hTO⟩,st1,st2⟩ ⟨hg1,hg2⟩;obtain⟨U1,u1,k1,x,hx,d1⟩:=S1.item X pins σ H s i [z,TI,TO,i1,i2] hP hw hK I hf hg1;obtain⟨U2,u2,k2,y,hy,d2⟩:=S2.item X pins σ H s i [z,TI,TO,i1,i2] hP hw hK I hf hg2;subst hP hw hK;have hT:s.TypeIs (.ref z) "zip":=⟨_,hz,rfl⟩;unfold pyNext;refine A0a (A3o (A1y (name:=Str.ofString "__next__") hT A2V (A2b A2V hT A4K
   (X3 (x:=x) (y:=y) D hz hTI hTO u1 u2 st1 st2 k1 k2 (S1.keep i) (S2.keep i) (S1.keep (i+1)) (S2.keep (i+1)) d1 d2 fun u v h' tk ru rv hz' hTI' hTO' st1' st2' hp kk=>A0n ⟨_,rfl,?_⟩) (A4u _))))
  refine wpAny_letOwnedTupleGo_zip hz' fun h2 hz2 sb=>?_;have lt:∀{c o},s.heap.get? c=some o->c≠s.heap.objs.size:=fun e=>A0M (A0v e);have nz:z≠s.heap.objs.size:=lt hz;have kk2:∀c o,c∉[z,TI,TO,i1,i2]->s.heap.get? c=some o->h2.get? c=some o:=fun c o hc e=>by
   simp only[A0d,A0s,A1d,A4a]at hc;exact sb.extBut _ _ hc.1 (kk c o hc.1 hc.2.2.1 hc.2.2.2.1 hc.2.2.2.2 e)
  have hp2:IsPair h2 s.heap.objs.size u v:=sb.extBut _ _ nz.symm hp;refine⟨.ref s.heap.objs.size,_,I.JK (o:=.tup [x,y]) hf kk2 0x33 ⟨jL 0xA |> A1P,[u,v],.cons ru (.cons rv .nil),⟨_,hp2,rfl,_,rfl⟩⟩,rfl,⟨_,x,y,rfl,I.fresh,rfl,hx,hy⟩,⟨hz2,sb.extBut _ _ D.p1 hTI',⟨_,_,sb.extBut _ _ D.p2 hTO'⟩,S1.keep _ _ _ st1' fun o e=>sb.extBut _ _ D.p3 e,S2.keep _ _ _ st2' fun o e=>sb.extBut _ _ D.p4 e⟩,fun c hc=>?_⟩;have:∃o,s.heap.get? c=some o:=by
   simp only[A0d,A0s,A1d]at hc;rcases hc with rfl|rfl|rfl|rfl|rfl
   ·exact⟨_,hz⟩
   ·exact⟨_,hTI⟩
   ·exact⟨_,hTO⟩
   ·obtain⟨o,e,_⟩:=S1.obj _ _ st1;exact⟨o,e⟩
   ·obtain⟨o,e,_⟩:=S2.obj _ _ st2;exact⟨o,e⟩
  obtain⟨o,e⟩:=this;rw[ak (lt e)];exact(hf c hc).1
 done:=by
  intro X hP hw hK hc i pins s σ H E I hf ⟨hz,hTI,⟨a,b,hTO⟩,st1,st2⟩ hs;have hT:s.TypeIs (.ref z) "zip":=⟨_,hz,rfl⟩;have fin:∀(h':Heap)(tk:Nat),(∀c o,c≠z->c≠TO->c≠i1->c≠i2->s.heap.get? c=some o->h'.get? c=some o)->Inv X pins σ H {s with heap:=h',toks:=tk}:=fun h' tk kk=>I.tR hf fun c o hc e=>by
   simp only[A0d,A0s,A1d,A4a]at hc;exact kk c o hc.1 hc.2.2.1 hc.2.2.2.1 hc.2.2.2.2 e
  have hh:=I.ok.hd hc;rcases hs with hs1|⟨hg1,hs2⟩
  ·obtain⟨U1,u1,k1,d1⟩:=S1.done X pins σ H s i [z,TI,TO,i1,i2] hP hw hK I hf hs1;subst hP hw hK;unfold pyNext;refine A0a (A3o (A1y (name:=Str.ofString "__next__") hT A2V (A2b A2V hT A4K
    (CW (x:=.non) (U2:=fun _=>True) (T2:=fun _=>True) (X4:=fun _=>True) hh D hz hTI hTO u1 st1 k1 (S1.keep i) (.inl d1) fun h' tk e kk he=>?_) (A4u _))))
   obtain⟨o,ho,hc'⟩:=he;exact A0a (wpAny_isInstance (T:="StopIteration") (b:=true) ⟨o,ho,hc'⟩ isSubtype_stop (A0n ⟨rfl,fin _ _ kk⟩))
  ·obtain⟨U1,u1,k1,x,hx,d1⟩:=S1.item X pins σ H s i [z,TI,TO,i1,i2] hP hw hK I hf hg1;obtain⟨U2,u2,k2,d2⟩:=S2.done X pins σ H s i [z,TI,TO,i1,i2] hP hw hK I hf hs2;subst hP hw hK;unfold pyNext;refine A0a (A3o (A1y (name:=Str.ofString "__next__") hT A2V (A2b A2V hT A4K
    (CW (x:=x) (X4:=t1 (i+1)) hh D hz hTI hTO u1 st1 k1 (S1.keep i) (.inr ⟨d1,u2,st2,k2,S2.keep i,d2⟩) fun h' tk e kk he=>?_) (A4u _))))
   obtain⟨o,ho,hc'⟩:=he;exact A0a (wpAny_isInstance (T:="StopIteration") (b:=true) ⟨o,ho,hc'⟩ isSubtype_stop (A0n ⟨rfl,fin _ _ kk⟩))
 self:=fun _ _ _ _ _ st h=>wpAny_pyIter_zip st.1 h
def N8(v1 v2:Value)(o1 o2:Obj)(U:Heap->Prop)(hU:∀h o,U h->U (h.push o))
  (h1:∀(prog:Program)(w:World)(A:Around)(Q:Value->Shared->Prop)(E:Value->Shared->Prop)(s:Shared),U s.heap->Q 0x30 {s with heap:=s.heap.push o1}->wpAny 0x13 A (pyIter v1) Q E s)
  (h2:∀(prog:Program)(w:World)(A:Around)(Q:Value->Shared->Prop)(E:Value->Shared->Prop)(s:Shared),U s.heap->Q 0x30 {s with heap:=s.heap.push o2}->wpAny 0x13 A (pyIter v2) Q E s):
  Meets (Builtin.«zip.__new__» ⟨[.type "zip",v1,v2],[]⟩) (fun _ R s=>U s.heap/\
   R (.ok (.ret (.ref ((((s.heap.push o1).push o2).push {cls:=.type "tuple",data:=.seq #[.ref s.heap.objs.size,.ref (s.heap.push o1).objs.size]}).push {cls:=.type "tuple",data:=.seq #[.none,.none]}).objs.size)))
    {s with heap:=((((s.heap.push o1).push o2).push {cls:=.type "tuple",data:=.seq #[.ref s.heap.objs.size,.ref (s.heap.push o1).objs.size]}).push {cls:=.type "tuple",data:=.seq #[.none,.none]}).push {cls:=.type "zip",data:=.fields #[.none,.bool false,.bool false,.ref ((s.heap.push o1).push o2).objs.size,.ref (((s.heap.push o1).push o2).push {cls:=.type "tuple",data:=.seq #[.ref s.heap.objs.size,.ref (s.heap.push o1).objs.size]}).objs.size]}}):=
 .of_wp fun prog w A R s h=>by
  obtain⟨hp,g,d,tk,os⟩:=s;obtain⟨hu,h⟩:=h;have hsub:=sub_zip;have hu2:U (hp.push o1):=hU _ _ hu
  wp_walk using h1 prog w _ _ _ ⟨hp,g,d,tk,os⟩ hu,h2 prog w _ _ _ ⟨hp.push o1,g,d,tk,os⟩ hu2
  exact⟨_,rfl,h⟩
section
def a0K{R:It->Hp->Prop}{v1 v2:Value}{o1 o2:Obj}{U:Heap->Prop}{g1 g2 s1 s2:Nat->Hp->Prop}{y1 y2:Nat->Hp->V->Prop}{t1 t2:Nat->Heap->Prop}(I:Inv X pins σ H s)
  (hu:U s.heap)(hU:∀h o,U h->U (h.push o))
  (h1:∀(prog:Program)(w:World)(A:Around)(Q:Value->Shared->Prop)(E:Value->Shared->Prop)(s:Shared),U s.heap->Q 0x30 {s with heap:=s.heap.push o1}->wpAny 0x13 A (pyIter v1) Q E s)
  (h2:∀(prog:Program)(w:World)(A:Around)(Q:Value->Shared->Prop)(E:Value->Shared->Prop)(s:Shared),U s.heap->Q 0x30 {s with heap:=s.heap.push o2}->wpAny 0x13 A (pyIter v2) Q E s)
  (S1:CV X.prog X.w X.K s.heap.objs.size g1 s1 y1 t1)(S2:CV X.prog X.w X.K 0x11 g2 s2 y2 t2)(b1:∀h:Heap,h.get? s.heap.objs.size=some o1->t1 0 h)(b2:∀h:Heap,h.get? 0x11=some o2->t2 0 h)(f1:o1.isFreed=false)(f2:o2.isFreed=false)
  (q:R (Itz g1 g2 s1 s2 y1 y2) H):wpAny 0x9 X.A (call (.type "zip") [v1,v2]) (fun v s1=>wpAny 0x9 X.A (pyIter v) (PIE X pins σ (.Tuple elts x1 tp) R) E s1) E s:=by
 refine callType_new F.called_zip 0x5 (F.typeCall_zip_2 _ _) (F.newCall_zip_2 _ _) (fun obj=>F.args_object_init_3 obj _ _) F.entry_zip_new (N8 v1 v2 o1 o2 U hU h1 h2) ⟨hu,?_⟩;generalize hG1:s.heap.push o1=G1;have z1:G1.objs.size=s.heap.objs.size+1:=by rw[<-hG1];exact A2I ..
 generalize hG2:G1.push o2=G2;have z2:G2.objs.size=s.heap.objs.size+2:=by rw[<-hG2,A2I,z1]
 rw[z1,z2];generalize hG3:G2.push {cls:=.type "tuple",data:=.seq #[.ref s.heap.objs.size,.ref 0x11]}=G3;have z3:G3.objs.size=s.heap.objs.size+3:=by rw[<-hG3,A2I,z2]
 rw[z3];generalize hG4:G3.push {cls:=.type "tuple",data:=.seq #[.none,.none]}=G4;have z4:G4.objs.size=s.heap.objs.size+4:=by rw[<-hG4,A2I,z3]
 rw[z4];generalize hG5:G4.push {cls:=.type "zip",data:=.fields #[.none,.bool false,.bool false,.ref (s.heap.objs.size+2),.ref (s.heap.objs.size+3)]}=G5;have e5:IsZip G5 (s.heap.objs.size+4) (s.heap.objs.size+2) (s.heap.objs.size+3) .none:=by rw[<-z4,<-hG5];exact A0x _ rfl
 have e4:IsPair G5 (s.heap.objs.size+3) .none .none:=by rw[<-z3,<-hG5];exact A0c _ (by rw[<-hG4];exact A0x _ rfl)
 have e3:IsPair G5 (s.heap.objs.size+2) 0x30 (.ref 0x11):=by rw[<-z2,<-hG5];exact A0c _ (by rw[<-hG4];exact A0c _ (by rw[<-hG3];exact A0x _ rfl))
 have up2:∀c o,G2.get? c=some o->G5.get? c=some o:=fun c o e=>by rw[<-hG5];exact A0c _ (by rw[<-hG4];exact A0c _ (by rw[<-hG3];exact A0c _ e))
 have e2:G5.get? 0x11=some o2:=up2 _ _ (by rw[<-z1,<-hG2];exact A0x _ f2);have e1:G5.get? s.heap.objs.size=some o1:=up2 _ _ (by rw[<-hG2];exact A0c _ (by rw[<-hG1];exact A0x _ f1));have all:∀c o,s.heap.get? c=some o->G5.get? c=some o:=fun c o e=>up2 _ _ (by rw[<-hG2];exact A0c _ (by rw[<-hG1];exact A0c _ e));refine⟨⟨_,e5,rfl⟩,wpAny_pyIter_zip e5 ?_⟩;have ne:∀{m n:Nat},m≠n->s.heap.objs.size+m≠s.heap.objs.size+n:=fun h z=>h (Nat.add_left_cancel z);refine⟨_,_,_,_,H,rfl,I.kept (t':=s.toks) all,QV ⟨ne 0x5,ne 0x5,ne (m:=0) 0x5,ne 0x5,ne 0x5,ne (n:=0) 0x5,ne 0x5,ne (n:=0) 0x5,ne 0x5,ne (m:=0) 0x5⟩ S1 S2,⟨e5,e3,⟨_,_,e4⟩,b1 _ e1,b2 _ e2⟩,fun b hb=>?_,q⟩;have hle:s.heap.objs.size<=b:=by
  simp only[A0d,A0s,A1d]at hb;rcases hb with rfl|rfl|rfl|rfl|rfl<;>lia
 exact I.zc hle (I.hok.fresh hle)
abbrev JM(K:PySem.W.Frag)(a b:Addr):It:=Itz (fun i H=>∃xs x,bN K H a xs/\xs[i]?=some x) (fun i H=>∃xs x,bN K H b xs/\xs[i]?=some x) (fun i H=>∃xs,bN K H a xs/\xs.length<=i) (fun i H=>∃xs,bN K H b xs/\xs.length<=i)
 (fun i H x=>∀xs,bN K H a xs->xs[i]?=some x) (fun i H x=>∀xs,bN K H b xs->xs[i]?=some x)
inductive CZ(K:W.Frag)(R:It->Hp->Prop)(vs:List V)(H1:Hp):Prop
 |mk(a b:Addr)(_:vs=[.ref a,.ref b])(_:(∃xs,bN K H1 a xs))(_:(∃xs,bN K H1 b xs))(_:R (JM K a b) H1):CZ K R vs H1
def a0L(K:PySem.W.Frag)(ta:TA):TI:=fun σ H R=>ta σ H fun vs H1=>CZ K R vs H1
variable{a b:Expr}{ta:TA}{p:Pos}
def QW(hg:Gl X "zip")(hm:X.mg "zip"=none)(ha:PA X [a,b] ta)(hs:starEach [a,b] X.env=[(false,eval a X.env),(false,eval b X.env)]:=by rfl)(hs2:starEach [b] X.env=[(false,eval b X.env)]:=by rfl):
  PI X (.Tuple elts x1 tp) (.Call (.Name "zip" p) [a,b] [] pos) (a0L X.K ta):=by
 intro pins s σ H R I h;refine Call_ (rG I hg hm a0I (A3b (cP 0x6C fun us s1 ⟨vs,H1,I1,r1,q1⟩=>?_) (by rw[hs,hs2]) (by rw[hs2];rfl)));obtain⟨c,d,rfl,⟨xs,hx⟩,⟨ys,hy⟩,q⟩:=q1;obtain⟨u,u',rfl,ru,ru'⟩:=vals2 r1;cases ru;cases ru';obtain⟨its,rv,p1,_⟩:=I1.tuple hx;obtain⟨its2,rv2,p2,_⟩:=I1.tuple hy;exact a0K (U:=fun h=>h.IsTuple c its.toArray/\h.IsTuple d its2.toArray) I1 ⟨p1,p2⟩ (fun h o ⟨⟨oc,e,r⟩,⟨od,e',r'⟩⟩=>⟨⟨oc,A0c _ e,r⟩,⟨od,A0c _ e',r'⟩⟩)
  (fun prog w A Q E s hu hQ=>wpAny_pyIter_tuple hu.1 hQ) (fun prog w A Q E s hu hQ=>wpAny_pyIter_tuple hu.2 hQ) (JH c _) (JH d _) (fun h e=>⟨_,e,rfl,rfl⟩) (fun h e=>⟨_,e,rfl,rfl⟩) rfl rfl q
end
def uV{J:It}{fx fy:Nat->V}{D:Addr}{k:Nat}{Q:VK}(Pv:Nat->List V->Hp->Prop)
  (hJ:∀i ys H,Pv i ys H->(i<n->J.go i H/\∀v H',J.Pk i H v H'->∃p,v=.ref p/\H p=none/\H'=upd H p (.tup [fx i,fy i]))/\(n<=i->J.stop i H))(h0:Pv 0 [] (upd H1 D 0x54))(hD:∀i ys H,Pv i ys H->H D=some 0x89)
  (hs:∀i ys H p,i<n->Pv i ys H->H p=none->CP D σ k ix g tt te 0x46 ys (upd H p (.tup [fx i,fy i])) (Pv (i+1)))(hd:∀ys H,Pv n ys H->Q 0x4F H):pX J D σ k ix g tt te Q H1:=by
 refine⟨fun i m ys H=>m=n-i/\i<=n/\Pv i ys H,⟨n,by simp,A1j _,h0⟩,?_⟩;rintro i m ys H ⟨rfl,hi,p⟩;refine⟨hD i ys H p,?_⟩;obtain⟨h1,h2⟩:=hJ i ys H p
 by_cases hlt:i<n
 ·obtain⟨hg,hy⟩:=h1 hlt;refine .inr ⟨hg,Pv (i+1),fun zs H' p'=>⟨n-(i+1),by lia,rfl,hlt,p'⟩,fun x H' y=>?_⟩;obtain⟨q,rfl,hq,rfl⟩:=hy x H' y;exact hs i ys H q hlt p hq
 ·have e:i=n:=by lia
  subst e;exact .inl ⟨h2 0x33,hd ys H p⟩
def Dc(ha:bN K H a xs)(hb:bN K H b ys)(hl:xs.length=ys.length):
  (i<xs.length->(JM K a b).go i H/\∀v H',(JM K a b).Pk i H v H'->∃p,v=.ref p/\H p=none/\H'=upd H p (.tup [xs.getD i .non,ys.getD i .non]))/\(xs.length<=i->(JM K a b).stop i H):=by
 refine⟨fun hi=>⟨⟨⟨xs,xs[i],ha,by simp[hi]⟩,⟨ys,ys[i]' 0x4,hb,by simp[hl▸ hi]⟩⟩,fun v H' ⟨p,x,y,e1,e2,e3,e4,e5⟩=>⟨p,e1,e2,?_⟩⟩,fun hi=>.inl ⟨xs,ha,hi⟩⟩;rw[e3,wR,wR,e4 xs ha,e5 ys hb];rfl
def zL{k:Nat}{t:TGs}(hc:X.calm=true)(h:PGs X es t)(hK:X.K=K:=by rfl)
  (hn:(assignEach es X.env).length=n:=by rfl)(hst:(assignEach es X.env).findIdx? (·.1)=none:=by rfl):PG X (.Tuple es k pos) (a0p K n t):=hK▸ jN hc h hn hst
def o9:Nat:=2^9000
def JN(h:n<o9):n.log2<9000:=by
 by_cases h0:n=0
 ·subst h0;decide
 ·exact(Nat.log2_lt h0).mpr h
def Dd{i:Int}(h:i.natAbs<o9):Builtin.Int.intBits i<=2^20:=by
 have e:(2:Nat)^20=1048576:=by decide
 have:=JN h;unfold Builtin.Int.intBits
 split<;>lia
def qD:lK X (binaryOp .FloorDiv) (rI (fun _ j=>j≠0/\j.natAbs<o9) fun i j=>.int (i.fdiv j)):=opI fun _ _ _ _ _ _ _ hc q=>floordiv_int hc.1 q (.inl (PyProof.noPylong_of_log2 (JN hc.2)))
def jD:lK X (binaryOp .Mult) (rI (fun i j=>i.natAbs<o9/\j.natAbs<o9) fun i j=>.int (i*j)):=opI fun _ _ _ _ _ _ _ hc q=>mul_int q (IntMulOk.of_bits (Dd hc.1) (Dd hc.2))
def qF(n:Nat)(l:List Nat):List Nat:=(List.replicate n l).flatten
theorem Dg(l:Array Nat):∀(n:Nat)(acc:Array Nat),((List.replicate n l).foldl (·++·) acc).toList=acc.toList++qF n l.toList
 |0,acc=>by simp[qF]
 | n+1,acc=>by
  rw[A1x,A1c,Dg l n];simp[qF,A1x]
def X7(n:Nat)(l:List Nat):(qF n l).length=n*l.length:=by
 unfold qF
 induction n with
 |zero=>simp
 |succ n ih=>rw[A1x,A2u,iD,ih,Nat.succ_mul];lia
def Gv:lK X (binaryOp .Mult) (fun x y H Q=>∃z n,x=.str z/\y=.int n/\0<=n/\n<=1000/\z.length<=1000/\Q (.str (nF (qF n.toNat z.cps.toList))) H):=by
 intro pins s σ H x y v u Q I rx ry h;obtain⟨z,n,rfl,rfl,h0,h1,hz,q⟩:=h;obtain⟨t,rfl⟩:=rx;obtain⟨t',rfl⟩:=ry;have hl:z.length*n.toNat<=1000000:=A0z (Nat.mul_le_mul hz (show n.toNat<=1000 by lia)) 0x5
 have hsl:z.length*n.toNat<=sizeLine:=A0z hl 0x5;refine PySem.P.mul_str (by rw[A0p 0x4,A0p 0x4];rfl) (fun hn _=>?_) (fun _ _=>by unfold Builtin.Str.tooLong;simp;lia) ?_
 ·have:(1000:Int)<=(2^63-1)/n:=Int.le_ediv_of_mul_le 0x4 0x4;lia
 ·by_cases hn:n<1
  ·rw[A0i hn];have e:n.toNat=0:=by lia
   refine⟨by decide,.str _,H,I.tok _,⟨_,rfl⟩,?_⟩;have e2:nF (qF n.toNat z.cps.toList)=Str.empty:=by rw[e];rfl
   rw[<-e2];exact q
  ·rw [A0f hn]
   by_cases hc:(n==1||z.length==0)=true
   ·rw [A0i hc];refine⟨.str z,H,I,⟨t,rfl⟩,?_⟩;have e2:nF (qF n.toNat z.cps.toList)=z:=by
     rcases Bool.or_eq_true_iff.mp hc with e|e
     ·have e':n=1:=by simpa using e
      subst e';simp[qF,o8]
     ·have e':z.cps.toList=[]:=by
       have:z.length=0:=by simpa using e
       simp only[Str.length]at this
       simpa using this
      have:∀k,qF k ([]:List Nat)=[]:=fun k=>by simp[qF]
      rw[e',this,<-e',o8]
    rw[<-e2];exact q
   ·rw [A0f hc];have e2:(⟨(List.replicate n.toNat z.cps).foldl (·++·) #[]⟩:Str)=nF (qF n.toNat z.cps.toList):=zH (by
     show((List.replicate n.toNat z.cps).foldl (·++·) #[]).toList=_
     rw[Dg];simp)
    rw[e2];refine⟨?_,.str _,H,I.tok _,⟨_,rfl⟩,q⟩;rw[jC,X7];have:z.cps.toList.length=z.length:=by simp[Str.length]
    rw[this,Nat.mul_comm];exact hsl
mutual
inductive cZ(H:Hp):V->PyData->Prop
 |non:cZ H .non .none
 |bl (b:_):cZ H (.bl b) (.bool b)
 |int (i:_):cZ H (.int i) (.int i)
 |str (x:_):cZ H (.str x) (.str x)
 |lst {p xs ds:_}:H p=some 0x4D->dN H xs ds->cZ H 0x46 (.list ds)
 |tup {p xs ds:_}:H p=some 0x23->dN H xs ds->cZ H 0x46 (.tuple ds)
inductive dN(H:Hp):List V->List PyData->Prop
 |nil:dN H [] []
 |cons {v vs d ds:_}:cZ H v d->dN H vs ds->dN H (v::vs) (d::ds)
end
mutual
theorem cZ.same{H H':Hp}(s:Same H H'):∀{v:V}{d:PyData},cZ H v d->cZ H' v d
 |_,_,.non=>.non
 |_,_,.bl b=>.bl b
 |_,_,.int i=>.int i
 |_,_,.str x=>.str x
 |_,_,.lst h r=>.lst (s _ _ h) (dN.same s r)
 |_,_,.tup h r=>.tup (s _ _ h) (dN.same s r)
theorem dN.same{H H':Hp}(s:Same H H'):∀{vs:List V}{ds:List PyData},dN H vs ds->dN H' vs ds
 |_,_,.nil=>.nil
 |_,_,.cons h r=>.cons (cZ.same s h) (dN.same s r)
end
mutual
theorem cZ.reads(I:Inv X pins σ H s):∀{v:V}{d:PyData}{u:Value},cZ H v d->RelV v u->∃as,Reads s.heap u d as
 |_,_,_,.non,r=>by cases r;exact⟨_,.none⟩
 |_,_,_,.bl b,r=>by cases r;exact⟨_,.bool b⟩
 |_,_,_,.int i,r=>by obtain⟨t,rfl⟩:=r;exact⟨_,.int i t⟩
 |_,_,_,.str x,r=>by obtain⟨t,rfl⟩:=r;exact⟨_,.str x t⟩
 | _,_,_,.lst h q,r=>by
  cases r;obtain⟨_,its,n,rv,e⟩:=(I.hok _ _ h);obtain⟨as,ra⟩:=dN.reads I q rv;exact⟨_,.list e rfl rfl (by simpa using ra)⟩
 | _,_,_,.tup h q,r=>by
  cases r;obtain⟨_,its,rv,o,e,c,n,dd⟩:=(I.hok _ _ h);obtain⟨as,ra⟩:=dN.reads I q rv;exact⟨_,.tuple e c dd (by simpa using ra)⟩
theorem dN.reads(I:Inv X pins σ H s):∀{vs:List V}{ds:List PyData}{us:List Value},dN H vs ds->Vals vs us->∃as,ReadsAll s.heap us ds as
 |_,_,_,.nil,r=>by cases r;exact⟨_,.nil⟩
 | _,_,_,.cons h q,r=>by
  cases r with
  | cons r1 r2=>
   obtain⟨as,ra⟩:=cZ.reads I h r1;obtain⟨bs,rb⟩:=dN.reads I q r2;exact⟨_,.cons ra rb⟩
end
inductive X8(x y:V)(H:Hp)(Q:VK):Prop
 |mk(dx dy:PySem.PyData)(_:cZ H x dx)(_:cZ H y dy)(_:dx.canLay0=true)(_:dy.canLay0=true)(_:dx.depth<=8)(_:Q (.bl (PyData.eqv dx dy)) H):X8 x y H Q
inductive a0M(x y:V)(H:Hp)(Q:VK):Prop
 |mk(dx dy:PySem.PyData)(_:cZ H x dx)(_:cZ H y dy)(_:dx.canLay0=true)(_:dy.canLay0=true)(_:dx.depth<=8)(_:Q (.bl (!PyData.eqv dx dy)) H):a0M x y H Q
def QX(hu:X.A.units+64<cLine):lK X (compareOp .Eq) X8:=by
 intro pins s σ H x y v u Q I rx ry h;obtain⟨dx,dy,h1,h2,c1,c2,dp,q⟩:=h;obtain⟨as,ra⟩:=h1.reads I rx;obtain⟨bs,rb⟩:=h2.reads I ry;exact SeqAt.compareEq_reads ra rb c1 c2 0x4 ⟨.bl _,H,I,rfl,q⟩
def zM(hu:X.A.units+64<cLine):lK X (compareOp .NotEq) a0M:=by
 intro pins s σ H x y v u Q I rx ry h;obtain⟨dx,dy,h1,h2,c1,c2,dp,q⟩:=h;obtain⟨as,ra⟩:=h1.reads I rx;obtain⟨bs,rb⟩:=h2.reads I ry;exact SeqAt.compareNe_reads ra rb c1 c2 0x4 ⟨.bl _,H,I,rfl,q⟩
open PySem.W PySem.Builtin.ObjectAttr PySem.Builtin.Getset_descriptor
structure XC(K:PySem.W.Frag)(D:Addr):Prop where
 ga:findIn K 0x4F "__getattribute__"=some (some (.builtin "BaseException.__getattribute__"))
 gh:findIn K 0x4F "__getattr__"=some none
 cl:(clsIn K D).isSome=true
 ca:findIn K 0x4F "__class__"=some (some 0x25)
 gs:specialIn K 0x25 "__get__"=some (some 0x39)
 tk:takesIn K 0x25=some true
 ob:mroIn K D (.type "object")=some true
 be:mroIn K D (.type "BaseException")=some true
inductive QZ(x D:Addr)(h:Heap):Prop
 |mk(o:Obj)(_:h.get? x=some o)(_:o.cls=.ref D):QZ x D h
def QZ.ty{M:Model}{x D:Addr}(I:QZ x D h):Looks M h (typeOf (.ref x)) 0x4F:=by
 obtain⟨o,e,c⟩:=I;exact c▸ (Looks.ld e).andThen .now
section
variable{x D:Addr}
def R0{M:Model}(C:XC K D)(X:K.In h):Looks M h (find (.ref x) 0x4F "__class__") (.bind 0x39 0x25):=by
 have L1:=looks_findIn (M:=M) X C.ca;have L2:Looks M h (getOf (some 0x25)) _:=looks_specialIn X C.gs;have L3:=looks_takesIn (M:=M) X C.tk;exact L1.andThen (L2.andThen ((show Looks M h (dataDescriptor? (some _) (some _)) (some (_,_))from L3.andThen .now).andThen (Looks.tag .now)))
def Xa{tp:Value}{R:Result->Shared->Prop}(C:XC K D)(X:K.In s.heap)(I:QZ x D s.heap)(h:R (.ok (.ret 0x4F)) s):
  codeAny 0x13 A (.call 0x39 ⟨[.builtin "object.__class__",.ref x,tp],[]⟩) R s:=by
 obtain⟨hh,g,dr,t,os⟩:=s;have L0:=I.ty (M:=model prog w);have L1:=looks_mroIn (M:=model prog w) X C.ob;refine codeAny_call_builtin KF.slot_gs.plain KF.entry_gs (KF.slot_gs.check _ _ _ _ _ _ _ _ KF.type_class (KF.args_gs _ _ _) ?_);unfold Builtin.«getset_descriptor.__get__» descrGet;rw[dga_obj];refine A0a (A0n ?_);unfold descrGetter descrCheckInstance descrNameAndClass isInstance;simp only[KF.owner_class]
 repeat lk
 refine⟨Code.quiet_builtin _ 0x7,A4P KF.entry_class ?_⟩;unfold Builtin.«object.__class__» shownTypeOf
 repeat lk
 exact h
def Nb{tk:Tok}{Q:Fin->Shared->Prop}(C:XC K D)(X:K.In s.heap)(I:QZ x D s.heap)(h:Q (.done (.ret 0x4F)) s):
  wpAny 0x13 A (Builtin.«object.__getattribute__» ⟨[.ref x,.str "__class__" tk],[]⟩) Q E s:=by
 obtain⟨hh,g,d,t,os⟩:=s;have L0:=I.ty (M:=model prog w);have L1:=R0 (M:=model prog w) (x:=x) C X;unfold Builtin.«object.__getattribute__»;refine A0a (A0n (A0a (A0n (A0a (L0.at (A0a (L1.at ?_)))))))
 show wpAny _ _ (holding [.builtin "object.__class__"] (call 0x39 [.builtin "object.__class__",.ref x,.ref D])>>=ret) _ _ _
 exact A0a (A1U (A3R (Xa (s:=⟨hh,g,d,t,os⟩) C X I (A0n h))))
def Nf{nameV:Value}{Q:Unit->Shared->Prop}(C:XC K D)(X:K.In s.heap)(I:QZ x D s.heap)(hq:Q () s):
  wpAny 0x13 A (checkBuiltinCall "BaseException.__getattribute__" ⟨[.ref x,nameV],[]⟩) Q E s:=by
 obtain⟨hh,g,d,t,os⟩:=s;have hk:builtinKind "BaseException.__getattribute__"=some .slot:=by decide+kernel
 have hsplit:splitId "BaseException.__getattribute__"=some ("BaseException","__getattribute__"):=by decide+kernel
 have L0:=I.ty (M:=model prog w);have LI:Looks 0x13 hh (isInstance (.ref x) (.type "BaseException")) true:=L0.andThen (looks_mroIn X C.be);have ha:=F.args_bexc_ga (.ref x) nameV;simp only[checkBuiltinCall,hk,hsplit];refine A0a (LI.at ?_)
 repeat (any_goals (first|assumption|wp_step))
def Ng{Q:Option Value->Shared->Prop}(C:XC K D)(X:K.In s.heap)(I:QZ x D s.heap)(h:Q (some 0x4F) {s with toks:=s.toks+1}):
  wpAny 0x13 A (getAttr? (.ref x) "__class__") Q E s:=by
 obtain⟨hh,g,d,t,os⟩:=s;have L0:=I.ty (M:=model prog w);have L1:=looks_findIn (M:=model prog w) X C.ga;have L2:=looks_findIn (M:=model prog w) X C.gh;unfold getAttr? getAttrBy? getAttrBy;refine A0a (wpAny_mkText (A0a (A3o (A1U (A0a (L0.at (A0a (L1.at ?_))))))))
 show wpAny _ _ (getAttrByItsOwn _ _ _ _ _ _) _ _ _
 unfold getAttrByItsOwn hookBefore;have hon:onTheHeap (Value.ref D)=true:=rfl;rw[A0i hon];refine A0a (L2.at (A0a (A3o (A1U ?_))))
 show wpAny _ _ (boundAndCalled (.builtin "BaseException.__getattribute__") (.ref x) _) _ _ _
 unfold boundAndCalled;have f3:=A4p.ga.bind (.ref x);rw[f3];refine A0a (A0n (A3R (codeAny_call_builtin A4p.ga.plain F.entry_bexc_ga (Nf (s:=⟨hh,g,d,t+1,os⟩) C X I (Nb (s:=⟨hh,g,d,t+1,os⟩) C X I ?_)))));refine handed_on rfl ?_;exact A0n h
def R5(C:XC K D):KitX K (.ref x) 0x4F (QZ x D) where
 ty:=fun _ _ _ I=>I.ty
 it:=fun _ _ X _=>by
  obtain⟨cdD,hcD⟩:=A1O.mp C.cl;unfold clsIn at hcD
  split at hcD
  ·rename_i c' d' cd' sl' ho
   intro A' Q' E' s' k q;unfold isType loadHead;exact A0a (wpAny_loadPart (k _ _ (X _ _ ho)) (A0n q))
  ·cases hcD
 ne:=fun h tp dd its n sl X htp=>by
  obtain⟨cdD,hcD⟩:=A1O.mp C.cl;refine A2v.mpr fun q=>?_;have e:D=tp:=Value.ref.inj (A2P.mp q);subst e;unfold clsIn at hcD
  split at hcD
  ·rename_i c' d' cd' sl' ho
   have z:=(X _ _ ho).symm.trans htp;cases z
  ·cases hcD
 ca:=fun X I k=>Ng C X I k
end
def Wn(C a:Addr):HO:=.ext (QZ a C)
def cV:V->Value
 | .ty T=>.type T
 | .ref a=>.ref a
 |_=>.none
inductive a0N(K:W.Frag)(xs:List V)(H:Hp)(Q:VK):Prop
 |mk(a C:Addr)(cv:V)(b:Bool)(_:xs=[.ref a,cv])(_:H a=some (Wn C a))(_:XC K C)(_:((∃T,cv=.ty T)\/∃D,cv=.ref D))(_:kitOne K 0x59 (cV cv)=some b)(_:Q (.bl b) H):a0N K xs H Q
def R7:gO X 0x8F (a0N X.K):=by
 intro pins s σ H xs us Q I r h;obtain⟨a,C,cv,b,rfl,ha,xc,hcv,e,q⟩:=h;obtain⟨u,u',rfl,ru,ru'⟩:=vals2 r;cases ru;have hu:u'=cV cv:=by
  rcases hcv with⟨T,rfl⟩|⟨D,rfl⟩
  ·exact ru'
  ·exact ru'
 subst hu;obtain⟨hO,_⟩:=(show dW X.prog X.w H s.heap a (.ext (QZ a C))from I.hok a _ ha)
 exact kia_one (R5 xc) I.lZ hO e 0x2F fun tk=>⟨.bl b,H,I.tok _,rfl,q⟩
structure Fly(B h0 h:Heap)(outer:List Env)(H':Hp)(ea:Addr)(C a0:Value):Prop where
 fl:Heap.FlyingW B outer ea C a0 h
 tr:∀b o,H' b=some o->∃u,B.get? b=some u
 old:∀b o,h0.get? b=some o->b∉frs outer->∃u,B.get? b=some u
inductive wQ(P:Program)(w:World)(outer:List Env)(H:Hp)(s:Shared)(E:XK)(e:Value)(s':Shared):Prop
 |mk(ea:Addr)(C a0:Value)(B:Heap)(H':Hp)(_:e=.ref ea)(_:s'.os=s.os)(_:AllBare s'.gens)(_:Un (frs outer) [] H H' s.heap s'.heap)(_:m6 P w H' s'.heap)(_:Fly B s.heap s'.heap outer H' ea C a0)(_:E C none H'):wQ P w outer H s E e s'
def tU{B:Heap}(hok:m6 P w H' h)(tr:∀b o,H' b=some o->∃u,B.get? b=some u)(b0:B.StaysIn h)(st:B.StaysIn h2):m6 P w H' h2:=fun b u q=>by
 have key:∀c o v,H' c=some o->h.get? c=some v->h2.get? c=some v:=fun c o v q e=>by
  obtain⟨u,hu⟩:=tr c o q;rw[b0 c u hu]at e;cases e;exact st c _ hu
 refine(hok b u q).stay (fun c v hc e=>?_) (fun _ z=>z) fun _ _ z=>z;rcases hc with rfl|hc
 ·exact key _ _ _ q e
 ·exact key _ _ _ hc e
def zN{h0 B:Heap}(un:Un (frs outer) [] H H' h0 h)(ff:h.FunFrames base outer)(old:∀b o,h0.get? b=some o->b∉frs outer->∃u,B.get? b=some u)(b0:B.StaysIn h)(st:B.StaysIn h2)(up:h.UpToSlots h2):
  Un (frs outer) [] H H' h0 h2 where
 keep:=fun b o e n hb hx=>by
  obtain⟨u,hu⟩:=old b o e hb;have e1:=un.keep b o e n hb hx;rw[b0 b u hu]at e1;cases e1;exact st b _ hu
 slot:=fun b o e n hb hx=>by
  obtain⟨sl,e1⟩:=un.slot b o e n hb hx;obtain⟨_,o',ho',hd⟩:=ff.mem hb;rw[e1]at ho';cases ho';obtain⟨sl2,e2⟩:=up b _ e1 hd;exact⟨sl2,e2⟩
 free:=un.free
 there:=fun b o e hx=>by
  by_cases hb:b∈frs outer
  ·obtain⟨_,o',ho',hd⟩:=ff.mem hb;obtain⟨sl2,e2⟩:=up b _ ho' hd;exact⟨_,e2⟩
  ·obtain⟨u,hu⟩:=old b o e hb;exact⟨u,st b u hu⟩
 tups:=un.tups
 pP:=un.pP
 rF:=un.rF
def Nh(x:dW P w H h a o):∃u,h.get? a=some u:=by
 cases o with
 |lst xs=>obtain⟨_,_,_,_,e⟩:=x;exact⟨_,e⟩
 |tup xs=>obtain⟨_,_,_,o,e,_⟩:=x;exact⟨_,e⟩
 |dK kvs=>obtain⟨_,_,_,_,o,_,_,e,_⟩:=x;exact⟨_,e⟩
 |dT kvs=>obtain⟨_,_,_,_,o,_,_,e,_⟩:=x;exact⟨_,e⟩
 |set S n=>obtain⟨o,_,_,_,e,_⟩:=x;exact⟨_,e⟩
 |ins C dx fs=>obtain⟨_,_,_,e,_⟩:=x;exact⟨_,e⟩
 |own y=>exact x
 |xd fs=>obtain⟨_,⟨o,_,_,e,_⟩,_⟩:=x;exact⟨_,e⟩
 |met f y=>exact⟨_,x⟩
 |rng lo hi=>obtain⟨_,_,_,e⟩:=x;exact⟨_,e⟩
 |iY ob u=>exact⟨_,x.1⟩
 |Zd ps=>exact⟨_,x⟩
 |ext φ=>exact x.2.1
section
variable{E:XK}
def mO{s1:Shared}{e:Addr}{vs:List Value}(I:Inv 0x55 pins σ H1 s1)(hx:Heap.MadeExcOf s1.heap h' e 0x59 vs)(q:E 0x59 none H1):
  (qw (wQ P w) P w K mg base N qual scope f cd A outer s H E).xe (.ref e) {s1 with heap:=h'}:=by
 have fr:=I.ok.frames;have ff:=funFrames_hide (as:=frs (0x55).stack) I.stack fun env he a hf=>A3t.mpr ⟨env,he,hf⟩;refine wpAny_leaves_madeW (h:=s1.heap) fr rfl (fun b o q=>of_hideAll _ q) ff hx fun h'' t fl tup bt up=>?_;have b0:(hideAll s1.heap (frs (0x55).stack)).StaysIn s1.heap:=fun b o q=>of_hideAll _ q;have tr:∀b o,H1 b=some o->∃u,(hideAll s1.heap (frs (0x55).stack)).get? b=some u:=fun b o e=>by
  obtain⟨u,hu⟩:=Nh (I.hok b o e);exact⟨u,hideAll_get _ hu fun z=>by rw[I.z9 b z]at e;cases e⟩
 have old:∀b o,s.heap.get? b=some o->b∉frs outer->∃u,(hideAll s1.heap (frs (0x55).stack)).get? b=some u:=fun b o e hb=>by
  obtain⟨u,hu⟩:=I.base.there b o e 0x2F
  refine⟨u,hideAll_get _ hu fun z=>?_⟩;rcases A0d.mp (I.uH b z)with q|q
  ·have h1:=A0v e;have h2:s.heap.objs.size<=b:=by rw[q];exact I.ok.above
   exact absurd (A0q h1 h2) (A1H _)
  ·exact hb q
 exact⟨e,.ref C,.ref t,_,H1,rfl,I.os,I.bare,zN I.base I.nJ old b0 fl.1 ((Heap.UpToSlots.of_keeps hx.keeps).trans up),tU I.hok tr b0 fl.1,⟨fl,tr,old⟩,q⟩
def JQ:Passes (wQ P w) 0x55 E:=by
 rintro pins σ H1 s1 e s' I ⟨ea,C,a0,B,H',rfl,os,bare,un,hok,fly,q⟩;have J:=I.call' os un hok bare (fun b z=>nomatch z)
 refine wpAny_leaves_onW J.ok.frames rfl fly.fl fun h'' fl up=>?_;have old:∀b o,s.heap.get? b=some o->b∉frs outer->∃u,B.get? b=some u:=fun b o e hb=>by
  obtain⟨o1,e1⟩:=I.base.there b o e 0x2F
  refine fly.old b o1 e1 fun z=>?_;rcases A0d.mp (I.uH b z)with q|q
  ·have h1:=A0v e;have h2:s.heap.objs.size<=b:=by rw[q];exact I.ok.above
   exact absurd (A0q h1 h2) (A1H _)
  ·exact hb q
 exact⟨ea,C,a0,B,H',rfl,J.os,J.bare,zN J.base J.nJ old fly.fl.1 fl.1 up,tU hok fly.tr fly.fl.1 fl.1,⟨fl,fly.tr,old⟩,q⟩
end
def qG(CX:xK)(X:Cx)(E:St->XK):Prop:=∀(pins:List 0x1E)(σ:St)(H:Hp)(s:Shared)(e:Value)(s':Shared),Inv X pins σ H s->CX X.stack H s (E σ) e s'->X.xe e s'
section
variable{k:Nat}{E:St->XK}{x m:Str}{p:Pos}{o:Expr}{t:TA}
def Xb{Q:VK}{vs:List V}(F:aL X.prog X.w X.K X.mg X.base CX k f fd ps sp)(hr:cG k X.A)(hb:Binds X.K fd ps ds)(hd:Vals jB ds)(hx:qG CX X E)
  (I:Inv X pins σ H s)(r:Vals vs us)(h:sp (vs++jB) H Q (E σ)):wpAny 0x9 X.A (call 0x48 us) 0x37 X.xe s:=by
 have r2:Vals (vs++jB) (us++ds):=r.append hd;have hl:(us++ds).length=ps.length:=by rw[<-r2.length];exact F.len _ _ _ _ h
 refine A3R (A2Q (F.run X.A X.stack s H ⟨us,[]⟩ (us++ds) (vs++jB) Q (E σ) hr I.env0 (hb s us I.lZ hl) r2 h) fun r s' hq=>?_);cases r with
 |error e=>exact hx pins σ H s e s' I hq
 | ok fl=>
  cases fl with
  |ret u=>exact I.after hq
  |next=>exact False.elim hq
  |brk=>exact False.elim hq
  |cont=>exact False.elim hq
end
def R8(X:Cx)(E:XK):Prop:=∀(pins:List 0x1E)(σ:St)(H:Hp)(s:Shared)(h':Heap)(e C:Addr)(vs:List Value),Inv X pins σ H s->Heap.MadeExcOf s.heap h' e 0x59 vs->E 0x59 none H->X.xe (.ref e) {s with heap:=h'}
abbrev Dh:List Value:=[.type "ValueError",.type "Exception",.type "BaseException",.type "object"]
def Xc{bmB:List Value}{newId:String}(X:K.In h)(q:excIn K C bmB newId=true):
  ∃bm N nm q bs hdct sn sub ab col dd k0 k1 k2 k3 k5 mN,h.get? C=some (excClassObj nm q C N bs bm hdct sn sub ab col dd k0 k1 k2 k3 k5 newId)/\h.Ns N mN/\mN "__init__"=none/\OwnTail h bmB bm:=by
 unfold excIn at q
 split at q
 ·rename_i dd cd sl ho
  split at q
  ·rename_i C' bm k0 k1 k2 k3 n k5 hm hs
   simp only[A0Y,A2P,A4v]at q;obtain⟨⟨⟨⟨⟨rfl,rfl⟩,hdel⟩,ht⟩,hok⟩,hni⟩:=q;obtain⟨nm,bs,mro,ns,qn,hd,sn,sub,ab,col,del⟩:=cd;dsimp only at hm hdel hok hni;subst hm hdel;have hsl:sl=#[k0,k1,k2,k3,some (.builtin n),k5]:=by
    obtain⟨l⟩:=sl;simp only at hs;rw[hs]
   subst hsl;exact⟨bm,ns,nm,qn,bs,hd,sn,sub,ab,col,dd,k0,k1,k2,k3,k5,_,X _ _ ho,.of_isNs (isNs_of_in X hok),nsMap_none_of_in X hok hni,tail_of_in X ht⟩
  ·cases q
 ·cases q
def a0O(C:Addr)(E:XK)(t:TA):TS:=fun _ σ H=>t σ H fun vs H1=>vs.length<=sizeLine/\E 0x59 none H1
def uW{E:XK}{x:Str}{np:Pos}{t:TA}(hc:X.calm=true)(hr:R8 X E)(hg:Gl X x)(hm:X.mg x=some 0x59)(hq:excIn X.K C Dh "ValueError.__new__"=true)
  (ha:PA X (e::es) t)(hdb:0x24=false:=by decide)(he:starEach (e::es) X.env=0x2D::starEach es X.env:=by rfl)(hpl:(backTo cpos 0x34).any (·.1)=false:=by rfl):
  PS X (.Raise (some (.Call (.Name x np) (e::es) [] cpos)) none pos) (a0O C E t):=by
 intro pins s σ H D I h;obtain⟨tl,N,nm,q,bs,hdct,sn,sub,ab,col,dd,k0,k1,k2,k3,k5,mN,hC,hN,hni,T⟩:=Xc I.mod.kin hq;refine wpAny_Raise_call_subT (C:=C) (nm:=nm) (q:=q) (N:=N) (bs:=bs) (bm:=tl) (hdct:=hdct) (sn:=sn) (sub:=sub) (ab:=ab) (col:=col) (dd:=dd) (k0:=k0) (k1:=k1) (k2:=k2) (k3:=k3) (k5:=k5)
  A4q (mN:=mN) (T.hasType A4q.hasBase) (I.ok.hd hc) (by rw[he];show(false||(backTo cpos 0x34).any (·.1))=false;rw[hpl];rfl) hni (jY I hg hm ⟨rfl,?_⟩ hdb)
 have h2:=ha cpos pins s σ H _ I h;rw[he]at h2 ⊢;refine A1S (A1i h2 (fun us s2 hs=>?_) fun _ _ y=>y);obtain⟨vs,H1,I1,r,hl,hE⟩:=hs;exact⟨rfl,by rw[<-r.length];exact hl,I1.bk _ _ hC,hN.keeps I1.bk,T.keeps I1.bk,fun h' e' hx=>hr pins σ H1 s2 h' e' C us I1 hx hE⟩
abbrev Cx.hand(X:Cx)(ea:Addr):Cx:={X with A:=X.A.mark (some (.ref ea)),calm:=false,xe:=fun _ _=>False}
abbrev Cx.JR(X:Cx)(pn:List 0x1E)(xe:Value->Shared->Prop):Cx:={X with pn:=pn,xe:=xe}
section
variable{Cj:List 0x1E}{xe:Value->Shared->Prop}{ea:Addr}
def Inv.a2F(I:Inv X pins σ H s):Inv (X.JR (X.pn++pins) xe) [] σ H s:=
 ⟨⟨I.ok.mod,I.ok.kind,I.ok.glob,I.ok.blt,I.ok.above,I.ok.inj,I.ok.has,I.ok.cab,I.ok.hd,I.ok.frames,I.ok.stk,I.ok.exf,I.ok.bs,I.ok.Pj,I.ok.Ci,I.ok.Ga,I.ok.nJ,I.ok.Wk⟩,I.os,I.bare,I.base,I.loc,I.cell,I.free,I.iZ,fun p hp=>I.pin p (by simpa using hp),I.hok,I.len⟩
def Inv.yh(ok:X.Ok)(I:Inv (X.JR (X.pn++pins) xe) Cj σ H s):Inv X pins σ H s:=
 ⟨ok,I.os,I.bare,I.base,I.loc,I.cell,I.free,I.iZ,fun p hp=>I.pin p (A0W _ hp),I.hok,I.len⟩
def Inv.R9(I:Inv X pins σ H s):Inv (X.hand ea) pins σ H s:=
 ⟨⟨I.ok.mod,I.ok.kind,I.ok.glob,I.ok.blt,I.ok.above,I.ok.inj,I.ok.has,I.ok.cab,0x2F,I.ok.frames,I.ok.stk,I.ok.exf,I.ok.bs,I.ok.Pj,I.ok.Ci,I.ok.Ga,I.ok.nJ,I.ok.Wk⟩,I.os,I.bare,I.base,I.loc,I.cell,I.free,I.iZ,I.pin,I.hok,I.len⟩
def Inv.zO(ok:X.Ok)(I:Inv (X.hand ea) pins σ H s):Inv X pins σ H s:=
 ⟨ok,I.os,I.bare,I.base,I.loc,I.cell,I.free,I.iZ,I.pin,I.hok,I.len⟩
def tV{M:Model}{n:Str}{Q:Unit->Shared->Prop}(I:Inv X pins σ H s)(hN:X.N.Nodup)(hi:X.N[i]?=some n)(hk:X.env.scope.names.lookup n=some .local)
  (h:∀s',Inv X pins (σ.set i none) H s'->Q () s'):wpAny M A (do bindName X.env n .none;unbindBehindTheSuite X.env n pos) Q E s:=by
 obtain⟨m,hn,hl⟩:=id I.loc;have hcls:(X.env.scope.kind==.class||(X.env.scope.kind==.module&&X.env.locals != X.env.globals))=false:=by rw[I.ok.kind];rfl
 have hiσ:i<σ.length:=by rw[I.len];exact(A0j.mp hi).1
 have Q6:=I.Q6;refine wpAny_nameGoes_keeps hk hn hcls fun h' v hn' hs=>?_;obtain⟨oL,_,_,hoL,_⟩:=id hn;have tracked:m6 X.prog X.w H h':=fun b ob e=>by
  refine(I.hok b ob e).stay (fun c w' hc q=>(hs.2 c ?_).trans q) (fun _ q=>q) fun _ _ q=>q;rintro rfl;rcases hc with rfl|hc
  ·rw[I.free]at e;cases e
  ·rw[I.free]at hc;cases hc
 refine h _ ⟨I.ok,I.os,I.bare,⟨fun b o e n hb hx=>?_,fun b o e n hb hx=>?_,I.base.free,fun b o e hx=>?_,I.base.tups,I.base.pP,I.base.rF⟩,⟨_,hn',fun j y v' e1 e2 e3=>?_⟩,fun y c e=>?_,I.free,I.iZ,fun p hp=>?_,tracked,by simpa using I.len⟩
 ·exact(hs.2 b (A0M 0x7E)).trans (I.base.keep b o e n hb hx)
 ·obtain⟨sl,e1⟩:=I.base.slot b o e n hb hx;exact⟨sl,(hs.2 b (A0M 0x7E)).trans e1⟩
 ·obtain⟨o',e1⟩:=I.base.there b o e hx;exact⟨o',(hs.2 b (A0M 0x7E)).trans e1⟩
 ·by_cases hj:j=i
  ·subst hj;rw[A3G hiσ]at e2;cases e2
  ·rw[A3e (A0m hj)]at e2;obtain⟨u',r',q⟩:=hl j y v' e1 e2 e3;refine⟨u',r',?_⟩;rcases q with⟨k,e⟩|⟨k,c,e,z⟩
   ·refine .inl ⟨k,?_⟩;have:y≠n:=fun e=>hj (uI hN e1 (e▸ hi));simp[this,e]
   ·exact .inr ⟨k,c,e,z.sameBut hs (Q6 y c e)⟩
 ·obtain⟨w',z⟩:=I.cell y c e;exact⟨w',z.sameBut hs (Q6 y c e)⟩
 ·obtain⟨e,n,ne,nf,d⟩:=I.pin p hp;exact⟨(hs.2 p.1 ne).trans e,n,ne,nf,d⟩
end
def Zr(i:Nat)(D:Ends):Ends:={nx:=fun σ H=>D.nx (σ.set i none) H,rt:=D.rt,bk:=fun σ H=>D.bk (σ.set i none) H,ct:=fun σ H=>D.ct (σ.set i none) H}
inductive Ra(K:W.Frag)(L:Addr)(i:Nat)(ts:TS)(D:Ends)(σ1:L2.St)(Cv:Value)(e_2:Option Addr)(H1:Hp):Prop
 |mk(C:Addr)(_:Cv=.ref C)(_:exmOne K 0x59 (.ref L)=some true)(_:∀ea,H1 ea=none->ts (Zr i D) (σ1.set i (some (.ref ea))) (upd H1 ea (Wn C ea))):Ra K L i ts D σ1 Cv e_2 H1
def tTry(K:PySem.W.Frag)(L:Addr)(i:Nat)(tb:(St->XK)->TS)(ts:TS):TS:=fun D σ H=>tb (Ra K L i ts D) D σ H
def Rb{x n:Str}{np hpos:Pos}{b0:Stmt}{suite:List Stmt}{tb:(St->XK)->TS}{ts:TS}(hstk:X.stack=X.env::X.outer)(hfr:X.env.frame=some X.env.locals)
  (hN:X.N.Nodup)(hi:X.N[i]?=some n)(hk:X.env.scope.names.lookup n=some .local)(hg:Gl X x)(hm:X.mg x=some (.ref L))
  (hb:∀pn xe E,qG (wQ X.prog X.w) (X.JR pn xe) E->BP (X.JR pn xe) body (tb E))(hs:∀ea,BP (X.hand ea) (b0::suite) ts)(hdb:0x24=false:=by decide):
  PS X (.Try body [.ExceptHandler (some (.Name x np)) (some n) (b0::suite) hpos] [] [] pos) (tTry X.K L i tb ts):=by
 intro pins s σ H D I h;have ok:=I.ok;refine wpAny_Try_except (A1i (hb (X.pn++pins) (fun e s₁=>wpAny 0x9 X.A (noteFrame e X.env) (fun _ s₂=>wpAny 0x9 X.A (setFlight e none) (fun _ s₃=>wpAny 0x9 X.A (handleBy e X.env [.ExceptHandler (some (.Name x np)) (some n) (b0::suite) hpos]) (SP X pins D) X.xe s₃) X.xe s₂) X.xe s₁)
  (Ra X.K L i ts D) ?_ [] s σ H D I.a2F h) (fun f s1 hq=>?_) fun e s1 he=>he)
 ·rintro Cj σ1 H1 s1 e s' J ⟨ea,C,a0,B,H',rfl,os,bare,un,hok,fly,C',rfl,hex,hts⟩;have fl:=fly.fl;have ff:s'.heap.FunFrames B X.stack:=fl.2.2.1;have frm:X.A.frames=some (X.env::X.outer):=by rw[<-hstk];exact ok.frames
  have fl':Heap.FlyingW B (X.env::X.outer) ea (.ref C') a0 s'.heap:=by rw[<-hstk];exact fl
  have at_:∀h5,Heap.FlyingW B (X.env::X.outer) ea (.ref C') a0 h5->s'.heap.UpToSlots h5->Inv X pins σ1 H' {s' with heap:=h5}:=fun h5 f5 up=>
   Inv.yh ok (J.call' (s':={s' with heap:=h5}) os (zN un ff fly.old fl.1 f5.1 up) (tU hok fly.tr fl.1 f5.1) bare (fun b z=>nomatch z))
  have eaB:B.get? ea=none:=fl.2.1;have eaH:H' ea=none:=by
   cases q:H' ea with
   |none=>rfl
   |some o=>obtain⟨u,hu⟩:=fly.tr ea o q;rw[eaB]at hu;cases hu
  have ea1:s1.heap.get? ea=none:=by
   cases q:s1.heap.get? ea with
   |none=>rfl
   | some o=>
    by_cases hb':ea∈frs X.stack
    ·obtain⟨_,o',ho',hd⟩:=ff.mem hb';obtain⟨oe,vs,_,_,_,he,_,hde,_⟩:=fl.2.2.2;rw[he]at ho';cases ho';exact absurd hde (hd vs)
    ·obtain⟨u,hu⟩:=fly.old ea o q hb';rw[eaB]at hu;cases hu
  have at2:∀h5,Heap.FlyingW B (X.env::X.outer) ea (.ref C') a0 h5->s'.heap.UpToSlots h5->Inv X pins σ1 (upd H' ea (Wn C' ea)) {s' with heap:=h5}:=fun h5 f5 up=>by
   have u5:=zN un ff fly.old fl.1 f5.1 up;have ne:∀b o,s1.heap.get? b=some o->b≠ea:=fun b o e z=>by rw[z,ea1]at e;cases e
   have neH:∀b o,H' b=some o->b≠ea:=fun b o e z=>by rw[z,eaH]at e;cases e
   have u6:Un (frs X.stack) [] H1 (upd H' ea (Wn C' ea)) s1.heap h5:=⟨u5.keep,u5.slot,fun b o e q hx=>by rw[ak (ne b o e)];exact u5.free b o e q hx,u5.there,
    fun b xs e=>by have z:=u5.tups b xs e;rw[ak (neH b _ z)];exact z,fun b o u e=>by have z:=u5.pP b o u e;rw[ak (neH b _ z)];exact z,
    fun b ps e=>by obtain⟨more,z⟩:=u5.rF b ps e;exact⟨more,by rw[ak (neH b _ z)];exact z⟩⟩
   have k5:m6 X.prog X.w (upd H' ea (Wn C' ea)) h5:=fun b u e=>by
    by_cases hbe:b=ea
    ·subst hbe;rw[ao]at e;cases e;obtain⟨ob,hob,hobc⟩:=f5.there;exact⟨⟨ob,hob,hobc⟩,⟨ob,hob⟩,fun g1 g2 ⟨o,e1,e2⟩ kk=>⟨o,kk o e1,e2⟩⟩
    ·rw[ak hbe]at e;refine(tU hok fly.tr fl.1 f5.1 b u e).stay (fun _ _ _ q=>q) (fun c q=>by rw[ak (neH c _ q)];exact q) fun c xs q=>by rw[ak (neH c _ q)];exact q
   exact Inv.yh ok (J.call' (s':={s' with heap:=h5}) os u6 k5 bare (fun b z=>nomatch z))
  refine wpAny_looks_onW frm hfr fl' fun h4 held up4=>?_;refine wpAny_landsW held fun h5 fl5 up5=>?_;have J5:Inv (X.hand ea) pins σ1 H' {s' with heap:=h5}:=(at_ h5 fl5 (up4.trans up5)).R9;refine wpAny_handleBy_cons (codeAny_handlers_test (jY (X:=X.hand ea) J5 hg hm ?_ hdb)) 0xC;obtain⟨ob,hob,hobc⟩:=fl5.there;have LT:Looks 0x9 h5 (typeOf (.ref ea)) (.ref C'):=QZ.ty ⟨ob,hob,hobc⟩;refine(exm_one (K:=X.K) J5.lZ LT hex).at ?_;refine codeAny_handlers_suite_as ?_;refine lands_againW fl5 fun h6 fl6 up6=>?_;have J6:Inv (X.hand ea) pins σ1 (upd H' ea (Wn C' ea)) {s' with heap:=h6}:=(at2 h6 fl6 ((up4.trans up5).trans up6)).R9;refine nM (X:=X.hand ea) (v:=.ref ea) J6 hN hi (.inl hk) rfl (fun s7 J7=>?_) (.inr hk);refine A1i (hs ea pins s7 _ _ (Zr i D) J7 (hts ea eaH)) (fun f s8 q8=>?_) fun _ _ z=>z.elim;cases f with
  | next=>
   obtain⟨σ2,H2,J8,q⟩:=q8;exact tV (J8.zO ok) hN hi hk fun s9 J9=>⟨_,H2,J9,q⟩
  | brk=>
   obtain⟨σ2,H2,J8,q⟩:=q8;exact tV (J8.zO ok) hN hi hk fun s9 J9=>⟨_,H2,J9,q⟩
  | cont=>
   obtain⟨σ2,H2,J8,q⟩:=q8;exact tV (J8.zO ok) hN hi hk fun s9 J9=>⟨_,H2,J9,q⟩
  | ret u=>
   obtain⟨v,σ2,H2,J8,r,q⟩:=q8;exact tV (J8.zO ok) hN hi hk fun s9 J9=>⟨v,_,H2,J9,r,q⟩
 ·cases f with
  | next=>
   obtain⟨σ2,H2,J8,q⟩:=hq;exact A3r ⟨σ2,H2,Inv.yh ok J8,q⟩
  | brk=>
   obtain⟨σ2,H2,J8,q⟩:=hq;exact⟨σ2,H2,Inv.yh ok J8,q⟩
  | cont=>
   obtain⟨σ2,H2,J8,q⟩:=hq;exact⟨σ2,H2,Inv.yh ok J8,q⟩
  | ret u=>
   obtain⟨v,σ2,H2,J8,r,q⟩:=hq;exact⟨v,σ2,H2,Inv.yh ok J8,r,q⟩
section
variable{κ:Type}[DecidableEq κ]
def bJ(kvs:List (κ×V))(k:κ):Option V:=(kvs.find? fun kv=>decide (kv.1=k)).map (·.2)
def putK(kvs:List (κ×V))(k:κ)(v:V):List (κ×V):=
 if(kvs.any fun kv=>decide (kv.1=k))=true then kvs.map (fun kv=>if kv.1=k then(kv.1,v)else kv)else kvs++[(k,v)]
def jk(kvs:List (κ×V))(k:κ):List (κ×V):=kvs.filter fun kv=>decide (kv.1≠k)
def fY{p:κ×V}{r:List (κ×V)}{k:κ}(e:p.1=k):bJ (p::r) k=some p.2:=by simp[bJ,A2g,e]
def eO{p:κ×V}{r:List (κ×V)}{k:κ}(e:¬p.1=k):bJ (p::r) k=bJ r k:=by simp[bJ,A2g,e]
theorem lN(k:κ):∀kvs:List (κ×V),(kvs.any fun kv=>decide (kv.1=k))=(bJ kvs k).isSome
 |[]=>rfl
 | p::r=>by
  rw[A2k]
  by_cases e:p.1=k
  ·simp only[fY e,A0k e,Bool.true_or,Option.isSome_some]
  ·rw[eO e,A0p e,Bool.false_or];exact lN k r
theorem Di(k j:κ)(y:V):∀kvs:List (κ×V),bJ (kvs.map fun kv=>if kv.1=k then(kv.1,y)else kv) j=(bJ kvs j).map fun x=>if j=k then y else x
 |[]=>rfl
 | p::r=>by
  have ih:=Di k j y r;rw[A0h]
  by_cases h:p.1=k
  ·rw[A0i h]
   by_cases e:p.1=j
   ·rw[fY (p:=(p.1,y)) e,fY e,A4b,A0i (e.symm.trans h)]
   ·rw[eO (p:=(p.1,y)) e,eO e,ih]
  ·rw[A0f h]
   by_cases e:p.1=j
   ·rw[fY (p:=p) e,fY e,A4b,A0f (fun z=>h (e.trans z))]
   ·rw[eO (p:=p) e,eO e,ih]
theorem yj(k j:κ)(y:V):∀kvs:List (κ×V),bJ kvs k=none->bJ (kvs++[(k,y)]) j=if j=k then some y else bJ kvs j
 | [],_=>by
  by_cases e:k=j
  ·rw[A0i e.symm];exact fY (p:=(k,y)) e
  ·rw[A0f (fun z=>e z.symm)];exact eO (p:=(k,y)) e
 | p::r,hn=>by
  rw[A1q];have hk:¬p.1=k:=fun z=>by rw[fY z]at hn;cases hn
  rw[eO hk]at hn;have ih:=yj k j y r hn
  by_cases e:p.1=j
  ·rw[fY e,fY e,A0f (fun z=>hk (e.trans z))]
  ·rw[eO e,eO e,ih]
def bI(kvs:List (κ×V))(k j:κ)(y:V):bJ (putK kvs k y) j=if j=k then some y else bJ kvs j:=by
 unfold putK
 by_cases a:(kvs.any fun kv=>decide (kv.1=k))=true
 ·rw [A0i a,Di];rw[lN]at a
  by_cases e:j=k
  ·obtain⟨x,hx⟩:=A1O.mp a;rw[A0i e,e,hx,A4b,A0i rfl]
  ·rw[A0f e];cases bJ kvs j with
   |none=>rfl
   |some x=>rw[A4b,A0f e]
 ·rw[A0f a];refine yj k j y kvs ?_;rw[lN]at a;cases q:bJ kvs k with
  |none=>rfl
  |some x=>rw[q]at a;exact(a rfl).elim
def cB(kvs:List (κ×V))(k:κ)(v:V):(putK kvs k v).length<=kvs.length+1:=by
 unfold putK
 split
 ·rw[cM];lia
 ·rw[iD,wO,A4Q];lia
def Rg{kvs:List (κ×V)}{k:κ}(v:V)(h:bJ kvs k=none):putK kvs k v=kvs++[(k,v)]:=by
 unfold putK;rw[lN,h];exact A0f 0x5
def jz.jd{o:Option V}{u:Option Value}(r:jz o u):o.isSome=u.isSome:=by
 cases o with
 | none=>cases u with
  |none=>rfl
  |some _=>exact(show False from r).elim
 | some _=>cases u with
  |none=>exact(show False from r).elim
  |some _=>rfl
def jz.getD{o:Option V}{u:Option Value}{d:V}{d':Value}(r:jz o u)(rd:RelV d d'):RelV (o.getD d) (u.getD d'):=by
 cases o with
 | none=>cases u with
  |none=>exact rd
  |some _=>exact(show False from r).elim
 | some _=>cases u with
  |none=>exact(show False from r).elim
  |some _=>exact r
def KV.val{kvs:List (κ×V)}{vs:List (κ×Value)}(r:KV kvs vs)(k:κ):jz (bJ kvs k) (valueAt vs k):=by
 unfold KV at r
 induction r with
 |nil=>exact True.intro
 | @cons p q ps qs h t ih=>
  obtain⟨h1,h2⟩:=h
  by_cases e:p.1=k
  ·have e':q.1=k:=h1.symm.trans e;have b:valueAt (q::qs) k=some q.2:=by simp[valueAt,A2g,e']
   rw[fY e,b];exact h2
  ·have e':¬q.1=k:=fun z=>e (h1.trans z);have b:valueAt (q::qs) k=valueAt qs k:=by simp[valueAt,A2g,e']
   rw[eO e,b];exact ih
def KV.any{kvs:List (κ×V)}{vs:List (κ×Value)}(r:KV kvs vs)(k:κ):(kvs.any fun kv=>decide (kv.1=k))=vs.any fun kv=>decide (kv.1=k):=by
 unfold KV at r
 induction r with
 |nil=>rfl
 |cons h t ih=>rw[A2k,A2k,ih,h.1]
def KV.repl{kvs:List (κ×V)}{vs:List (κ×Value)}(r:KV kvs vs)(k:κ)(ry:RelV y u):
  KV (kvs.map fun kv=>if kv.1=k then(kv.1,y)else kv) (vs.map fun kv=>if kv.1=k then(kv.1,u)else kv):=by
 unfold KV at r ⊢
 induction r with
 |nil=>exact .nil
 | @cons p q ps qs h t ih=>
  rw[A0h,A0h];refine .cons ?_ ih;obtain⟨h1,h2⟩:=h
  by_cases e:p.1=k
  ·rw[A0i e,A0i (h1.symm.trans e)];exact⟨h1,ry⟩
  ·rw[A0f e,A0f (fun z=>e (h1.trans z))];exact⟨h1,h2⟩
def KV.put{kvs:List (κ×V)}{vs:List (κ×Value)}(r:KV kvs vs)(k:κ)(ry:RelV y u):KV (putK kvs k y) (stored vs k u):=by
 unfold putK stored;rw[r.any k]
 by_cases e:(vs.any fun kv=>decide (kv.1=k))=true
 ·rw[A0i e,A0i e];exact r.repl k ry
 ·rw[A0f e,A0f e];exact A4w r ⟨rfl,ry⟩
def KV.drop{kvs:List (κ×V)}{vs:List (κ×Value)}(r:KV kvs vs)(k:κ):KV (jk kvs k) (without vs k):=by
 unfold KV at r ⊢;unfold jk without
 induction r with
 |nil=>exact .nil
 | @cons p q ps qs h t ih=>
  obtain⟨h1,h2⟩:=h;rw[List.filter_cons,List.filter_cons]
  by_cases e:p.1=k
  ·have a:¬decide (p.1≠k)=true:=by simp[e]
   have b:¬decide (q.1≠k)=true:=by simp[h1.symm.trans e]
   rw[A0f a,A0f b];exact ih
  ·have e':¬q.1=k:=fun z=>e (h1.trans z);have a:decide (p.1≠k)=true:=by simp[e]
   have b:decide (q.1≠k)=true:=by simp[e']
   rw[A0i a,A0i b];exact .cons ⟨h1,h2⟩ ih
def KV.length{kvs:List (κ×V)}{vs:List (κ×Value)}(r:KV kvs vs):kvs.length=vs.length:=A2Y r
def Dj(kvs:List (κ×V))(k:κ):(jk kvs k).length<=kvs.length:=A0N _ _
end
def oh{k:Key}(r:RelV (kV k) u):(bW P w).is k u=true:=by
 cases k with
 |inl i=>obtain⟨t,e⟩:=(show ∃t,u=Value.int i t from r);subst e;exact Ce P w i t
 |inr x=>obtain⟨t,e⟩:=(show ∃t,u=Value.str x t from r);subst e;exact Cg P w x t
theorem yp:∀{ks:List Key}{us:List Value},Vals (ks.map kV) us->ItemsAre (bW P w) ks us
 |[],_,r=>by rw[A3K]at r;cases r;exact .nil
 | k::ks,_,r=>by
  rw[A0h]at r;cases r with
  |cons h t=>exact .cons (oh h) (yp t)
abbrev KT(H:Hp):List 0x38->List 0x87->Prop:=Paired fun p q=>p.1=q.1/\H q.2.1=some (.tup (p.1.map kV))/\RelV p.2 q.2.2
def KT.val{kvs:List 0x38}{xs:List 0x87}(r:KT H kvs xs)(k:List Key):jz (bJ kvs k) ((atKey xs k).map (·.2)):=by
 induction r with
 |nil=>exact True.intro
 | @cons p q ps qs h t ih=>
  obtain⟨h1,_,h2⟩:=h
  by_cases e:p.1=k
  ·have e':q.1=k:=h1.symm.trans e;have b:atKey (q::qs) k=some q.2:=by simp[atKey,A2g,e']
   rw[fY e,b];exact h2
  ·have e':¬q.1=k:=fun z=>e (h1.trans z);have b:atKey (q::qs) k=atKey qs k:=by simp[atKey,A2g,e']
   rw[eO e,b];exact ih
def KT.repl{kvs:List 0x38}{xs:List 0x87}(r:KT H kvs xs)(k:List Key)(ry:RelV y u):
  KT H (kvs.map fun kv=>if kv.1=k then(kv.1,y)else kv) (xs.map (putAt k u)):=by
 induction r with
 |nil=>exact .nil
 | @cons p q ps qs h t ih=>
  rw[A0h,A0h];refine .cons ?_ ih;obtain⟨h1,h2,h3⟩:=h;unfold putAt
  by_cases e:p.1=k
  ·rw[A0i e,A0i (h1.symm.trans e)];exact⟨h1,h2,ry⟩
  ·rw[A0f e,A0f (fun z=>e (h1.trans z))];exact⟨h1,h2,h3⟩
def KT.put{kvs:List 0x38}{xs:List 0x87}(r:KT H kvs xs)(k:List Key)(hb:H b=some (.tup (k.map kV)))(ry:RelV y u):
  KT H (putK kvs k y) (storedH xs k b u):=by
 have e:(kvs.any fun kv=>decide (kv.1=k))=(atKey xs k).isSome:=by
  rw[lN,(r.val k).jd,A4x]
 unfold putK storedH;rw[e]
 by_cases q:(atKey xs k).isSome=true
 ·rw[A0i q,A0i q];exact r.repl k ry
 ·rw[A0f q,A0f q];exact A4w r ⟨rfl,hb,ry⟩
def KT.keeps{kvs:List 0x38}{xs:List 0x87}(r:KT H kvs xs)(ht:∀b ys,H b=some (.tup ys)->H' b=some (.tup ys)):KT H' kvs xs:=
 Paired.Ml r fun _ _ z=>⟨z.1,ht _ _ z.2.1,z.2.2⟩
def Zt{u:HO}(ok:m6 P w H h)(e:Rd H a u):dW P w H h a u:=e.ok ok
def sO(ok:m6 P w H h)(e:Rd H a 0x16):kvs.length<=sizeLine/\0x76=false/\∃vs,KV kvs vs/\h.DictOf (bW P w) a vs:=
 show dW P w H h a 0x16 from Zt ok e
def pK(ok:m6 P w H h)(e:H a=some 0x16):kvs.length<=sizeLine/\0x76=false/\∃vs,KV kvs vs/\h.DictOf (bW P w) a vs:=sO ok (.inl e)
def ou{ks:List Key}(ok:m6 P w H h)(e:H a=some (.tup (ks.map kV))):(tupleKind (bW P w)).is h ks a:=by
 obtain⟨_,its,r,o,h1,h2,n,h3⟩:=(show dW P w H h a (.tup (ks.map kV))from ok a _ e)
 exact⟨o,its.toArray,n,h1,h2,h3,by simpa using yp r⟩
def sU{kvs:List 0x38}(ok:m6 P w H h)(e:Rd H a (.dT kvs)):kvs.length<=sizeLine/\0x76=false/\
  ∃xs,KT H kvs xs/\h.DictOfH (tupleKind (bW P w)) a xs:=by
 obtain⟨z,y,xs,r,o,es,ep,h1,h2,h3,h4,h5⟩:=(show dW P w H h a (.dT kvs)from Zt ok e)
 refine⟨z,y,xs,r,o,es,ep,h1,h2,h3,h4,fun x hx=>?_,h5⟩;have all:∀{l:List 0x38}{m:List 0x87},KT H l m->∀x∈m,(tupleKind (bW P w)).is h x.1 x.2.1:=by
  intro l m q
  induction q with
  |nil=>intro x hx;exact nomatch hx
  | @cons p q ps qs hq t ih=>
   intro x hx;rcases A0d.mp hx with e|hx
   ·subst e;exact ou ok (by rw[<-hq.1];exact hq.2.1)
   ·exact ih x hx
 exact all r x hx
def a2G{kvs:List 0x38}(ok:m6 P w H h)(e:H a=some (.dT kvs)):kvs.length<=sizeLine/\0x76=false/\
  ∃xs,KT H kvs xs/\h.DictOfH (tupleKind (bW P w)) a xs:=sU ok (.inl e)
def dj(H:Hp)(a:Addr)(y:V)(r:Option V):Prop:=
 (∃kvs k,Rd H a 0x16/\y=kV k/\r=bJ kvs k)\/∃kvs k b,Rd H a (.dT kvs)/\y=.ref b/\H b=some (.tup (k.map kV))/\r=bJ kvs k
def gK(H:Hp)(a:Addr)(y v:V)(H':Hp):Prop:=
 (∃kvs k,H a=some 0x16/\y=kV k/\kvs.length<sizeLine/\H'=upd H a (.dK (putK kvs k v)))\/
 ∃kvs k b,H a=some (.dT kvs)/\y=.ref b/\H b=some (.tup (k.map kV))/\kvs.length<sizeLine/\H'=upd H a (.dT (putK kvs k v))
def dj.k{k:Key}(e:H a=some 0x16):dj H a (kV k) (bJ kvs k):=.inl ⟨kvs,k,.inl e,rfl,rfl⟩
def dj.t{kvs:List 0x38}{k:List Key}(e:H a=some (.dT kvs))(eb:H b=some (.tup (k.map kV))):dj H a (.ref b) (bJ kvs k):=.inr ⟨kvs,k,b,.inl e,rfl,eb,rfl⟩
def gK.k{k:Key}(e:H a=some 0x16)(hl:kvs.length<sizeLine):gK H a (kV k) v (upd H a (.dK (putK kvs k v))):=.inl ⟨kvs,k,e,rfl,hl,rfl⟩
section
variable{r:Value}{o:Option V}
def Inv.big(I:Inv X pins σ H s):sysModules<s.heap.objs.size:=by
 have h:mainGlobals<s.heap.objs.size:=(I.mod.glob.keeps I.bk).lt;exact A3k 0x5 h
def yq(hu:A.units+1<cLine)(I:Inv X pins σ H s)(g:dj H a y (some v))(ry:RelV y u)(h:∀w' s',Inv X pins σ H s'->RelV v w'->Q w' s'):
  wpAny 0x9 A (getItem 0x4E u) Q E s:=by
 rcases g with⟨kvs,k,e,ey,l⟩|⟨kvs,k,b,e,ey,eb,l⟩
 ·subst ey;obtain⟨z,hd,vs,rel,dd⟩:=sO I.hok e;obtain⟨w',hw,cN⟩:=jz.some_of (v:=v) (o:=valueAt vs k) (by rw[l];exact rel.val k);exact wpAny_getItem_of (oh ry) dd.mapOf hw (h w' _ (I.tok _) cN)
 ·subst ey;cases 0x8A
  obtain⟨z,hd,xs,rel,dd⟩:=sU I.hok e;obtain⟨w',hw,cN⟩:=jz.some_of (v:=v) (o:=(atKey xs k).map (·.2)) (by rw[l];exact rel.val k);obtain⟨p,hp,hp2⟩:=A0J.mp hw;refine wpAny_getItem_heap (A2d hu) (ou I.hok eb) dd hp ?_;rw[hp2];exact h w' _ (I.tok _) cN
def d_in(hu:A.units+1<cLine)(I:Inv X pins σ H s)(g:dj H a y o)(ry:RelV y u)(h:∀s',Inv X pins σ H s'->Q (.bool o.isSome) s'):
  wpAny 0x9 A (compareOp .In u 0x4E) Q E s:=by
 rcases g with⟨kvs,k,e,ey,l⟩|⟨kvs,k,b,e,ey,eb,l⟩
 ·subst ey;obtain⟨z,hd,vs,rel,dd⟩:=sO I.hok e;refine wpAny_in_of (oh ry) hd dd.mapOf ?_;rw[<-(rel.val k).jd,<-l];exact h _ (I.tok _)
 ·subst ey;cases 0x8A
  obtain⟨z,hd,xs,rel,dd⟩:=sU I.hok e;refine wpAny_in_heap (A2d hu) (ou I.hok eb) hd dd ?_;have q:=(rel.val k).jd;rw[A4x]at q;rw[<-q,<-l];exact h _ (I.tok _)
def Xd(hu:A.units+1<cLine)(I:Inv X pins σ H s)(g:dj H a y o)(ry:RelV y u)(h:∀s',Inv X pins σ H s'->Q (.bool (!o.isSome)) s'):
  wpAny 0x9 A (compareOp .NotIn u 0x4E) Q E s:=by
 rcases g with⟨kvs,k,e,ey,l⟩|⟨kvs,k,b,e,ey,eb,l⟩
 ·subst ey;obtain⟨z,hd,vs,rel,dd⟩:=sO I.hok e;refine wpAny_notIn_of (oh ry) hd dd.mapOf ?_;rw[<-(rel.val k).jd,<-l];exact h _ (I.tok _)
 ·subst ey;cases 0x8A
  obtain⟨z,hd,xs,rel,dd⟩:=sU I.hok e;refine wpAny_notIn_heap (A2d hu) (ou I.hok eb) hd dd ?_;have q:=(rel.val k).jd;rw[A4x]at q;rw[<-q,<-l];exact h _ (I.tok _)
def jE{ob:HO}(I:Inv X pins σ H s)(mu:Mut (H a))(hs:Heap.SameBut a s.heap h')(he:∃q,h'.get? a=some q)(new:dW X.prog X.w (upd H a ob) h' a ob):
  Inv X pins σ (upd H a ob) {s with heap:=h',toks:=t'}:=
 I.write (x:=a) (e:=a) mu 0x5F (fun b q hb z=>(hs.2 b hb).trans z) he new
def uX{vs:List (Key×Value)}(z:kvs.length<=sizeLine)(hd:0x76=false)(rel:KV kvs vs)(dd:h'.DictOf (bW P w) a vs):
  dW P w H' h' a 0x16:=⟨z,hd,vs,rel,dd⟩
def yr{Q:Unit->Shared->Prop}(hu:A.units+1<cLine)(I:Inv X pins σ H s)(g:gK H a y v H')(ry:RelV y u)(rv:RelV v r)(h:∀s',Inv X pins σ H' s'->Q () s'):
  wpAny 0x9 A (setItem 0x4E u r) Q E s:=by
 rcases g with⟨kvs,k,e,ey,l,eH⟩|⟨kvs,k,b,e,ey,eb,l,eH⟩
 ·subst ey eH;obtain⟨z,hd,vs,rel,dd⟩:=pK I.hok e;have hz:vs.length<=sizeLine:=by rw[<-rel.length];exact z
  have hl:(putK kvs k v).length<=sizeLine:=by have:=cB kvs k v;lia
  refine wpAny_setItem_pairs (hsz:=hz) (oh ry) dd fun h' sV hs=>h _ ?_;have he:∃q,h'.get? a=some q:=let⟨q,_,_,hq,_⟩:=sV;⟨q,hq⟩
  exact jE I 0x5B hs he (uX hl hd (rel.put k rv) sV)
 ·subst ey eH;cases 0x8A
  obtain⟨z,hd,xs,rel,dd⟩:=a2G I.hok e;have hz:xs.length<=sizeLine:=by rw[<-A2Y rel];exact z
  have hl:(putK kvs k v).length<=sizeLine:=by have:=cB kvs k v;lia
  refine wpAny_setItem_heap (hsz:=hz) (A2d hu) (ou I.hok eb) dd fun h' sV hs=>h _ ?_;obtain⟨q,es,ep,hq,h2,h3,h4,_,h5⟩:=sV;refine jE I 0x5B hs ⟨q,hq⟩ ⟨hl,hd,_,(rel.put k eb rv).keeps fun c ys ec=>?_,q,es,ep,hq,h2,h3,h4,h5⟩;rw[ak (aO ec e 0x2F)]
  exact ec
end
section
variable{k:Key}
def Ni{Q:Unit->Shared->Prop}(I:Inv X pins σ H s)(e:H a=some 0x16)(ry:RelV (kV k) u)(l:(bJ kvs k).isSome=true)(h:∀s',Inv X pins σ (upd H a (.dK (jk kvs k))) s'->Q () s'):
  wpAny 0x9 A (delItem 0x4E u) Q E s:=by
 obtain⟨z,hd,vs,rel,dd⟩:=pK I.hok e;refine wpAny_delItem_slot dd.typeIs 0x5 PySem.F.slot_dict_delitem
  (A2R PySem.F.slot_dict_delitem dd.typeIs PySem.F.entry_dict_delitem (PySem.F.args_dict_delitem_2 _ _) (meets_dict_delitem_pairs 0x56 a (oh ry)) ⟨vs,dd,by rw[<-rel.length];exact z,by rw[<-(rel.val k).jd];exact l,fun h' sV hs=>h _ ?_⟩)
 have he:∃q,h'.get? a=some q:=let⟨q,_,_,hq,_⟩:=sV;⟨q,hq⟩
 exact jE I 0x5B hs he (uX (A0z (Dj kvs k) z) hd (rel.drop k) sV)
def a2H{more:List Value}(I:Inv X pins σ H s)(e:H a=some 0x16)(ry:RelV (kV k) u)(l:bJ kvs k=some v)(hm:more=[]\/∃x,more=[x])
  (h:∀w' s',Inv X pins σ (upd H a (.dK (jk kvs k))) s'->RelV v w'->Q w' s'):wpAny 0x9 A (call (.builtin "dict.pop") (.ref a::u::more)) Q E s:=by
 obtain⟨z,hd,vs,rel,dd⟩:=pK I.hok e;obtain⟨w',hw,cN⟩:=jz.some_of (v:=v) (o:=valueAt vs k) (by rw[<-l];exact rel.val k);have hp:(keyPart u).isSome=true:=by
  cases k with
  |inl i=>obtain⟨t,q⟩:=(show ∃t,u=Value.int i t from ry);subst q;rfl
  |inr x=>obtain⟨t,q⟩:=(show ∃t,u=Value.str x t from ry);subst q;rfl
 have ha:argsOk "dict.pop" ⟨.ref a::u::more,[]⟩:=by
  rcases hm with q|⟨x,q⟩
  ·subst q;exact PySem.F.args_dict_pop_2 _ _
  ·subst q;exact PySem.F.args_dict_pop_3 _ _ _
 refine A2R PySem.F.slot_dict_pop dd.typeIs PySem.F.entry_dict_pop ha (meets_dict_pop_there 0x56 a (oh ry) more hm hp)
  ⟨vs,w',dd,by rw[<-rel.length];exact z,hw,fun h' sV hs=>h w' _ ?_ cN⟩
 have he:∃q,h'.get? a=some q:=let⟨q,_,_,hq,_⟩:=sV;⟨q,hq⟩
 exact jE I 0x5B hs he (uX (A0z (Dj kvs k) z) hd (rel.drop k) sV)
end
def NoSl(i:Expr):Prop:=∀ov iv,subscripted i false ov iv=operate [ov,iv] (getItem ov iv)
def Xe{slice:Expr}{id:String}
  (hl:typeLookup (.type T) "__getitem__"=pure (some (.builtin id)))(hs:NoSl slice)
  (h:wpAny 0x13 A (eval value env) (fun o s₁=>wpAny 0x13 A (eval slice env) (fun i s₂=>s₂.TypeIs o T/\wpAny 0x13 A (getItem o i) Q E s₂) E s₁) E s):
  wpAny 0x13 A (eval (.Subscript value slice pos) env) Q E s:=by
 refine Subscript_ (A1i h (fun o s₁ h₁=>A1i h₁ (fun i s₂ h₂=>?_) fun _ _ x=>x) fun _ _ x=>x);obtain⟨hT,h₂⟩:=h₂;unfold subscriptTail;refine A0a ?_;rw[getitemInPython_of_ne hT.not_modules];refine A0a (wpAny_specialOf hT hl ?_);have fin:wpAny 0x13 A (subscripted slice false o i) (fun r s₃=>wpAny 0x13 A (letTemporaryGo value o r>>=fun _=>pure r) Q E s₃) E s₂:=by
  rw[hs o i];exact wpAny_operating (A1i h₂ (fun r s₃ h₃=>A0a (wpAny_letTemporaryGo (A0n h₃))) fun _ _ x=>x)
 first
  |exact A0n (A0a fin)
  |exact A0a (A0n (A0a fin))
  |exact A0a fin
def Dk{o:Option V}(I:Inv X pins σ H s)(g:dj H a y o):s.TypeIs 0x4E "dict":=by
 rcases g with⟨kvs,k,e,_,_⟩|⟨kvs,k,b,e,_,_,_⟩
 ·obtain⟨_,_,vs,_,dd⟩:=sO I.hok e;exact dd.typeIs
 ·obtain⟨_,_,xs,_,dd⟩:=sU I.hok e;exact dd.typeIs
inductive JT(Q:VK)(x y:V)(H2:Hp):Prop
 |mk(a:Addr)(v:V)(_:x=.ref a)(_:dj H2 a y (some v))(_:Q v H2):JT Q x y H2
def a2I(td ty:TE):TE:=fun σ H Q=>td σ H fun x H1=>ty σ H1 fun y H2=>JT Q x y H2
inductive Rh(Q:VK)(y x:V)(H2:Hp):Prop
 |mk(a:Addr)(o:Option V)(_:x=.ref a)(_:dj H2 a y o)(_:Q (.bl o.isSome) H2):Rh Q y x H2
def tDIn(ty td:TE):TE:=fun σ H Q=>ty σ H fun y H1=>td σ H1 fun x H2=>Rh Q y x H2
inductive yt(Q:VK)(y x:V)(H2:Hp):Prop
 |mk(a:Addr)(o:Option V)(_:x=.ref a)(_:dj H2 a y o)(_:Q (.bl (!o.isSome)) H2):yt Q y x H2
def Xf(ty td:TE):TE:=fun σ H Q=>ty σ H fun y H1=>td σ H1 fun x H2=>yt Q y x H2
inductive JV(D:Ends)(σ:L2.St)(v x y:V)(H3:Hp):Prop
 |mk(a:Addr)(H4:Hp)(_:x=.ref a)(_:gK H3 a y v H4)(_:D.nx σ H4):JV D σ v x y H3
def a2J(td ty tv:TE):TS:=fun D σ H=>tv σ H fun v H1=>td σ H1 fun x H2=>ty σ H2 fun y H3=>JV D σ v x y H3
inductive JW(tv:TE)(rd:V->V->Hp->VK->Prop)(D:Ends)(σ:L2.St)(x y:V)(H2:Hp):Prop
 |mk(a:Addr)(v:V)(_:x=.ref a)(_:dj H2 a y (some v))(_:tv σ H2 fun y2 H3=>rd v y2 H3 fun z H4=>∃H5,gK H4 a y z H5/\D.nx σ H5):JW tv rd D σ x y H2
def a2K(td ty tv:TE)(rd:V->V->Hp->VK->Prop):TS:=fun D σ H=>td σ H fun x H1=>ty σ H1 fun y H2=>JW tv rd D σ x y H2
inductive K4(D:Ends)(σ:L2.St)(x y:V)(H2:Hp):Prop
 |mk(a:Addr)(kvs:List 0x21)(k:L2.Key)(_:x=.ref a)(_:H2 a=some 0x16)(_:y=kV k)(_:(bJ kvs k).isSome=true)(_:D.nx σ (upd H2 a (.dK (jk kvs k)))):K4 D σ x y H2
def a2L(td ty:TE):TS:=fun D σ H=>td σ H fun x H1=>ty σ H1 fun y H2=>K4 D σ x y H2
section
variable{o i:Expr}{tpos:Pos}{ty:TE}
def bA(hu:X.A.units+1<cLine)(ho:PE X o td)(hi:PE X i ty)(hs:NoSl i):PE X (.Subscript o i pos) (a2I td ty):=by
 intro pins s σ H Q I h;refine Xe PySem.F.slot_dict_getitem.lookup hs (cP 0x71 fun u s1 ⟨x,H1,I1,rx,q1⟩=>cP (hi pins s1 σ H1 _ I1 q1) fun iv s2 zq=>?_);obtain⟨y,H2,I2,ry,a,v,ex,g,q2⟩:=zq;subst ex;obtain rfl:u=Value.ref a:=rx;exact⟨Dk I2 g,yq hu I2 g ry fun w' s3 I3 cN=>⟨v,H2,I3,cN,q2⟩⟩
def uY(hu:X.A.units+1<cLine)(hi:PE X i ty)(ho:PE X o td):PC X .In i o (tDIn ty td):=by
 intro pins s σ H Q I h;refine cP (hi pins s σ H _ I h) fun iv s1 ⟨y,H1,I1,ry,q1⟩=>cP (ho pins s1 σ H1 _ I1 q1) fun u s2 zq=>?_;obtain⟨x,H2,I2,rx,a,ov,ex,g,q2⟩:=zq;subst ex;obtain rfl:u=Value.ref a:=rx;exact d_in hu I2 g ry fun s3 I3=>⟨.bl ov.isSome,H2,I3,rfl,q2⟩
def yu(hu:X.A.units+1<cLine)(hi:PE X i ty)(ho:PE X o td):PC X .NotIn i o (Xf ty td):=by
 intro pins s σ H Q I h;refine cP (hi pins s σ H _ I h) fun iv s1 ⟨y,H1,I1,ry,q1⟩=>cP (ho pins s1 σ H1 _ I1 q1) fun u s2 zq=>?_;obtain⟨x,H2,I2,rx,a,ov,ex,g,q2⟩:=zq;subst ex;obtain rfl:u=Value.ref a:=rx;exact Xd hu I2 g ry fun s3 I3=>⟨.bl (!ov.isSome),H2,I3,rfl,q2⟩
def cQ(hu:X.A.units+1<cLine)(ho:PE X o td)(hi:PE X i ty)(hv:PE X value tv)(hs:swapsWith value (some (.Subscript o i pos')) pos.line X.env=pure false):
  PS X (.Assign [.Subscript o i pos'] value pos) (a2J td ty tv):=by
 intro pins s σ H D I h;refine wpAny_Assign_Subscript (cP (hv pins s σ H _ I h) fun r s1 ⟨v,H1,I1,rv,q1⟩=>cP (ho pins s1 σ H1 _ I1 q1) fun u s2 ⟨x,H2,I2,rx,q2⟩=>cP (hi pins s2 σ H2 _ I2 q2) fun iv s3 ⟨y,H3,I3,ry,a,H4,ex,g,q3⟩=>?_) hs;subst ex;obtain rfl:u=Value.ref a:=rx;exact yr hu I3 g ry rv fun s4 I4=>⟨σ,H4,I4,q3⟩
def oV{op:Operator}{rd:V->V->Hp->VK->Prop}(hu:X.A.units+1<cLine)(ho:PE X o td)(hi:PE X i ty)(hv:PE X value tv)(hop:a0v X op rd)
  (ha:∀ov iv new,augStore i ov iv new=(do holding [new,ov,iv] (setItem ov iv new);release [new,ov,iv] [];pure .next)):PS X (.AugAssign (.Subscript o i tpos) op value pos) (a2K td ty tv rd):=by
 intro pins s σ H D I h;refine wpAny_AugAssign_SubscriptAny (cP 0x71 fun u s1 ⟨x,H1,I1,rx,q1⟩=>cP (hi pins s1 σ H1 _ I1 q1) fun iv s2 ⟨y,H2,I2,ry,a,v,ex,g,q2⟩=>?_) ha;subst ex;obtain rfl:u=Value.ref a:=rx;refine yq hu I2 g ry fun w' s3 I3 cN=>cP (hv pins s3 σ H2 _ I3 q2) fun w2 s4 ⟨y2,H3,I4,ry2,q3⟩=>cP (hop pins s4 σ H3 v y2 w' w2 _ I4 cN ry2 q3) fun w3 s5 zq=>?_;obtain⟨z,H4,I5,rz,H5,g5,q4⟩:=zq;exact yr hu I5 g5 ry rz fun s6 I6=>⟨σ,H5,I6,q4⟩
def qH(ho:PE X o td)(hi:PE X i ty):PS X (.Delete [.Subscript o i tpos] pos) (a2L td ty):=by
 intro pins s σ H D I h;refine wpAny_Delete (wpAny_deleteEach_cons (wpAny_delete_Subscript (cP 0x71 fun u s1 ⟨x,H1,I1,rx,q1⟩=>cP (hi pins s1 σ H1 _ I1 q1) fun iv s2 zq=>?_)));obtain⟨y,H2,I2,ry,a,kvs,k,ex,e,ey,l,q2⟩:=zq;subst ex ey;obtain rfl:u=Value.ref a:=rx;exact Ni I2 e ry l fun s3 I3=>wpAny_deleteEach_nil ⟨σ,_,I3,q2⟩
end
def Dl(h:Heap)(hb:sysModules<h.objs.size):dW P w H (h.push {cls:=.type "dict",data:=.dict #[]}) h.objs.size (.dK []):=
 ⟨A1j _,A1n.mpr (A0m (A0M hb)),[],.nil,Heap.DictOf.new h⟩
def Gw:TE:=fun _ H Q=>∀p,H p=none->Q 0x46 (upd H p (.dK []))
def jm:PE X (.Dict [] [] pos) Gw:=fun pins s σ H Q I h=>
 wpAny_Dict_empty ⟨.ref s.heap.objs.size,_,I.laid (a:=s.heap.objs.size) (o:=.dK []) (t':=s.toks) (fun _ _ q=>A0c _ q) 0x33 (Dl s.heap I.big),rfl,h _ 0x4B⟩
def pY:List (TE×TE)->St->Hp->(List (V×V)->Hp->Prop)->Prop
 |[],_,H,Q=>Q [] H
 |(tk,tv)::r,σ,H,Q=>tk σ H fun x H1=>tv σ H1 fun y H2=>pY r σ H2 fun ps H3=>Q ((x,y)::ps) H3
abbrev VV:List (V×V)->List (Value×Value)->Prop:=Paired fun p q=>RelV p.1 q.1/\RelV p.2 q.2
def PPs(X:Cx)(pos:Pos)(keys:List (Option Expr))(values:List Expr)(Pq:List (TE×TE)):Prop:=
 ∀ (pins:List 0x1E)(s:Shared)(σ:St)(H:Hp)(Q:List (V×V)->Hp->Prop),Inv X pins σ H s->pY Pq σ H Q->
  wpAny 0x9 X.A (evalPairs (pairTrees keys values X.env pos)) (fun vs s'=>∃ps H',Inv X pins σ H' s'/\VV ps vs/\Q ps H') X.xe s
def K5:PPs X pos [] [] []:=fun pins s σ H Q I h=>pairTrees_nil_walk ⟨[],H,I,.nil,h⟩
def iK{k v:Expr}{ks:List (Option Expr)}{vs:List Expr}{tk:TE}(hk:PE X k tk)(hv:PE X v tv)(hr:PPs X pos ks vs Pq):
  PPs X pos (some k::ks) (v::vs) ((tk,tv)::Pq):=fun pins s σ H Q I h=>
 pairTrees_cons_walk (cP (hk pins s σ H _ I h) fun u s1 ⟨x,H1,I1,rx,q1⟩=>cP (hv pins s1 σ H1 _ I1 q1) fun w2 s2 ⟨y,H2,I2,ry,q2⟩=>
  cP (hr pins s2 σ H2 _ I2 q2) fun ws s3 ⟨ps,H3,I3,rel,q3⟩=>⟨(x,y)::ps,H3,I3,.cons ⟨rx,ry⟩ rel,q3⟩)
def dO(kvs more:List 0x2B):List 0x2B:=more.foldl (fun acc kv=>putK acc kv.1 kv.2) kvs
def KV.merge:∀{more:List 0x2B}{rs:List (Key×Value)}{kvs:List 0x2B}{vs:List (Key×Value)},KV more rs->KV kvs vs->KV (dO kvs more) (merged vs rs):=by
 intro more rs kvs vs r;unfold KV at r
 induction r generalizing kvs vs with
 |nil=>intro q;exact q
 | @cons p q ps qs h t ih=>
  intro r0;have e:KV (putK kvs p.1 p.2) (stored vs q.1 q.2):=by
   have:=r0.put p.1 h.2;rw[<-h.1];exact this
  exact ih e
theorem lD:∀(more kvs:List 0x2B),(dO kvs more).length<=kvs.length+more.length
 |[],kvs=>by show kvs.length<=kvs.length+0;lia
 | p::r,kvs=>by
  have h1:=lD r (putK kvs p.1 p.2);have h2:=cB kvs p.1 p.2
  show(dO (putK kvs p.1 p.2) r).length<=_
  rw[wO];lia
theorem uZ{P:Program}{w:World}:∀{kvs:List 0x2B}{ws:List (Value×Value)},VV (kvs.map fun kv=>(kV kv.1,kv.2)) ws->∃rs,Carries (bW P w) ws rs/\KV kvs rs
 |[],_,r=>by rw[A3K]at r;cases r;exact⟨[],True.intro,.nil⟩
 | p::kvs,_,r=>by
  rw[A0h]at r;cases r with
  | @cons a b as bs h t=>
   obtain⟨rs,c,q⟩:=uZ (P:=P) (w:=w) t;obtain⟨b1,b2⟩:=b;exact⟨(p.1,b2)::rs,⟨oh h.1,rfl,c⟩,.cons ⟨rfl,h.2⟩ q⟩
def pL(Pq:List (TE×TE)):TE:=fun σ H Q=>∀p,H p=none->pY Pq σ (upd H p (.dK [])) fun ps H2=>H2 p=some (.dK [])/\∃kvs:List 0x2B,ps=kvs.map (fun kv=>(kV kv.1,kv.2))/\kvs.length<=15/\Q 0x46 (upd H2 p (.dK (dO [] kvs)))
def K6{keys:List (Option Expr)}{values:List Expr}(h:PPs X pos keys values Pq)(hall:keys.all (·.isSome)=true)(hl:keys.length=values.length)(h0:keys≠[])
  (h15:keys.length<=15):PE X (.Dict keys values pos) (pL Pq):=by
 intro pins s σ H Q I q;have hn:=I.hok.fresh (A0g s.heap.objs.size);have I1:=I.laid (a:=s.heap.objs.size) (o:=.dK []) (h':=s.heap.push {cls:=.type "dict",data:=.dict #[]}) (t':=s.toks) (fun _ _ q=>A0c _ q) 0x33 (Dl s.heap I.big);refine wpAny_Dict_walk (knd:=bW X.prog X.w) hall hl h0 h15 (cP (h pins _ σ _ _ I1 (q _ hn)) fun ws s2 zq=>?_);obtain⟨ps,H2,I2,rel,e,kvs,ep,lk,q2⟩:=zq;subst ep;obtain⟨rs,c,rk⟩:=uZ (P:=X.prog) (w:=X.w) rel;obtain⟨z,hd,vs0,r0,dd⟩:=pK I2.hok e;cases r0;refine⟨rs,c,dd,fun h' sV hs=>⟨.ref s.heap.objs.size,_,?_,rfl,q2⟩⟩;have hz:(dO [] kvs).length<=sizeLine:=by
  have h1:=lD kvs [];rw[A4Q]at h1;rw[A1v];lia
 have he:∃q,h'.get? s.heap.objs.size=some q:=let⟨q,_,_,hq,_⟩:=sV;⟨q,hq⟩
 exact jE I2 0x5B hs he (uX hz hd (rk.merge .nil) sV)
structure M1(X:Cx)(o:Expr)(m:Str)(apos:Pos)(e:Expr)(cpos:Pos):Prop where
 base:attributeBase o m X.env (eval o X.env)=eval o X.env
 few:((backTo cpos (starEach [e] X.env)).all (fun x=>!x.1)&&(backToKw cpos (keywordEach [] X.env)).all (fun x=>x.1.isSome)
  &&decide (([e]:List Expr).length+([]:List Keyword).length+(if([]:List Keyword).isEmpty then 0 else 1)<30))=true
 line:(apos.endLine==cpos.line)=true
 trees:backTo cpos (starEach [e] X.env)=[0x2D]
structure M2(X:Cx)(o:Expr)(m:Str)(apos:Pos)(e f:Expr)(cpos:Pos):Prop where
 base:attributeBase o m X.env (eval o X.env)=eval o X.env
 few:((backTo cpos (starEach [e,f] X.env)).all (fun x=>!x.1)&&(backToKw cpos (keywordEach [] X.env)).all (fun x=>x.1.isSome)
  &&decide (([e,f]:List Expr).length+([]:List Keyword).length+(if([]:List Keyword).isEmpty then 0 else 1)<30))=true
 line:(apos.endLine==cpos.line)=true
 trees:backTo cpos (starEach [e,f] X.env)=[0x2D,(false,eval f X.env)]
def IsD(H:Hp)(a:Addr):Prop:=(∃kvs,Rd H a 0x16)\/∃kvs,Rd H a (.dT kvs)
def zP(I:Inv X pins σ H s)(d:IsD H a):
  s.TypeIs 0x4E "dict"/\(∀b,Value.ref a=.ref b->∃ob,s.heap.get? b=some ob/\ob.dict=none)/\0x76=false:=by
 rcases d with⟨kvs,e⟩|⟨kvs,e⟩
 ·obtain⟨_,hd,vs,_,dd⟩:=sO I.hok e;refine⟨dd.typeIs,fun b q=>?_,hd⟩;cases q;obtain⟨ob,_,_,h1,h2,_⟩:=dd;exact⟨ob,h1,h2.2.1⟩
 ·obtain⟨_,hd,xs,_,dd⟩:=sU I.hok e;refine⟨dd.typeIs,fun b q=>?_,hd⟩;cases q;obtain⟨ob,_,_,h1,h2,_⟩:=dd;exact⟨ob,h1,h2.2.1⟩
section
variable{d:V}{r:Value}{o:Option V}
def a0P(hu:A.units+1<cLine)(I:Inv X pins σ H s)(g:dj H a y o)(ry:RelV y u)(h:∀w' s',Inv X pins σ H s'->RelV (o.getD .non) w'->Q w' s'):
  wpAny 0x9 A (call (.builtin "dict.get") [.ref a,u]) Q E s:=by
 rcases g with⟨kvs,k,e,ey,l⟩|⟨kvs,k,b,e,ey,eb,l⟩
 ·subst ey;obtain⟨z,hd,vs,rel,dd⟩:=sO I.hok e;refine A2R A2a dd.typeIs A2S (PySem.F.args_dict_get_2 _ _) (meets_dict_get 0x56 a (oh ry) hd) ⟨_,dd.mapOf,h _ _ (I.tok _) ?_⟩;rw[l];exact(rel.val k).getD rfl
 ·subst ey;cases 0x8A
  obtain⟨z,hd,xs,rel,dd⟩:=sU I.hok e;refine A2R A2a dd.typeIs A2S (PySem.F.args_dict_get_2 _ _) (meetsH_dict_get (tupleKind 0x56) a b hd) ⟨A2d hu,k,xs,ou I.hok eb,dd,h _ _ (I.tok _) ?_⟩;rw[l];exact(rel.val k).getD rfl
def a0Q(hu:A.units+1<cLine)(I:Inv X pins σ H s)(g:dj H a y o)(ry:RelV y u)(rd:RelV d r)(h:∀w' s',Inv X pins σ H s'->RelV (o.getD d) w'->Q w' s'):
  wpAny 0x9 A (call (.builtin "dict.get") [.ref a,u,r]) Q E s:=by
 rcases g with⟨kvs,k,e,ey,l⟩|⟨kvs,k,b,e,ey,eb,l⟩
 ·subst ey;obtain⟨z,hd,vs,rel,dd⟩:=sO I.hok e;refine A2R A2a dd.typeIs A2S (PySem.F.args_dict_get_3 _ _ _) (meets_dict_get_default 0x56 a (oh ry) hd r) ⟨_,dd.mapOf,h _ _ (I.tok _) ?_⟩;rw[l];exact(rel.val k).getD rd
 ·subst ey;cases 0x8A
  obtain⟨z,hd,xs,rel,dd⟩:=sU I.hok e;refine A2R A2a dd.typeIs A2S (PySem.F.args_dict_get_3 _ _ _) (meetsH_dict_get_default (tupleKind 0x56) a b hd r) ⟨A2d hu,k,xs,ou I.hok eb,dd,h _ _ (I.tok _) ?_⟩;rw[l];exact(rel.val k).getD rd
end
inductive Dm(ty:TE)(σ:L2.St)(Q:VK)(x:V)(H1:Hp):Prop
 |mk(a:Addr)(_:x=.ref a)(_:IsD H1 a)(_:ty σ H1 fun y H2=>∃o,dj H2 a y o/\Q (o.getD .non) H2):Dm ty σ Q x H1
def a0R(td ty:TE):TE:=fun σ H Q=>td σ H fun x H1=>Dm ty σ Q x H1
inductive Dn(ty tx:TE)(σ:L2.St)(Q:VK)(x:V)(H1:Hp):Prop
 |mk(a:Addr)(_:x=.ref a)(_:IsD H1 a)(_:ty σ H1 fun y H2=>tx σ H2 fun z H3=>∃o,dj H3 a y o/\Q (o.getD z) H3):Dn ty tx σ Q x H1
def a0S(td ty tx:TE):TE:=fun σ H Q=>td σ H fun x H1=>Dn ty tx σ Q x H1
inductive Dp(ty:TE)(σ:L2.St)(Q:VK)(x:V)(H1:Hp):Prop
 |mk(a:Addr)(_:x=.ref a)(_:IsD H1 a)(_:ty σ H1 fun y H2=>∃kvs k v,H2 a=some 0x16/\y=kV k/\bJ kvs k=some v/\Q v (upd H2 a (.dK (jk kvs k)))):Dp ty σ Q x H1
def a0T(td ty:TE):TE:=fun σ H Q=>td σ H fun x H1=>Dp ty σ Q x H1
section
variable{o f:Expr}{ty tx:TE}
def Dr(hu:X.A.units+1<cLine)(ho:PE X o td)(he:PE X e ty)(m:M1 X o "get" apos e cpos):PE X (.Call (.Attribute o "get" apos) [e] [] cpos) (a0R td ty):=by
 intro pins s σ H Q I h;refine A3d m.base m.few m.line A2f A2a PySem.F.type_dict_get (cP 0x71 fun u s1 zq=>?_);obtain⟨x,H1,I1,rx,a,ex,d,q1⟩:=zq;subst ex;obtain rfl:u=Value.ref a:=rx;obtain⟨t1,t2,_⟩:=zP I1 d;refine⟨t1,t2,?_⟩;rw[m.trees];refine A1K rfl (A1S (A1Q (cP (he pins s1 σ H1 _ I1 q1) fun iv s2 ⟨y,H2,I2,ry,ov,g,q2⟩=>A2t ?_)));exact a0P hu I2 g ry fun w' s3 I3 cN=>⟨_,H2,I3,cN,q2⟩
def Ri(hu:X.A.units+1<cLine)(ho:PE X o td)(he:PE X e ty)(hf:PE X f tx)(m:M2 X o "get" apos e f cpos):PE X (.Call (.Attribute o "get" apos) [e,f] [] cpos) (a0S td ty tx):=by
 intro pins s σ H Q I h;refine A3d m.base m.few m.line A2f A2a PySem.F.type_dict_get (cP 0x71 fun u s1 zq=>?_);obtain⟨x,H1,I1,rx,a,ex,d,q1⟩:=zq;subst ex;obtain rfl:u=Value.ref a:=rx;obtain⟨t1,t2,_⟩:=zP I1 d;refine⟨t1,t2,?_⟩;rw[m.trees];refine A1K rfl (A1S (A1Q (cP (he pins s1 σ H1 _ I1 q1) fun iv s2 ⟨y,H2,I2,ry,q2⟩=>
  A1Q (cP (hf pins s2 σ H2 _ I2 q2) fun fv s3 ⟨z,H3,I3,rz,ov,g,q3⟩=>A2t ?_))))
 exact a0Q hu I3 g ry rz fun w' s4 I4 cN=>⟨_,H3,I4,cN,q3⟩
def qI(ho:PE X o td)(he:PE X e ty)(m:M1 X o "pop" apos e cpos):PE X (.Call (.Attribute o "pop" apos) [e] [] cpos) (a0T td ty):=by
 intro pins s σ H Q I h;refine A3d m.base m.few m.line A2f PySem.F.slot_dict_pop PySem.F.type_dict_pop (cP 0x71 fun u s1 zq=>?_);obtain⟨x,H1,I1,rx,a,ex,d,q1⟩:=zq;subst ex;obtain rfl:u=Value.ref a:=rx;obtain⟨t1,t2,_⟩:=zP I1 d;refine⟨t1,t2,?_⟩;rw[m.trees];refine A1K rfl (A1S (A1Q (cP (he pins s1 σ H1 _ I1 q1) fun iv s2 ⟨y,H2,I2,ry,kvs,k,v,ea,ey,l,q2⟩=>A2t ?_)));subst ey;exact a2H I2 ea ry l 0x5F fun w' s3 I3 cN=>⟨v,_,I3,cN,q2⟩
end
section
variable{a b:Expr}{ta:TA}{p:Pos}
end
def gM(P:Params):List DictEntry->List 0x81->Prop
 |[],[]=>True
 |e::r,(k,v)::q=>((∃t,e.key=.str k t)/\e.hash=PyData.keyHash P k/\RelV v e.val)/\gM P r q
 |_,_=>False
theorem gM.lit{P:Params}:∀{es:List DictEntry}{kvs:List 0x81},gM P es kvs->KeysLit P es
 |[],[],_=>trivial
 |e::r,(k,v)::q,⟨⟨⟨t,h1⟩,h2,_⟩,h⟩=>⟨⟨k,t,h1,h2⟩,h.lit⟩
theorem gM.rel{P:Params}(x:Str):∀{es:List DictEntry}{kvs:List 0x81},gM P es kvs->jz (kvs.lookup x) ((es.find? fun e=>Value.isStrOf x e.key).map (·.val))
 |[],[],_=>trivial
 | e::r,(k,v)::q,⟨⟨⟨t,h1⟩,h2,h3⟩,h⟩=>by
  have hk:Value.isStrOf x e.key=(k==x):=by rw[h1];rfl
  by_cases hx:x=k
  ·subst hx;have:Value.isStrOf x e.key=true:=by rw[hk];simp
   rw[A2g,this,A0Z];simp only[A2J];exact h3
  ·have h4:Value.isStrOf x e.key=false:=by rw[hk];simpa using fun z:k=x=>hx z.symm
   have h5:(x==k)=false:=by simpa using hx
   rw[A2g,h4,A0Z,h5];exact h.rel x
structure KD(K:PySem.W.Frag)(P:Params)(a:Addr)(kvs:List 0x81):Prop where
 ex:∃es n,K.lookup a=some ⟨.type "dict",none,.dict es n,#[]⟩/\gM P es.toList kvs
 lo:0x76=false
def KD.map{kvs:List 0x81}(d:KD K w.params a kvs)(X:K.In h):∃f,h.MapOf (strKind prog w) a f/\∀x,jz (kvs.lookup x) (f x):=by
 obtain⟨es,n,hl,he⟩:=d.ex;refine⟨_,mapOf_K X hl he.lit,fun x=>?_⟩;obtain⟨l⟩:=es;have:=he.rel x;unfold findBy;rw[List.find?_toArray];exact this
inductive Zu(K:W.Frag)(P:Params)(neg:Bool)(x y:V)(H:Hp)(Q:VK):Prop
 |mk(z:Str)(a:Addr)(kvs:List (Prod Str V))(_:x=.str z)(_:y=.ref a)(_:KD K P a kvs)(_:Q (.bl (neg !=(kvs.lookup z).isSome)) H):Zu K P neg x y H Q
def K7:lK X (compareOp .In) (Zu X.K X.w.params false):=by
 intro pins s σ H x y v u Q I rx ry h;obtain⟨z,a,kvs,rfl,rfl,d,q⟩:=h;obtain⟨t,rfl⟩:=rx;cases ry;obtain⟨f,hm,hr⟩:=d.map (prog:=X.prog) I.lZ;refine wpAny_in_of (A3u X.prog X.w z t) d.lo hm ?_;rw[<-(hr z).jd];exact⟨.bl _,H,I.tok _,rfl,by simpa using q⟩
inductive Zv(K:W.Frag)(P:Params)(x y:V)(H:Hp)(Q:VK):Prop
 |mk(a:Addr)(kvs:List (Prod Str V))(z:Str)(v:V)(_:x=.ref a)(_:y=.str z)(_:KD K P a kvs)(_:kvs.lookup z=some v)(_:Q v H):Zv K P x y H Q
def K8:IxR X (Zv X.K X.w.params):=by
 intro value slice pins s σ H x y v u Q I rx ry h hs;obtain⟨a,kvs,z,w',rfl,rfl,d,hl,q⟩:=h;cases rx;obtain⟨t,rfl⟩:=ry;obtain⟨f,hm,hr⟩:=d.map (prog:=X.prog) I.lZ;obtain⟨u',hu,ru⟩:=jz.some_of (v:=w') (o:=f z) (by rw[<-hl];exact hr z);exact tail_any hm.typeIs slot_dict_getitem.lookup (wpAny_getItem_of (A3u X.prog X.w z t) hm hu ⟨w',H,I.tok _,ru,q⟩) hs
end L2
namespace HT
open PySem PySem.Spec PyProof.Rows
def qJ{t:Addr}{items:Array Value}{lo hi:Option Int}(ht:IsTup s.heap t items)(hs:s.heap.IsSliceOf sl vl vu .none)(pl:IsPart vl lo)(pu:IsPart vu hi)
  (hw:fQ items.size 0 lo=0/\fQ items.size items.size hi=items.size)(h:Q 0x58 s):wpAny 0x13 A (getItem 0x58 (.ref sl)) Q E s:=by
 obtain⟨os,hos,hcs,hds⟩:=id hs;have hTs:s.TypeIs (.ref sl) "slice":=⟨os,hos,hcs⟩;unfold getItem
 try with_reducible refine A1U ?_
 first|refine A0a (A0n ?_)|skip
 refine A0a (wpAny_sequenceKey ht.typeIs 0x5 ?_);refine A0a (A1y (name:=Str.ofString "__getitem__") ht.typeIs A1m
  (A2b A1m ht.typeIs entry_tuple_getitem ?_ (args_tuple_getitem _ _)))
 show wpAny _ _ (Builtin.Tuple.tupleItemsOf 0x58>>=_) _ _ s
 refine A0a (tupleItemsOf_ ht ?_);refine A0a (A4N hTs ?_);rw[A0i 0x5];refine A0a (lM hs pl pu ?_);have hyes:(((fQ items.size 0 lo:Nat):Int)==0&&(1:Int)==1&&0x27==items.size)=true:=by
  rw[hw.1,hw.2];simp
 show wpAny _ _ (if(((fQ items.size 0 lo:Nat):Int)==0&&(1:Int)==1&&0x27==items.size)=true then _ else _) _ _ s
 rw[A0i hyes];unfold Builtin.Tuple.tupleIsExact;refine A0a (A0a (A4N ht.typeIs (A0n ?_)));rw[A0i 0x5];exact A0a (A3P (A0n ⟨_,rfl,A0n h⟩))
end HT
namespace L2
open PySem PySem.Spec PyProof.Rows PySem.W
def Rj{lo hi:Option Int}(h:HT.fQ xs.length 0 lo=0/\HT.fQ xs.length xs.length hi=xs.length):iG xs lo hi=xs:=by
 unfold iG;rw[h.1,h.2];simp
inductive rSlW(K:W.Frag)(x:V)(lo hi:Option Int)(H:Hp)(Q:VK):Prop
 |mk(a:Addr)(xs:List V)(_:x=.ref a)(_:bN K H a xs)(_:∀p H',(bN K H a (iG xs lo hi)/\p=a/\H'=H)\/(H p=none/\H'=upd H p (.tup (iG xs lo hi)))->Q 0x46 H'):rSlW K x lo hi H Q
def qK:SlR X (rSlW X.K):=by
 intro pins s σ H x v vl vu lo hi sl Q I rx hs pl pu h;obtain⟨a,xs,rfl,hx,q⟩:=h
 by_cases hw:HT.fQ xs.length 0 lo=0/\HT.fQ xs.length xs.length hi=xs.length
 ·cases rx;obtain⟨its,r,ht,hz⟩:=I.tuple hx;have hlen:its.toArray.size=xs.length:=by rw[A0u];exact r.length.symm
  refine⟨"tuple",_,A1m.lookup,ht.typeIs,?_⟩;exact HT.qJ ht hs pl pu (by rw[hlen];exact hw) ⟨.ref a,H,I,rfl,q a H (.inl ⟨by rw[Rj hw];exact hx,rfl,rfl⟩)⟩
 ·exact Qx pins s σ H _ v vl vu lo hi sl Q I rx hs pl pu ⟨a,xs,rfl,hx,hw,fun p hp=>q p _ (.inr ⟨hp,rfl⟩)⟩
def jP{p:Addr}{zs:List V}(h:(bN K H a zs/\p=a/\H'=H)\/(H p=none/\H'=upd H p (.tup zs))):bN K H' p zs/\Same H H':=by
 rcases h with⟨h,rfl,rfl⟩|⟨h,rfl⟩
 ·exact⟨h,Same.refl _⟩
 ·refine⟨bN.of ao,fun b u q=>?_⟩;rw[ak (au q h)];exact q
def SetT(P:Program)(w:World)(a:Addr)(S:Str->Bool)(n:Nat):HO:=.ext fun h=>h.SetOf (strKind P w) a S n
def zQ{S:Str->Bool}(hs:h.SetOf (strKind P w) a S n):dW P w H h a (SetT P w a S n):=by
 refine⟨hs,?_,fun h1 h2 p k=>?_⟩
 ·obtain⟨o,es,ep,t,e,_⟩:=hs;exact⟨o,e⟩
 ·obtain⟨o,es,ep,t,e,r⟩:=p;exact⟨o,es,ep,t,k _ e,r⟩
def Inv.Rk{S:Str->Bool}(I:Inv X pins σ H s)(e:H a=some (SetT X.prog X.w a S n)):s.heap.SetOf (strKind X.prog X.w) a S n:=(I.hok _ _ e).1
inductive rInT(P:Program)(w:World)(neg:Bool)(x y:V)(H:Hp)(Q:VK):Prop
 |mk(z:Str)(a:Addr)(S:Str->Bool)(n:Nat)(_:x=.str z)(_:y=.ref a)(_:H a=some (SetT P w a S n))(_:Q (.bl (neg != S z)) H):rInT P w neg x y H Q
def Nj:lK X (compareOp .NotIn) (rInT X.prog X.w true):=by
 intro pins s σ H x y v u Q I rx ry h;obtain⟨z,a,S,n,rfl,rfl,e,q⟩:=h;obtain⟨t,rfl⟩:=rx;cases ry;exact wpAny_notInSet_of (A3u X.prog X.w z t) rfl (I.Rk e) ⟨.bl _,H,I.tok _,rfl,by simpa using q⟩
inductive K9(P:Program)(w:World)(ty:TE)(σ:L2.St)(Q:VK)(x:V)(H1:Hp):Prop
 |mk(a:Addr)(S:Str->Bool)(n:Nat)(_:x=.ref a)(_:H1 a=some (SetT P w a S n))(_:ty σ H1 fun y H2=>∃z,y=.str z/\H2 a=some (SetT P w a S n)/\n<=1000/\Q .non (upd H2 a (SetT P w a (fun k=>S k||decide (k=z)) (if S z=true then n else n+1)))):K9 P w ty σ Q x H1
def a2M(P:Program)(w:World)(td ty:TE):TE:=fun σ H Q=>td σ H fun x H1=>K9 P w ty σ Q x H1
def Xg{o:Expr}{ty:TE}(ho:PE X o td)(he:PE X e ty)(m:M1 X o "add" apos e cpos):PE X (.Call (.Attribute o "add" apos) [e] [] cpos) (a2M X.prog X.w td ty):=by
 intro pins s σ H Q I h;refine A3d m.base m.few m.line PySem.F.plainAttrs_set PySem.F.slot_set_add PySem.F.type_set_add (cP 0x71 fun u s1 zq=>?_);obtain⟨x,H1,I1,rx,a,S,n,ex,d,q1⟩:=zq;subst ex;obtain rfl:u=Value.ref a:=rx;refine⟨(I1.Rk d).typeIs,(I1.Rk d).noDict,?_⟩;rw[m.trees];refine A1K rfl (A1S (A1Q (cP (he pins s1 σ H1 _ I1 q1) fun iv s2 ⟨y,H2,I2,ry,z,ey,d2,hn,q2⟩=>A2t ?_)));subst ey;obtain⟨t,rfl⟩:=ry;refine call_set_add (A3u X.prog X.w z t) rfl (I2.Rk d2) (A0O (A2K hn) 0x5) fun h' hsb hS'=>?_;have he':∃q,h'.get? a=some q:=by obtain⟨o,_,_,_,e,_⟩:=hS';exact⟨o,e⟩
 exact⟨.non,_,jE I2 (by rw[d2];exact True.intro) hsb he' (zQ hS'),rfl,q2⟩
inductive Ka(P:Program)(w:World)(Q:VK)(p:Addr)(x:V)(H2:Hp):Prop
 |mk(z:Str)(_:x=.str z)(_:H2 p=some (SetT P w p (fun _=>false) 0))(_:Q 0x46 (upd H2 p (SetT P w p (fun k=>decide (k=z)) 1))):Ka P w Q p x H2
def a2N(P:Program)(w:World)(te:TE):TE:=fun σ H Q=>∀p,H p=none->te σ (upd H p (SetT P w p (fun _=>false) 0)) fun x H2=>Ka P w Q p x H2
def Rn(h:codeIn K cd q=true):kdsCode K cd=true:=by
 unfold codeIn at h;unfold kdsCode
 split at h
 ·split at h
  ·rename_i ho
   simp only[ho]
  ·cases h
 ·cases h
def Xh(hc:kdsCode X.K X.env.code=true)(he:PE X e te)(hp:kdsPlain e=true:=by rfl):PE X (.Set [e] 0 pos) (a2N X.prog X.w te):=by
 intro pins s σ H Q I h;rw[arm_eval_Set];refine A0a (A2Z ?_);refine A0a (kds_main I.lZ hc fun b=>?_);rw[kds_star [e] (by rw[A2j,hp];rfl),A0T];refine kds_core (ts:=(evalEach [e] X.env).map fun t=>do let v<-t;standAt pos;pure v) rfl ?_ ?_ ?_ fun led=>?_
 ·refine List.findIdx?_eq_none_iff.mpr fun x hx=>?_;obtain⟨t,_,rfl⟩:=A0e.mp hx;rfl
 ·rw[cM,kds_len];exact A0V rfl
 ·rw[A0T];try rfl
 ·refine kds_all pos [e] _ _ ?_;have hfr:=I.hok.fresh (A0g s.heap.objs.size);have hS0:(s.heap.push {cls:=.type "set",dict:=none,data:=.set #[] 0 (.fresh 0 0 led)}).SetOf (strKind X.prog X.w) s.heap.objs.size (fun _=>false) 0:=(setObjOf_fresh led).setOf (A0x _ rfl) 0x5;have I1:=I.laid (a:=s.heap.objs.size) (o:=SetT X.prog X.w s.heap.objs.size (fun _=>false) 0) (h':=s.heap.push {cls:=.type "set",dict:=none,data:=.set #[] 0 (.fresh 0 0 led)}) (t':=s.toks) (fun _ _ q=>A0c _ q) 0x33 (zQ hS0);refine A1i (he pins _ σ _ _ I1 (h _ hfr)) (fun v s2 ⟨x,H2,I2,rx,z,ex,d2,q2⟩=>?_) fun _ _ y=>y;subst ex;obtain⟨t,rfl⟩:=rx;refine kds_fill_cons ?_;unfold setAdd;refine A0a ((strKind X.prog X.w).pyHash (A3u X.prog X.w z t) ?_);refine wpAny_setAddHashed_of (s:={s2 with toks:=s2.toks+1}) (A3u X.prog X.w z t) rfl (I2.Rk d2) 0x5 fun h' hsb hS'=>?_;refine kds_fill_nil rfl ?_;have he':∃q,h'.get? s.heap.objs.size=some q:=by obtain⟨o,_,_,_,e,_⟩:=hS';exact⟨o,e⟩
  have hS2:h'.SetOf (strKind X.prog X.w) s.heap.objs.size (fun k=>decide (k=z)) 1:=by
   have e1:(fun k'=>(fun _:Str=>false) k'||decide (k'=z))=fun k=>decide (k=z):=by funext k;simp
   have:=hS';rw[e1]at this;exact this
  exact⟨.ref _,_,jE (I2.tok _) (by rw[d2];exact True.intro) hsb he' (zQ hS2),rfl,q2⟩
def fj.okC{x:Str}{k:Nat}(F:fj K x qual st f fd)(S:aP N ps (aJ st))(len:∀vs H Q E,sp vs H Q E->vs.length=ps.length)
  (hbody:∀(cdv:Value)(A:Around)(outer:List Env)(s:Shared)(H:Hp)(vs:List V)(Q:VK)(E:XK),codeIn K cdv qual=true->cG k (A.deeper (envOfC qual (aJ st) s.heap.objs.size f cdv))->sp vs H Q E->
   ∃t,BP (qw bL P w K mg base N qual (aJ st) f cdv A outer s H E).nox (iJ st) t/\t {nx:=fun _ H'=>Q .non H',rt:=Q} (start N vs) H):aL P w K mg base bL (k+1) f fd ps sp:=by
 obtain⟨oc,od,kV,doc,pm,an,cdv,ct,osl,rfl,lk,hcd⟩:=F.ex;refine xR lk hcd S len fun A outer s H vs Q E hr hsp=>?_;obtain⟨t,h,q⟩:=hbody cdv A outer s H vs Q E hcd hr hsp;exact⟨t,h.nox,q⟩
theorem Kc:∀{ss:List Str}{us:List Value},Vals (ss.map V.str) us->StrsAre us ss
 |[],_,r=>by rw[A3K]at r;cases r;exact .nil
 | x::ss,_,r=>by
  rw[A0h]at r;cases r with
  | cons r1 r2=>
   obtain⟨t,rfl⟩:=r1;exact .cons x t (Kc r2)
theorem qL:∀{ss:List Str}{us:List Value},StrsAre us ss->Vals (ss.map V.str) us
 |_,_,.nil=>.nil
 |_,_,.cons y t r=>.cons ⟨t,rfl⟩ (qL r)
inductive Rp(K:W.Frag)(xs:List V)(H:Hp)(Q:VK):Prop
 |mk(p:Addr)(ss:List Str)(_:xs=[.ref p])(_:bY K H p (ss.map V.str))(_:ss.length<64)(_:∀l ss',H l=none->ss'.Perm ss->sortedS ss'=true->Q (.ref l) (upd H l (.lst (ss'.map V.str)))):Rp K xs H Q
def iM:gO X (.builtin "sorted") (Rp X.K):=by
 intro pins s σ H xs us Q I r h;obtain⟨p,ss,rfl,hq,hl,q⟩:=h;obtain⟨u,rfl,ru⟩:=vals1 r;cases ru;obtain⟨its,rv,pl,hz⟩:=I.list hq;have hlen:=rv.length;rw[cM]at hlen;refine sorted_strs pl.isList (Kc rv) 0x4 fun out ss' h1 h2 h3=>?_;obtain⟨e,he⟩:=sortedAll_at s.heap its out;have hle:ss'.length<64:=by rw[h2.length_eq];exact hl
 have new:dW X.prog X.w (upd H 0x11 (.lst (ss'.map V.str))) (sortedAll s.heap its out) 0x11 (.lst (ss'.map V.str)):=
  ⟨by rw[cM];exact A0z (A1P hle) 0x5,out.toList,e,qL h1,by rw[he]⟩
 exact⟨.ref 0x11,_,I.laid (t':=s.toks) (fun b o q=>sortedAll_old q) (A2i _) new,rfl,q _ ss' (I.hok.fresh (A2i _)) h2 h3⟩
section
variable{o:Obj}
def Inv.freeze(I:Inv X pins σ H s)(e:H a=some 0x16):∃o,Inv X pins σ (upd H a 0x5C) s/\∀o u,X.H₀ a≠some (.iY o u):=by
 obtain⟨z,hd,vs,rel,dd⟩:=pK I.hok e;obtain⟨o,es,ep,ho,r⟩:=id dd;refine⟨o,jE (t':=s.toks) I 0x5B (Heap.SameBut.refl a s.heap) ⟨o,ho⟩ ⟨ho,z,hd,vs,rel,dd⟩,fun o' u q=>?_⟩;have:=I.base.pP a o' u q;rw[e]at this;cases this
def Inv.thaw(I:Inv X pins σ H s)(e:H a=some 0x5C)(n:∀o u,X.H₀ a≠some (.iY o u)):Inv X pins σ (upd H a 0x16) s:=by
 have nn:∀{b},H b=none->b≠a:=fun q h=>by rw[h,e]at q;cases q
 have nt:∀{b xs},H b=some 0x23->b≠a:=fun q h=>by rw[h,e]at q;cases q
 have no:∀{b y},H b=some (.own y)->b≠a:=fun q h=>by rw[h,e]at q;cases q
 refine⟨I.ok,I.os,I.bare,⟨I.base.keep,I.base.slot,fun b ob q hb hx=>?_,I.base.there,fun b xs q=>?_,fun b ob u q=>?_,fun b ps q=>?_⟩,I.loc,I.cell,?_,fun x c q=>?_,fun p hp=>?_,fun b u q=>?_,I.len⟩
 ·have z:=I.base.free b ob q hb hx;rw[ak (nn z)];exact z
 ·have z:=I.base.tups b xs q;rw[ak (nt z)];exact z
 ·by_cases h:b=a
  ·subst h;exact absurd q (n ob u)
  ·rw[ak h];exact I.base.pP b ob u q
 ·obtain⟨more,z⟩:=I.base.rF b ps q;exact⟨more,by rw[ak (fun h=>by rw[h,e]at z;cases z)];exact z⟩
 ·rw[ak (nn I.free)];exact I.free
 ·rw[ak (nn (I.iZ x c q))];exact I.iZ x c q
 ·obtain⟨q1,q2,q3⟩:=I.pin p hp;exact⟨q1,by rw[ak (nn q2)];exact q2,q3⟩
 ·by_cases h:b=a
  ·subst h;rw[ao]at q;cases q;obtain⟨_,z⟩:=I.hok _ _ e;exact z.stay (fun _ _ _ q=>q) (fun c q=>by rw[ak (no q)];exact q) fun c xs q=>by rw[ak (nt q)];exact q
  ·rw[ak h]at q;exact(I.hok b u q).stay (fun _ _ _ q=>q) (fun c q=>by rw[ak (no q)];exact q) fun c xs q=>by rw[ak (nt q)];exact q
inductive a0U(t:TE)(σ:L2.St)(H:Hp)(Q:VK):Prop
 |mk(a:Addr)(kvs:List (Prod L2.Key V))(_:H a=some 0x16)(_:∀o,t σ (upd H a 0x5C) fun v H'=>H' a=some 0x5C/\Q v (upd H' a 0x16)):a0U t σ H Q
def zR{t:TE}(he:PE X e t):PE X e (a0U t):=by
 intro pins s σ H Q I ⟨a,kvs,ea,h⟩;obtain⟨o,I1,n⟩:=I.freeze ea;exact A1i (he pins s σ _ _ I1 (h o)) (fun v s' ⟨x,H',I',r,e',q⟩=>⟨x,_,I'.thaw e' n,r,q⟩) fun _ _ y=>y
def Itd(a:Addr)(o:Obj)(kvs:List 0x2B):It:=⟨fun i H=>H a=some 0x5C/\i<kvs.length,fun i H v H'=>H'=H/\∃kv,kvs[i]?=some kv/\v=kV kv.1,fun i H=>H a=some 0x5C/\kvs.length<=i⟩
def Rq{k:Key}(h:(bW P w).is k u=true):RelV (kV k) u:=by
 rcases dU (show uG k u=true from h)with⟨i,t,rfl,rfl⟩|⟨x,t,rfl,rfl⟩
 ·exact⟨t,rfl⟩
 ·exact⟨t,rfl⟩
def KV.at{κ:Type}:∀{kvs:List (κ×V)}{vs:List (κ×Value)},KV kvs vs->∀{i:Nat}{kv:κ×V},kvs[i]?=some kv->∃u,vs[i]?=some (kv.1,u)/\RelV kv.2 u:=by
 intro kvs vs r;unfold KV at r
 induction r with
 |nil=>intro i kv h;simp at h
 | @cons p q ps qs h t ih=>
  intro i kv hi;cases i with
  | zero=>
   simp only[A3x,Option.some.injEq]at hi;subst hi;obtain⟨q1,q2⟩:=q;obtain⟨h1,h2⟩:=h;simp only at h1;subst h1;exact⟨q2,rfl,h2⟩
  | succ j=>
   simp only[A2L]at hi ⊢;exact ih hi
def zT(I:Inv X pins σ H s)(e:H a=some 0x5C){es:Array DictEntry}(hd:o.data=.dict es ep):0x76=false/\∃vs,KV kvs vs/\s.heap.DictAt 0x56 a vs ep:=by
 obtain⟨ho,z,hs,vs,rel,o',es',ep',ho',r⟩:=I.hok _ _ e;rw[ho]at ho';cases ho';obtain⟨r1,r2,r3⟩:=r;rw[hd]at r2;injection r2 with q1 q2;subst q1 q2;exact⟨hs,vs,rel,o,es,ho,r1,hd,r3⟩
def Nk(it:Addr){es:Array DictEntry}(hd:o.data=.dict es ep):
  Turn P w K tg (Itd a o kvs) [it] it (fun i h=>h.IsKeyIter it a i kvs.length ep) where
 mem:=by simp
 obj:=fun i h st b hb=>by
  have e:b=it:=by simpa using hb
  subst e;obtain⟨ob,e,c,d⟩:=st;exact⟨ob,e,fun v z=>by rw[d]at z;cases z⟩
 keep:=fun i h h' st k=>by
  obtain⟨ob,e,r⟩:=st;exact⟨ob,k it 0xA ob e,r⟩
 item:=by
  intro X hP hw hK hc i pins s σ H E I hf st hg;subst hP hw hK;obtain⟨f0,f1,f2,f3,f4,f5⟩:=hf it 0xA;obtain⟨hg1,hg2⟩:=hg;obtain⟨hs,vs,rel,dat⟩:=zT I hg1 hd;have hl:kvs.length=vs.length:=rel.length;obtain⟨u,hu,ru⟩:=rel.at (lG hg2);rw[hl]at st;refine wpAny_pyNext_dict_item st dat hu fun key h' hkey hit' hsb=>?_;have I1:Inv X pins σ H {s with heap:=h'}:=I.turned (t':=s.toks) (fun b ob hb e=>hsb.extBut b ob hb e) f0 f1 f3 f4 f5;obtain⟨ob,e,cc,d⟩:=id hit';refine⟨_,rfl,Qg (s:={s with heap:=h'}) e cc d 0x5 ⟨kV (kvs[i]).1,H,I1,Rq hkey,⟨rfl,_,lG hg2,rfl⟩,?_,fun b hb=>(hf b hb).1⟩⟩;rw[hl];exact hit'
 done:=by
  intro X hP hw hK hc i pins s σ H E I hf st hg;subst hP hw hK;obtain⟨f0,f1,f2,f3,f4,f5⟩:=hf it 0xA;obtain⟨hg1,hg2⟩:=hg;obtain⟨hs,vs,rel,dat⟩:=zT I hg1 hd;have hl:kvs.length=vs.length:=rel.length;rw[hl]at st hg2;exact wpAny_pyNext_dict_end (I.ok.hd hc) st dat (List.getElem?_eq_none hg2) fun h' eb=>⟨rfl,I.turned (t':=s.toks) (fun b ob hb e=>eb b ob hb e) f0 f1 f3 f4 f5⟩
 self:=fun A i s Q E st h=>wpAny_pyIter_keyiter st h
inductive Kd(R:It->Hp->Prop)(x:V)(H1:Hp):Prop
 |mk(a:Addr)(o:Obj)(kvs:List 0x21)(_:x=.ref a)(_:H1 a=some 0x5C)(_:R (Itd a o kvs) H1):Kd R x H1
def Zw(tl:TE):TI:=fun σ H R=>tl σ H fun x H1=>Kd R x H1
def Ke{l:Expr}(hl:PE X l tl):PI X tg l (Zw tl):=by
 intro pins s σ H R I h;refine cP (hl pins s σ H _ I h) fun v s1 zq=>?_;obtain⟨x,H1,I1,r1,a,o,kvs,ex,ea,q⟩:=zq;subst ex;cases r1;obtain⟨ho,z,hs,vs,rel,o',es,ep,ho',hx,hdd,r⟩:=id (I1.hok _ _ ea);rw[ho]at ho';cases ho';have dat:s1.heap.DictAt 0x56 a vs ep:=⟨o,es,ho,hx,hdd,r⟩;have hlen:kvs.length=vs.length:=rel.length;refine wpAny_pyIter_dict hs dat ?_;refine⟨s1.heap.objs.size,[s1.heap.objs.size],_,_,H1,rfl,I1.kept (t':=s1.toks) fun b o e=>A0c _ e,Nk _ hdd,⟨_,A0x _ rfl,rfl,by rw[hlen];rfl⟩,fun b hb=>?_,q⟩;have e:b=s1.heap.objs.size:=by simpa using hb
 subst e;exact I1.zc 0x33 (I1.hok.fresh 0x33)
def Np{o:Obj}{D:Addr}{k:Nat}{Q:VK}(Pv:Nat->List V->Hp->Prop)(hl:∀i ys H,Pv i ys H->H a=some 0x5C)(h0:Pv 0 [] (upd H1 D 0x54))(hD:∀i ys H,Pv i ys H->H D=some 0x89)
  (hs:∀i ys H kv,kvs[i]?=some kv->Pv i ys H->CP D σ k ix g tt te (kV kv.1) ys H (Pv (i+1)))(hd:∀ys H,Pv kvs.length ys H->Q 0x4F H):pX (Itd a o kvs) D σ k ix g tt te Q H1:=
 zG (n:=kvs.length) (item:=fun i=>match kvs[i]? with|some kv=>kV kv.1|none=>.non) Pv (fun i ys H p=>⟨fun h=>⟨⟨hl i ys H p,h⟩,fun v H' y=>by
  obtain⟨e,kv,hc,rfl⟩:=y;exact⟨e,by rw[hc]⟩⟩,fun h=>⟨hl i ys H p,h⟩⟩) h0 hD (fun i ys H h p=>by
   have e:kvs[i]?=some kvs[i]:=lG h;simp only[e];exact hs i ys H _ e p) hd
end
end L2
namespace PySem
def lO:entryFor table "dict_itemiterator.__iter__"=some Builtin.«dict_keyiterator.__iter__»:=
 entryFor_alias (id':="dict_keyiterator.__iter__") (by kernel_rfl) rfl 0x7 (by kernel_rfl)
end PySem
namespace L2
open PySem PySem.Spec PyProof.Rows PySem.W
def Zx(a:Addr)(o:Obj)(kvs:List 0x2B):It:=⟨fun i H=>H a=some 0x5C/\i<kvs.length,fun i H v H'=>∃p kv,kvs[i]?=some kv/\v=.ref p/\H p=none/\H'=upd H p (.tup [kV kv.1,kv.2]),fun i H=>H a=some 0x5C/\kvs.length<=i⟩
section
variable{o:Obj}
def Gx(it:Addr){es:Array DictEntry}(hd:o.data=.dict es ep):
  Turn P w K (.Tuple elts x1 tp) (Zx a o kvs) [it] it (fun i h=>∃ok ov,IsItemIter h it a i kvs.length ep ok ov) where
 mem:=by simp
 obj:=fun i h ⟨ok,ov,st⟩ b hb=>by
  have e:b=it:=by simpa using hb
  subst e;exact⟨_,st,fun v z=>by cases z⟩
 keep:=fun i h h' ⟨ok,ov,st⟩ k=>⟨ok,ov,k it 0xA _ st⟩
 item:=by
  intro X hP hw hK hc i pins s σ H E I hf ⟨ok,ov,st⟩ hg;subst hP hw hK;obtain⟨hg1,hg2⟩:=hg;obtain⟨hs,vs,rel,dat⟩:=zT I hg1 hd;have hl:kvs.length=vs.length:=rel.length;obtain⟨u,hu,ru⟩:=rel.at (lG hg2);rw[hl]at st;refine wpAny_pyNext_items_item st dat hu fun key h' hkey ho hT hsz hk=>⟨_,rfl,wpAny_letOwnedTupleGo_items ho fun h2 he2 sb=>?_⟩;have hilt:it<s.heap.objs.size:=A0v st;have hT2:=sb.extBut _ _ (A3i hilt) hT;have kk:∀b ob,b∉[it]->s.heap.get? b=some ob->h2.get? b=some ob:=fun b ob hb q=>by
   have hb':b≠it:=by simpa using hb
   exact sb.extBut _ _ hb' (hk b ob hb' q)
  refine⟨.ref s.heap.objs.size,upd H s.heap.objs.size (.tup [kV (kvs[i]).1,(kvs[i]).2]),I.JK (t':=s.toks) hf kk 0x33 ⟨jL 0xA |> A1P,[key,u],.cons (Rq hkey) (.cons ru .nil),⟨_,hT2,rfl,_,rfl⟩⟩,rfl,⟨_,kvs[i],lG hg2,rfl,I.fresh,rfl⟩,?_,fun b hb=>?_⟩
  ·rw[hl];exact⟨_,_,he2⟩
  ·have e:b=it:=by simpa using hb
   subst e;rw[ak (A0M hilt)];exact(hf _ 0xA).1
 done:=by
  intro X hP hw hK hc i pins s σ H E I hf ⟨ok,ov,st⟩ hg;subst hP hw hK;obtain⟨f0,f1,f2,f3,f4,f5⟩:=hf it 0xA;obtain⟨hg1,hg2⟩:=hg;obtain⟨hs,vs,rel,dat⟩:=zT I hg1 hd;have hl:kvs.length=vs.length:=rel.length;rw[hl]at st hg2;exact wpAny_pyNext_items_end (I.ok.hd hc) st dat (List.getElem?_eq_none hg2) fun h' eb=>⟨rfl,I.turned (t':=s.toks) (fun b ob hb e=>eb b ob hb e) f0 f1 f3 f4 f5⟩
 self:=fun A i s Q E ⟨ok,ov,st⟩ h=>by
  have hT:s.TypeIs 0x88 "dict_itemiterator":=⟨_,st,rfl⟩;refine wpAny_pyIter_slot hT A3p (A2b A3p hT PySem.lO ?_ (PySem.F.args_dict_itemiterator_iter_1 _))
  show wpAny _ _ (ret 0x88) _ _ s
  exact A0n ⟨_,rfl,"dict_itemiterator",_,hT,PySem.F.slot_dict_itemiterator_next.lookup,h⟩
inductive Ds(R:It->Hp->Prop)(x:V)(H1:Hp):Prop
 |mk(a:Addr)(o:Obj)(kvs:List 0x21)(_:x=.ref a)(_:H1 a=some 0x5C)(_:R (Zx a o kvs) H1):Ds R x H1
def a0V(tl:TE):TI:=fun σ H R=>tl σ H fun x H1=>Ds R x H1
def v7{l:Expr}(hl:PE X l tl)(hbase:attributeBase l "items" X.env (eval l X.env)=eval l X.env:=by rfl)(hline:(apos.endLine==cpos.line)=true:=by rfl):
  PI X (.Tuple elts x1 tp) (.Call (.Attribute l "items" apos) [] [] cpos) (a0V tl):=by
 intro pins s σ H R I h;refine wpAny_Call_method0_late hbase hline (cP (hl pins s σ H _ I h) fun v s1 zq=>?_);obtain⟨x,H1,I1,r1,a,o,kvs,ex,ea,q⟩:=zq;subst ex;cases r1;obtain⟨ho,z,hs,vs,rel,o',es,ep,ho',hx,hdd,r⟩:=id (I1.hok _ _ ea);rw[ho]at ho';cases ho';have dat:s1.heap.DictAt 0x56 a vs ep:=⟨o,es,ho,hx,hdd,r⟩;have hT:s1.TypeIs 0x4E "dict":=dat.dictOf.typeIs;refine⟨"dict","dict.items",A2f,PySem.F.slot_dict_items,PySem.F.type_dict_items,hT,(fun b e=>by injection e with e;subst e;exact⟨o,ho,hx.2.1⟩),?_⟩;refine A1K rfl (PySem.evalArgs_none ?_);refine A2R PySem.F.slot_dict_items hT PySem.F.entry_dict_items (PySem.F.args_dict_items_1 _) (meets_dict_items 0x56 a hs) ⟨⟨vs,dat.dictOf⟩,?_⟩;have hlen:kvs.length=vs.length:=rel.length;have hne:a≠s1.heap.objs.size:=A0M dat.lt_size;have I2:Inv X pins σ H1 {s1 with heap:=s1.heap.push {cls:=.type "dict_items",data:=.fields #[.ref a]}}:=I1.kept (t':=s1.toks) fun b o e=>A0c _ e;have dat2:(s1.heap.push {cls:=.type "dict_items",data:=.fields #[.ref a]}).DictAt 0x56 a vs ep:=dat.at' fun o e=>A0c _ e
 show wpAny _ _ (pyIter (.ref s1.heap.objs.size)) _ _ _
 refine wpAny_pyIter_items (s:={s1 with heap:=s1.heap.push {cls:=.type "dict_items",data:=.fields #[.ref a]}}) ⟨_,A0x _ rfl,rfl,rfl⟩ dat2 ?_;refine⟨_,[_],_,_,H1,rfl,I2.kept (t':=s1.toks) fun b o e=>A0c _ e,Gx _ hdd,⟨_,_,by rw[hlen];exact A0x _ rfl⟩,fun b hb=>?_,q⟩;have e:=A0b.mp hb;subst e;exact I2.zc 0x33 (I2.hok.fresh 0x33)
def sW(h:H a=some 0x5C):(i<kvs.length->(Zx a o kvs).go i H/\∀v H',(Zx a o kvs).Pk i H v H'->∃p,v=.ref p/\H p=none/\H'=upd H p (.tup [(kvs.map fun kv=>kV kv.1).getD i .non,(kvs.map fun kv=>kv.2).getD i .non]))/\(kvs.length<=i->(Zx a o kvs).stop i H):=by
 refine⟨fun hi=>⟨⟨h,hi⟩,fun v H' ⟨p,kv,e1,e2,e3,e4⟩=>⟨p,e2,e3,?_⟩⟩,fun hi=>⟨h,hi⟩⟩;rw[e4,wR,wR,pF,pF,e1];rfl
end
end L2
namespace M
open PySem L2
def top(i:Nat):Stmt:=PySem.Challenge.pw_manrent_k20_courts_refused.main.body.getD i (.Pass ⟨0,0,0,0⟩)
abbrev Rr:Stmt:=inClass (top 23) 0
abbrev Gy:Stmt:=inClass (top 23) 1
abbrev zU:Stmt:=inClass (top 23) 3
abbrev Rt:Stmt:=inClass (top 23) 4
abbrev a0W:Stmt:=inClass (top 23) 5
abbrev Kf:Stmt:=inClass (top 23) 9
abbrev zV:Stmt:=inClass (top 23) 10
abbrev Gz:Stmt:=inClass (top 23) 12
abbrev v8:Stmt:=inClass (top 23) 13
abbrev zW:Stmt:=inClass (top 23) 14
abbrev Ru:Stmt:=inClass (top 23) 15
abbrev GC:Stmt:=inClass (top 23) 16
abbrev Rv:Stmt:=inClass (top 23) 17
abbrev GD:Stmt:=inClass (top 23) 18
abbrev a0X:Stmt:=inClass (top 23) 19
def aK{p:Addr}(h:H p=none)(o:HO):Same H (upd H p o):=fun b u q=>by rw[ak (au q h)];exact q
def bU{l:Addr}(s:Same H H2)(h:H l=none):Same H (upd H2 l o):=fun b u q=>by rw[ak (au q h)];exact s b u q
def small(h:n<=1000000):n<=sizeLine:=A0z h 0x5
def bO(h:n<1000000):n<sizeLine:=A0q h 0x5
def u1{k:Nat}(r:cG k A):A.units+1<cLine:=by have:=r.un;lia
structure fK(K:PySem.W.Frag)(C:Addr):Prop where
 cl:Cls K C
 n1:dZ K C "lord_of"
 n2:dZ K C "holder_of"
 n3:dZ K C "own_of"
 n4:dZ K C "service_of"
 n5:dZ K C "breadth_of"
abbrev F5(a1 a2 a3 a4 a5:Addr):List 0x81:=[("lord_of",.ref a1),("holder_of",.ref a2),("own_of",.ref a3),("service_of",.ref a4),("breadth_of",.ref a5)]
structure cA(C:Addr)(H:Hp)(x dx a1 a2 a3 a4 a5:Addr)(lo ho ow se br:List 0x2B):Prop where
 o:H x=some (.ins C dx (F5 a1 a2 a3 a4 a5))
 l1:H a1=some (.dK lo)
 l2:H a2=some (.dK ho)
 l3:H a3=some (.dK ow)
 l4:H a4=some (.dK se)
 l5:H a5=some (.dK br)
def cA.same{x a1 a2 a3 a4 a5:Addr}{lo se br:List 0x2B}(k:cA C H x dx a1 a2 a3 a4 a5 lo ho ow se br)(s:Same H H'):cA C H' x dx a1 a2 a3 a4 a5 lo ho ow se br:=⟨s _ _ k.o,s _ _ k.l1,s _ _ k.l2,s _ _ k.l3,s _ _ k.l4,s _ _ k.l5⟩
structure Rz(a1 a2 a3 a4 a5:Addr):Prop where
 n12:a1≠a2
 n13:a1≠a3
 n14:a1≠a4
 n15:a1≠a5
 n23:a2≠a3
 n24:a2≠a4
 n25:a2≠a5
 n34:a3≠a4
 n35:a3≠a5
 n45:a4≠a5
def gR{e:Str}(h:H a=some 0x16)(hv:bJ kvs 0x18=some v):dj H a (V.str e) (some v):=by
 have:=dj.k (k:=.inr e) h;rw[hv]at this;exact this
inductive oW(C:Addr)(vs:List V)(H:Hp)(Q:VK)(cH:XK):Prop
 |mk(x dx a1 a2 a3 a4 a5:Addr)(lo ho ow se br:List 0x21)(e:Str)(_:vs=[.ref x,.str e])(_:cA C H x dx a1 a2 a3 a4 a5 lo ho ow se br)(_:Q (.bl (bJ lo 0x18).isSome) H):oW C vs H Q cH
inductive lQ(C:Addr)(vs:List V)(H:Hp)(Q:VK)(cH:XK):Prop
 |mk(x dx a1 a2 a3 a4 a5:Addr)(lo ho ow se br:List 0x21)(e:Str)(_:vs=[.ref x,.str e])(_:cA C H x dx a1 a2 a3 a4 a5 lo ho ow se br)(_:(bJ lo 0x18).isSome=true)(_:Q .non H):lQ C vs H Q cH
inductive v9(C:Addr)(vs:List V)(H:Hp)(Q:VK)(cH:XK):Prop
 |mk(x dx a1 a2 a3 a4 a5:Addr)(lo ho ow se br:List 0x21)(e:Str)(v:V)(_:vs=[.ref x,.str e])(_:cA C H x dx a1 a2 a3 a4 a5 lo ho ow se br)(_:(bJ lo 0x18).isSome=true)(_:bJ ho 0x18=some v)(_:Q v H):v9 C vs H Q cH
inductive GJ(C:Addr)(vs:List V)(H:Hp)(Q:VK)(cH:XK):Prop
 |mk(x dx a1 a2 a3 a4 a5:Addr)(lo ho ow se br:List 0x21)(e:Str)(v:V)(_:vs=[.ref x,.str e])(_:cA C H x dx a1 a2 a3 a4 a5 lo ho ow se br)(_:(bJ lo 0x18).isSome=true)(_:bJ lo 0x18=some v)(_:Q v H):GJ C vs H Q cH
inductive RJ(C:Addr)(vs:List V)(H:Hp)(Q:VK)(cH:XK):Prop
 |mk(x dx a1 a2 a3 a4 a5:Addr)(lo ho ow se br:List 0x21)(e:Str)(v:V)(_:vs=[.ref x,.str e])(_:cA C H x dx a1 a2 a3 a4 a5 lo ho ow se br)(_:(bJ lo 0x18).isSome=true)(_:bJ ow 0x18=some v)(_:Q v H):RJ C vs H Q cH
inductive oA(C:Addr)(vs:List V)(H:Hp)(Q:VK)(cH:XK):Prop
 |mk(x dx a1 a2 a3 a4 a5:Addr)(lo ho ow se br:List 0x21)(e man:Str)(_:vs=[.ref x,.str e,.str man])(_:cA C H x dx a1 a2 a3 a4 a5 lo ho ow se br)(_:ho.length<=900)(_:Q .non (upd H a2 (.dK (putK ho 0x18 (.str man))))):oA C vs H Q cH
def rK(H:Hp)(a1 a2 a3 a4 a5:Addr)(lo ho ow se br:List 0x2B)(n:Str)(lord holder:Str)(acres:Int)(t:Addr):Hp:=
 upd (upd (upd (upd (upd H a1 (.dK (putK lo 0x15 (.str lord)))) a2 (.dK (putK ho 0x15 (.str holder)))) a3 (.dK (putK ow 0x15 (.int acres)))) a4 (.dK (putK se 0x15 0x58))) a5 (.dK (putK br 0x15 (.int acres)))
inductive Kg(C:Addr)(vs:List V)(H:Hp)(Q:VK)(cH:XK):Prop
 |mk(x dx a1 a2 a3 a4 a5:Addr)(lo ho ow se br:List 0x21)(n lord holder:Str)(acres:Int)(t:Addr)(_:vs=[.ref x,.str n,.str lord,.str holder,.int acres,.ref t])(_:cA C H x dx a1 a2 a3 a4 a5 lo ho ow se br)(_:Rz a1 a2 a3 a4 a5)(_:lo.length<=900)(_:ho.length<=900)(_:ow.length<=900)(_:se.length<=900)(_:br.length<=900)(_:Q .non (rK H a1 a2 a3 a4 a5 lo ho ow se br n lord holder acres t)):Kg C vs H Q cH
section
def Xi:aP A5c A5c (aJ Gy):=0x0
def RK(T:fK K C)(F:fj K "there" "Land.there" Gy f fd):aL P w K mg base bL 1 f fd A5c (oW C):=by
 refine F.ok Xi 0x1 0x3;obtain⟨x,dx,a1,a2,a3,a4,a5,lo,ho,ow,se,br,e,rfl,L,k⟩:=h;refine⟨_,aG (aZ (Q9 (uY 0x17 0xF 0xB) 0x12)),?_⟩;exact⟨_,rfl,_,rfl,x,C,dx,_,_,rfl,L.o,T.cl,T.n1,rfl,a1,_,rfl,dj.k (k:=.inr e) L.l1,k⟩
def RN:aP A5c A5c (aJ GD):=0x0
def Nq(T:fK K C)(F:fj K "check_there" "Land.check_there" GD f fd)(G1:aL P w K mg base bL 1 g1 d1 A5c (oW C))(m1:Meth K C "there" g1)(b1:Binds K d1 A5c []):aL P w K mg base bL 2 f fd A5c (lQ C):=by
 refine F.ok RN 0x1 0x3;obtain⟨x,dx,a1,a2,a3,a4,a5,lo,ho,ow,se,br,e,rfl,L,he,k⟩:=h;refine⟨_,aG (bK (ig (dJ 0x63)) cD aR),?_⟩;refine⟨_,rfl,x,dx,_,rfl,L.o,rfl,_,rfl,x,dx,a1,a2,a3,a4,a5,lo,ho,ow,se,br,e,rfl,L,_,rfl,?_⟩;rw[he];exact cg k
def RP:aP A5c A5c (aJ zU):=0x0
def Nr(T:fK K C)(F:fj K "holder" "Land.holder" zU f fd)(G1:aL P w K mg base bL 2 g1 d1 A5c (lQ C))(m1:Meth K C "check_there" g1)(b1:Binds K d1 A5c []):aL P w K mg base bL 3 f fd A5c (v9 C):=by
 refine F.ok RP 0x1 0x3;obtain⟨x,dx,a1,a2,a3,a4,a5,lo,ho,ow,se,br,e,v,rfl,L,he,hv,k⟩:=h;refine⟨_,aq (bM 0x63) (aG (aZ 0x73)),?_⟩;refine⟨_,rfl,x,dx,_,rfl,L.o,rfl,_,rfl,x,dx,a1,a2,a3,a4,a5,lo,ho,ow,se,br,e,rfl,L,he,?_⟩;exact⟨_,rfl,x,C,dx,_,_,rfl,L.o,T.cl,T.n2,rfl,_,rfl,_,v,rfl,gR L.l2 hv,k⟩
def a0Y:aP A5c A5c (aJ Rt):=0x0
def Xj(T:fK K C)(F:fj K "lord" "Land.lord" Rt f fd)(G1:aL P w K mg base bL 2 g1 d1 A5c (lQ C))(m1:Meth K C "check_there" g1)(b1:Binds K d1 A5c []):aL P w K mg base bL 3 f fd A5c (GJ C):=by
 refine F.ok a0Y 0x1 0x3;obtain⟨x,dx,a1,a2,a3,a4,a5,lo,ho,ow,se,br,e,v,rfl,L,he,hv,k⟩:=h;refine⟨_,aq (bM 0x63) (aG (aZ 0x73)),?_⟩;refine⟨_,rfl,x,dx,_,rfl,L.o,rfl,_,rfl,x,dx,a1,a2,a3,a4,a5,lo,ho,ow,se,br,e,rfl,L,he,?_⟩;exact⟨_,rfl,x,C,dx,_,_,rfl,L.o,T.cl,T.n1,rfl,_,rfl,_,v,rfl,gR L.l1 hv,k⟩
def a2O:aP A5c A5c (aJ a0W):=0x0
def a0Z(T:fK K C)(F:fj K "own" "Land.own" a0W f fd)(G1:aL P w K mg base bL 2 g1 d1 A5c (lQ C))(m1:Meth K C "check_there" g1)(b1:Binds K d1 A5c []):aL P w K mg base bL 3 f fd A5c (RJ C):=by
 refine F.ok a2O 0x1 0x3;obtain⟨x,dx,a1,a2,a3,a4,a5,lo,ho,ow,se,br,e,v,rfl,L,he,hv,k⟩:=h;refine⟨_,aq (bM 0x63) (aG (aZ 0x73)),?_⟩;refine⟨_,rfl,x,dx,_,rfl,L.o,rfl,_,rfl,x,dx,a1,a2,a3,a4,a5,lo,ho,ow,se,br,e,rfl,L,he,?_⟩;exact⟨_,rfl,x,C,dx,_,_,rfl,L.o,T.cl,T.n3,rfl,_,rfl,_,v,rfl,gR L.l3 hv,k⟩
def RQ:aP A5y A5y (aJ zW):=0x0
def Nt(T:fK K C)(F:fj K "convey" "Land.convey" zW f fd):aL P w K mg base bL 1 f fd A5y (oA C):=by
 refine F.ok RQ 0x1 0x3;obtain⟨x,dx,a1,a2,a3,a4,a5,lo,ho,ow,se,br,e,man,rfl,L,hl,k⟩:=h;refine⟨_,aG (cQ 0x17 0xB 0xF 0x3B rfl),?_⟩;exact⟨_,rfl,_,rfl,x,C,dx,_,_,rfl,L.o,T.cl,T.n2,rfl,_,rfl,a2,_,rfl,gK.k (k:=.inr e) L.l2 0x85,k⟩
def a2P:aP A5i A5i (aJ a0X):=0x0
def a00(T:fK K C)(F:fj K "add_estate" "Land.add_estate" a0X f fd):aL P w K mg base bL 1 f fd A5i (Kg C):=by
 refine F.ok a2P 0x1 0x3;obtain⟨x,dx,a1,a2,a3,a4,a5,lo,ho,ow,se,br,n,lord,holder,acres,t,rfl,L,ap,e1,e2,e3,e4,e5,k⟩:=h;refine⟨_,aq (cQ 0x17 0xB 0xF 0x3B rfl) (aq (cQ 0x17 0xB 0xF 0x52 rfl) (aq (cQ 0x17 0xB 0xF (pv 4) rfl)
  (aq (cQ 0x17 0xB 0xF (pv 5) rfl) (aG (cQ 0x17 0xB 0xF (pv 4) rfl))))),?_⟩
 have x1:=aO L.o L.l1 0xC;have x2:=aO L.o L.l2 0xC;have x3:=aO L.o L.l3 0xC;have x4:=aO L.o L.l4 0xC;refine⟨_,rfl,_,rfl,x,C,dx,_,_,rfl,L.o,T.cl,T.n1,rfl,_,rfl,a1,_,rfl,gK.k (k:=.inr n) L.l1 0x85,?_⟩;refine⟨_,rfl,_,rfl,x,C,dx,_,_,rfl,by rw[ak x1];exact L.o,T.cl,T.n2,rfl,_,rfl,a2,_,rfl,gK.k (k:=.inr n) (by rw[ak (A0m ap.n12)];exact L.l2) 0x85,?_⟩;refine⟨_,rfl,_,rfl,x,C,dx,_,_,rfl,by rw[ak x2,ak x1];exact L.o,T.cl,T.n3,rfl,_,rfl,a3,_,rfl,gK.k (k:=.inr n) (by rw[ak (A0m ap.n23),ak (A0m ap.n13)];exact L.l3) 0x85,?_⟩;refine⟨_,rfl,_,rfl,x,C,dx,_,_,rfl,by rw[ak x3,ak x2,ak x1];exact L.o,T.cl,T.n4,rfl,_,rfl,a4,_,rfl,gK.k (k:=.inr n) (by rw[ak (A0m ap.n34),ak (A0m ap.n24),ak (A0m ap.n14)];exact L.l4) 0x85,?_⟩;exact⟨_,rfl,_,rfl,x,C,dx,_,_,rfl,by rw[ak x4,ak x3,ak x2,ak x1];exact L.o,T.cl,T.n5,rfl,_,rfl,a5,_,rfl,gK.k (k:=.inr n) (by rw[ak (A0m ap.n45),ak (A0m ap.n35),ak (A0m ap.n25),ak (A0m ap.n15)];exact L.l5) 0x85,k⟩
open PyProof.Rows
def mQ(kv:Key×V):Str:=match kv.1 with
 | .inr s=>s
 | .inl _=>""
def TK(kvs:List 0x2B):Prop:=∀kv∈kvs,kV kv.1=V.str (mQ kv)
def TV(kvs:List 0x2B):Prop:=∀kv∈kvs,kv.2=.non\/∃s,kv.2=.str s
def oX{p:Key×V->Bool}{kv:Key×V}(h:kvs[i]?=some kv):((kvs.take (i+1)).filter p).map (fun kv=>V.str (mQ kv))=((kvs.take i).filter p).map (fun kv=>V.str (mQ kv))++(if p kv=true then[V.str (mQ kv)]else[]):=by
 rw[A1e,h,A2T,j9]
 congr 1
 cases e:p kv<;>simp[e]
def Dt{p:Key×V->Bool}(h:kvs.length<=n):(((kvs.take i).filter p).map (fun kv=>V.str (mQ kv))).length<=n:=by
 rw[cM];have:=A0N p (kvs.take i);rw[A0H]at this;lia
def strs_map(l:List 0x2B):l.map (fun kv=>V.str (mQ kv))=(l.map mQ).map V.str:=by rw[A0T];rfl
def gZ{x y:Str}:decide (V.str x=V.str y)=decide (x=y):=A3S.mpr ⟨fun e=>by injection e,fun e=>by rw[e]⟩
inductive zX(C:Addr)(vs:List V)(H:Hp)(Q:VK)(cH:XK):Prop
 |mk(x dx a1 a2 a3 a4 a5:Addr)(lo ho ow se br:List (Prod L2.Key V))(man:Str)(_:vs=[.ref x,.str man])(_:cA C H x dx a1 a2 a3 a4 a5 lo ho ow se br)(_:TK ho)(_:TV ho)(_:ho.length<64)(_:∀r ss H',Same H H'->H r=none->H' r=some 0x35->ss.Perm ((ho.filter fun kv=>decide (kv.2=.str man)).map mQ)->sortedS ss=true->Q 0x60 H'):zX C vs H Q cH
inductive zY(C:Addr)(vs:List V)(H:Hp)(Q:VK)(cH:XK):Prop
 |mk(x dx a1 a2 a3 a4 a5:Addr)(lo ho ow se br:List (Prod L2.Key V))(e:Str)(_:vs=[.ref x,.str e])(_:cA C H x dx a1 a2 a3 a4 a5 lo ho ow se br)(_:(bJ lo 0x18).isSome=true)(_:TK lo)(_:TV lo)(_:lo.length<64)(_:∀r ss H',Same H H'->H r=none->H' r=some 0x35->ss.Perm ((lo.filter fun kv=>decide (kv.2=.str e)).map mQ)->sortedS ss=true->Q 0x60 H'):zY C vs H Q cH
def rM{Hz:Hp}{o:Obj}(h:H a=some 0x16)(s:Same (upd H a 0x5C) Hz):Same H (upd Hz a 0x16):=fun b u q=>by
 by_cases e:b=a
 ·subst e;rw[h]at q;cases q;exact ao
 ·rw[ak e];exact s b u (by rw[ak e];exact q)
def a01:aP A5h A5h (aJ Kf):=0x0
def a2Q:Scope:={kind:=.function,names:=[(".0",.local),("name",.local),("holder",.local),("man",.free)],isGenerator:=false,isCoroutine:=false}
def a2R:iw A5h (aJ Kf) a2Q ["name","holder"] ["man"] [1]:=0xE
def Zy:((["name","holder"]:List Str)++(["man"]:List Str)).Nodup:=by decide+kernel
def zZ{α:Type}{g:Key×V->α}{d:α}{kv:Key×V}(h:kvs[i]?=some kv):(kvs.map g).getD i d=g kv:=by rw[wR,pF,h];rfl
def Xk(T:fK K C)(ms:mg "sorted"=none)(F:fj K "held" "Land.held" Kf f fd):aL P w K mg base bL 1 f fd A5h (zX C):=by
 refine F.ok a01 0x1 0x3;obtain⟨x,dx,a1,a2,a3,a4,a5,lo,ho,ow,se,br,man,rfl,L,tk,tv,hl,k⟩:=h;refine⟨_,aG (aZ (bH iM rfl ms jM (aj (zR (kI rfl a2R (v7 0xB) (fun s H fp C'=>⟨zL (K:=K) (n:=2) rfl (bR (bB (i:=0) Zy rfl 0x8) (bR (bB (i:=1) Zy rfl 0x8) gJ)),kE (aU fJ 0xF 0x3B 0x61),pv 0⟩))) aC))),?_⟩;have nx:=aO L.o L.l2 0xC;refine⟨a2,ho,L.l2,fun o=>⟨_,rfl,x,C,dx,_,_,rfl,by rw[ak nx];exact L.o,T.cl,T.n2,rfl,a2,o,ho,rfl,ao,fun D hD=>?_⟩⟩;have nD:a2≠D:=au (show(upd H a2 (.iY o (.dK ho))) a2=some (.iY o (.dK ho))from ao) hD
 refine uV (n:=ho.length) (fx:=fun i=>(ho.map fun kv=>kV kv.1).getD i .non) (fy:=fun i=>(ho.map fun kv=>kv.2).getD i .non) (fun i ys Hz=>ys=((ho.take i).filter fun kv=>decide (kv.2=.str man)).map (fun kv=>V.str (mQ kv))/\Same (upd H a2 (.iY o (.dK ho))) Hz/\Hz D=some 0x89)
  (fun i ys Hz h=>sW (h.2.1 _ _ ao)) ⟨rfl,aK hD _,ao⟩ (fun i ys Hz h=>h.2.2) ?_ ?_
 ·rintro i ys Hz p hi ⟨rfl,sz,mU⟩ hp;have hkv:ho[i]?=some ho[i]:=lG hi;rw[zZ hkv,zZ hkv];have hm:=A0U hi;rw[tk _ hm];have npD:D≠p:=au mU hp;have sp:=aK hp (.tup [V.str (mQ ho[i]),(ho[i]).2]);refine⟨p,_,rfl,bN.of ao,rfl,_,_,rfl,_,_,rfl,rfl,Kp.set rfl (Kp.set rfl (Kp.refl _)),?_⟩;have hsc:Qi (ho[i]).2 (V.str man)=true:=by
   rcases tv _ hm with e|⟨z,e⟩<;>rw[e]<;>rfl
  refine⟨_,rfl,_,rfl,hsc,_,rfl,?_⟩;refine iu 0x3C 0x3C
  ·refine⟨_,rfl,sp _ _ mU,A0O (Dt (A1P hl)) 0x5,?_,bU (sz.trans sp) hD,ao⟩;rw[oX hkv,A0i c]
  ·refine⟨?_,sz.trans sp,sp _ _ mU⟩;rw[oX hkv,A0f c,A1t]
 ·rintro ys Hz ⟨rfl,sz,mU⟩;rw[A1f]at mU;refine⟨sz _ _ ao,?_⟩;have s2:=rM L.l2 sz;have hDt:(upd Hz a2 (.dK ho)) D=some (.lst (((ho.filter fun kv=>decide (kv.2=.str man)).map mQ).map V.str)):=by rw[ak (A0m nD),mU,strs_map]
  refine⟨D,_,rfl,bY.of hDt,?_,fun l ss hl0 hp hs=>?_⟩
  ·rw[cM];exact A0O (A0N _ _) hl
  ·exact k l ss _ (bU s2 (s2.free hl0)) (s2.free hl0) ao hp hs
def scUn:aP A5c A5c (aJ zV):=0x0
def a2S:Scope:={kind:=.function,names:=[(".0",.local),("name",.local),("lord",.local),("estate",.free)],isGenerator:=false,isCoroutine:=false}
def a2T:iw A5c (aJ zV) a2S ["name","lord"] ["estate"] [1]:=0xE
def Zz:((["name","lord"]:List Str)++(["estate"]:List Str)).Nodup:=by decide+kernel
def RT(T:fK K C)(ms:mg "sorted"=none)(F:fj K "under" "Land.under" zV f fd)(G1:aL P w K mg base bL 2 g1 d1 A5c (lQ C))(m1:Meth K C "check_there" g1)(b1:Binds K d1 A5c []):aL P w K mg base bL 3 f fd A5c (zY C):=by
 refine F.ok scUn 0x1 0x3;obtain⟨x,dx,a1,a2,a3,a4,a5,lo,ho,ow,se,br,man,rfl,L,he,tk,tv,hl,k⟩:=h;refine⟨_,aq (bM 0x63) (aG (aZ (bH iM rfl ms jM (aj (zR (kI rfl a2T (v7 0xB) (fun s H fp C'=>⟨zL (K:=K) (n:=2) rfl (bR (bB (i:=0) Zz rfl 0x8) (bR (bB (i:=1) Zz rfl 0x8) gJ)),kE (aU fJ 0xF 0x3B 0x61),pv 0⟩))) aC)))),?_⟩;refine⟨_,rfl,x,dx,_,rfl,L.o,rfl,_,rfl,x,dx,a1,a2,a3,a4,a5,lo,ho,ow,se,br,man,rfl,L,he,?_⟩;have nx:=aO L.o L.l1 0xC;refine⟨a1,lo,L.l1,fun o=>⟨_,rfl,x,C,dx,_,_,rfl,by rw[ak nx];exact L.o,T.cl,T.n1,rfl,a1,o,lo,rfl,ao,fun D hD=>?_⟩⟩;have nD:a1≠D:=au (show(upd H a1 (.iY o (.dK lo))) a1=some (.iY o (.dK lo))from ao) hD
 refine uV (n:=lo.length) (fx:=fun i=>(lo.map fun kv=>kV kv.1).getD i .non) (fy:=fun i=>(lo.map fun kv=>kv.2).getD i .non) (fun i ys Hz=>ys=((lo.take i).filter fun kv=>decide (kv.2=.str man)).map (fun kv=>V.str (mQ kv))/\Same (upd H a1 (.iY o (.dK lo))) Hz/\Hz D=some 0x89)
  (fun i ys Hz h=>sW (h.2.1 _ _ ao)) ⟨rfl,aK hD _,ao⟩ (fun i ys Hz h=>h.2.2) ?_ ?_
 ·rintro i ys Hz p hi ⟨rfl,sz,mU⟩ hp;have hkv:lo[i]?=some lo[i]:=lG hi;rw[zZ hkv,zZ hkv];have hm:=A0U hi;rw[tk _ hm];have npD:D≠p:=au mU hp;have sp:=aK hp (.tup [V.str (mQ lo[i]),(lo[i]).2]);refine⟨p,_,rfl,bN.of ao,rfl,_,_,rfl,_,_,rfl,rfl,Kp.set rfl (Kp.set rfl (Kp.refl _)),?_⟩;have hsc:Qi (lo[i]).2 (V.str man)=true:=by
   rcases tv _ hm with e|⟨z,e⟩<;>rw[e]<;>rfl
  refine⟨_,rfl,_,rfl,hsc,_,rfl,?_⟩;refine iu 0x3C 0x3C
  ·refine⟨_,rfl,sp _ _ mU,A0O (Dt (A1P hl)) 0x5,?_,bU (sz.trans sp) hD,ao⟩;rw[oX hkv,A0i c]
  ·refine⟨?_,sz.trans sp,sp _ _ mU⟩;rw[oX hkv,A0f c,A1t]
 ·rintro ys Hz ⟨rfl,sz,mU⟩;rw[A1f]at mU;refine⟨sz _ _ ao,?_⟩;have s2:=rM L.l1 sz;have hDt:(upd Hz a1 (.dK lo)) D=some (.lst (((lo.filter fun kv=>decide (kv.2=.str man)).map mQ).map V.str)):=by rw[ak (A0m nD),mU,strs_map]
  refine⟨D,_,rfl,bY.of hDt,?_,fun l ss hl0 hp hs=>?_⟩
  ·rw[cM];exact A0O (A0N _ _) hl
  ·exact k l ss _ (bU s2 (s2.free hl0)) (s2.free hl0) ao hp hs
inductive tW(C:Addr)(vs:List V)(H:Hp)(Q:VK)(cH:XK):Prop
 |mk(x dx a1 a2 a3 a4 a5:Addr)(lo ho ow se br:List 0x21)(e n man:Str)(acres service own:Int)(_:vs=[.ref x,.str e,.str n,.str man,.int acres,.int service])(_:cA C H x dx a1 a2 a3 a4 a5 lo ho ow se br)(_:Rz a1 a2 a3 a4 a5)(_:bJ ow 0x18=some (.int own))(_:lo.length<=900)(_:ho.length<=900)(_:ow.length<=800)(_:se.length<=900)(_:br.length<=900)(_:∀t,H t=none->Q .non (rK (upd (upd H a3 (.dK 0x1F)) t (.tup [.int service,.int 1])) a1 a2 a3 a4 a5 lo ho 0x1F se br n e man acres t)):tW C vs H Q cH
def moved(lo:List 0x2B)(ss:List Str)(p:Str):List 0x2B:=ss.foldl (fun acc n=>putK acc 0x15 (.str p)) lo
def vf(lo:List 0x2B)(ss:List Str)(n p:Str):moved lo (ss++[n]) p=putK (moved lo ss p) 0x15 (.str p):=by
 unfold moved;rw[List.foldl_append];rfl
def yw(lo:List 0x2B)(p:Str)(ss:List Str):(moved lo ss p).length<=lo.length+ss.length:=by
 unfold moved
 induction ss generalizing lo with
 |nil=>exact A0g _
 | cons n r ih=>
  rw[A1c,wO];have h1:=ih (putK lo 0x15 (.str p));have h2:=cB lo 0x15 (.str p);lia
inductive vm(C:Addr)(vs:List V)(H:Hp)(Q:VK)(cH:XK):Prop
 |mk(x dx a1 a2 a3 a4 a5:Addr)(lo ho ow se br:List (Prod L2.Key V))(e p:Str)(own1 Aa:Int)(_:vs=[.ref x,.str e])(_:cA C H x dx a1 a2 a3 a4 a5 lo ho ow se br)(_:Rz a1 a2 a3 a4 a5)(_:bJ lo 0x18=some (.str p))(_:bJ ow 0x18=some (.int own1))(_:bJ ow (.inr p)=some (.int Aa))(_:(bJ ho 0x18).isSome=true)(_:(bJ se 0x18).isSome=true)(_:(bJ br 0x18).isSome=true)(_:TK lo)(_:TV lo)(_:lo.length<64)(_:ow.length<=800)(_:∀ss H',ss.Perm ((lo.filter fun kv=>decide (kv.2=.str e)).map mQ)->(bJ (moved lo ss p) 0x18).isSome=true->cA C H' x dx a1 a2 a3 a4 a5 (jk (moved lo ss p) 0x18) (jk ho 0x18) (jk (putK ow (.inr p) (.int (Aa+own1))) 0x18) (jk se 0x18) (jk br 0x18)->(∀c o,c≠a1->c≠a2->c≠a3->c≠a4->c≠a5->H c=some o->H' c=some o)->Q .non H'):vm C vs H Q cH
def GK{lo:List 0x2B}{k:Key}(h:(bJ lo k).isSome=true):∀ss:List Str,(bJ (moved lo ss p) k).isSome=true:=by
 intro ss;unfold moved
 induction ss generalizing lo with
 |nil=>exact h
 | cons n r ih=>
  rw[A1c];refine ih ?_;rw[bI]
  by_cases q:k=.inr n
  ·rw[A0i q];rfl
  ·rw[A0f q];exact h
def Xl:aP A5m A5m (aJ Gz):=0x0
def RV(T:fK K C)(F:fj K "grant" "Land.grant" Gz f fd)(G1:aL P w K mg base bL 1 g1 d1 A5i (Kg C))(m1:Meth K C "add_estate" g1)(b1:Binds K d1 A5i []):
  aL P w K mg base bL 2 f fd A5m (tW C):=by
 refine F.ok Xl 0x1 0x3;obtain⟨x,dx,a1,a2,a3,a4,a5,lo,ho,ow,se,br,e,n,man,acres,service,own,rfl,L,ap,hn,e1,e2,e3,e4,e5,k⟩:=h;refine⟨_,aq (oV 0x17 0xB 0xF (pv 4) zj (fun _ _ _=>rfl))
  (aG (bM (bZ 0x32 T.cl m1 G1 hr b1 .nil bC (aj 0x3B (aj 0xF (aj 0x52 (aj (pv 4) (aj (cu (aj (pv 5) (aj aA aC))) aC)))))))),?_⟩
 refine⟨_,rfl,x,C,dx,_,_,rfl,L.o,T.cl,T.n3,rfl,_,rfl,a3,_,rfl,gR L.l3 hn,_,rfl,_,_,rfl,rfl,_,gK.k (k:=.inr e) L.l3 0x85,?_⟩;have L1:cA C (upd H a3 (.dK 0x1F)) x dx a1 a2 a3 a4 a5 lo ho 0x1F se br:=
  ⟨by rw[ak (aO L.o L.l3 0xC)];exact L.o,by rw[ak ap.n13];exact L.l1,by rw[ak ap.n23];exact L.l2,ao,by rw[ak (A0m ap.n34)];exact L.l4,by rw[ak (A0m ap.n35)];exact L.l5⟩
 refine⟨_,rfl,x,dx,_,rfl,L1.o,rfl,_,rfl,_,rfl,_,rfl,_,rfl,_,rfl,small 0xA,fun t ht=>?_⟩;have nt:t≠a3:=fun q=>by rw[q,ao]at ht;cases ht
 have ht0:H t=none:=by rw[ak nt]at ht;exact ht
 have hl:=cB ow 0x18 (.int (own-acres));exact⟨x,dx,a1,a2,a3,a4,a5,lo,ho,_,se,br,n,e,man,acres,t,rfl,L1.same (aK ht _),ap,e1,e2,by lia,e4,e5,k t ht0⟩
def GP:aP ["self","estate","lord","name"] A5c (aJ Ru):=0x0
def Xm(T:fK K C)(F:fj K "fall_back" "Land.fall_back" Ru f fd)(G1:aL P w K mg base bL 3 g1 d1 A5c (zY C))(m1:Meth K C "under" g1)(b1:Binds K d1 A5c []):
  aL P w K mg base bL 4 f fd A5c (vm C):=by
 refine F.ok GP 0x1 0x3;obtain⟨x,dx,a1,a2,a3,a4,a5,lo,ho,ow,se,br,e,p,own1,Aa,rfl,L,ap,hlo,ho1,ho2,hh,hse,hbr,tk,tv,hl,how,k⟩:=h;refine⟨_,aq (aV (i:=2) GP.nd rfl 0x8 0x73)
  (aq (oV 0x17 0xB 0x3B 0x73 Qs (fun _ _ _=>rfl))
  (aq (gF A0Q rfl (fu 0x63) (bB (i:=3) GP.nd rfl 0x8) (aG (cQ 0x17 0xB 0x52 0x3B rfl)))
  (aq (qH 0xB 0xF) (aq (qH 0xB 0xF) (aq (qH 0xB 0xF) (aq (qH 0xB 0xF) (aG (qH 0xB 0xF)))))))),?_⟩
 refine⟨_,rfl,x,C,dx,_,_,rfl,L.o,T.cl,T.n1,rfl,_,rfl,_,_,rfl,gR L.l1 hlo,?_⟩;refine⟨_,rfl,x,C,dx,_,_,rfl,L.o,T.cl,T.n3,rfl,_,rfl,a3,_,rfl,gR L.l3 ho2,_,rfl,x,C,dx,_,_,rfl,L.o,T.cl,T.n3,rfl,_,rfl,_,_,rfl,gR L.l3 ho1,_,_,rfl,rfl,_,gK.k (k:=.inr p) L.l3 0x85,?_⟩;have L1:cA C (upd H a3 (.dK (putK ow (.inr p) (.int (Aa+own1))))) x dx a1 a2 a3 a4 a5 lo ho (putK ow (.inr p) (.int (Aa+own1))) se br:=
  ⟨by rw[ak (aO L.o L.l3 0xC)];exact L.o,by rw[ak ap.n13];exact L.l1,by rw[ak ap.n23];exact L.l2,ao,by rw[ak (A0m ap.n34)];exact L.l4,by rw[ak (A0m ap.n35)];exact L.l5⟩
 have BZ:∀c o,c≠a3->H c=some o->(upd H a3 (.dK (putK ow (.inr p) (.int (Aa+own1))))) c=some o:=fun c o hc q=>by rw[ak hc];exact q
 have hown:(bJ (putK ow (.inr p) (.int (Aa+own1))) 0x18).isSome=true:=by
  rw[bI]
  by_cases q:(Sum.inr e:Key)=.inr p
  ·rw[A0i q];rfl
  ·rw[A0f q,ho1];rfl
 generalize upd H a3 (.dK (putK ow (.inr p) (.int (Aa+own1))))=H1 at L1 BZ ⊢;generalize putK ow (.inr p) (.int (Aa+own1))=ow1 at L1 hown k ⊢;refine⟨_,rfl,x,dx,_,rfl,L1.o,rfl,_,rfl,x,dx,a1,a2,a3,a4,a5,lo,ho,ow1,se,br,e,rfl,L1,by rw[hlo];rfl,tk,tv,hl,fun r ss H2 s2 hr0 hr2 hp hs=>?_⟩;have hsl:ss.length<=lo.length:=by
  rw[hp.length_eq,cM];exact A0N _ _
 have L2:=L1.same s2;refine⟨r,rfl,⟨_,bY.of hr2⟩,gA (K:=K) (a:=r) (xs:=ss.map V.str) (fun i σ Hx=>(∃u3,σ=[some (.ref x),some (.str e),some (.str p),u3])/\Hx r=some 0x35/\cA C Hx x dx a1 a2 a3 a4 a5 (moved lo (ss.take i) p) ho ow1 se br/\∀c o,c≠a1->H1 c=some o->Hx c=some o)
  ⟨⟨none,rfl⟩,hr2,L2,fun c o _ q=>s2 c o q⟩ (fun i σ Hx _ h=>bY.of h.2.1) ?_ ?_⟩
 ·rintro i v σ Hx hv ⟨⟨u3,rfl⟩,rx,Lx,fx⟩;rw[pF]at hv;obtain⟨n,hn,rfl⟩:=A0J.mp hv;have hml:=yw lo p (ss.take i);rw[A0H]at hml;refine⟨_,rfl,_,rfl,x,C,dx,_,_,rfl,Lx.o,T.cl,T.n1,rfl,_,rfl,a1,_,rfl,gK.k (k:=.inr n) Lx.l1 0x85,?_⟩;have em:moved lo (ss.take (i+1)) p=putK (moved lo (ss.take i) p) 0x15 (.str p):=by rw[A1e,hn];exact vf _ _ _ _
  refine⟨⟨_,rfl⟩,by rw[ak (aO rx Lx.l1 0xC)];exact rx,⟨by rw[ak (aO Lx.o Lx.l1 0xC)];exact Lx.o,by rw[em];exact ao,by rw[ak (A0m ap.n12)];exact Lx.l2,by rw[ak (A0m ap.n13)];exact Lx.l3,by rw[ak (A0m ap.n14)];exact Lx.l4,by rw[ak (A0m ap.n15)];exact Lx.l5⟩,fun c o hc q=>by rw[ak hc];exact fx c o hc q⟩
 ·rintro σ Hx ⟨⟨u3,rfl⟩,rx,Lx,fx⟩;rw[cM,A1f]at Lx;have hmv:=GK (p:=p) (show(bJ lo 0x18).isSome=true by rw[hlo];rfl) ss
  have x1:=aO Lx.o Lx.l1 0xC;have x2:=aO Lx.o Lx.l2 0xC;have x3:=aO Lx.o Lx.l3 0xC;have x4:=aO Lx.o Lx.l4 0xC;have x5:=aO Lx.o Lx.l5 0xC;refine⟨_,rfl,x,C,dx,_,_,rfl,Lx.o,T.cl,T.n1,rfl,_,rfl,a1,_,.inr e,rfl,Lx.l1,rfl,hmv,?_⟩;refine⟨_,rfl,x,C,dx,_,_,rfl,by rw[ak x1];exact Lx.o,T.cl,T.n2,rfl,_,rfl,a2,_,.inr e,rfl,by rw[ak (A0m ap.n12)];exact Lx.l2,rfl,hh,?_⟩;refine⟨_,rfl,x,C,dx,_,_,rfl,by rw[ak x2,ak x1];exact Lx.o,T.cl,T.n3,rfl,_,rfl,a3,_,.inr e,rfl,by rw[ak (A0m ap.n23),ak (A0m ap.n13)];exact Lx.l3,rfl,hown,?_⟩;refine⟨_,rfl,x,C,dx,_,_,rfl,by rw[ak x3,ak x2,ak x1];exact Lx.o,T.cl,T.n4,rfl,_,rfl,a4,_,.inr e,rfl,by rw[ak (A0m ap.n34),ak (A0m ap.n24),ak (A0m ap.n14)];exact Lx.l4,rfl,hse,?_⟩;refine⟨_,rfl,x,C,dx,_,_,rfl,by rw[ak x4,ak x3,ak x2,ak x1];exact Lx.o,T.cl,T.n5,rfl,_,rfl,a5,_,.inr e,rfl,by rw[ak (A0m ap.n45),ak (A0m ap.n35),ak (A0m ap.n25),ak (A0m ap.n15)];exact Lx.l5,rfl,hbr,?_⟩;refine k ss _ hp hmv ⟨?_,?_,?_,?_,?_,ao⟩ fun c o c1 c2 c3 c4 c5 q=>?_
  ·rw[ak x5,ak x4,ak x3,ak x2,ak x1];exact Lx.o
  ·rw[ak ap.n15,ak ap.n14,ak ap.n13,ak ap.n12,ao]
  ·rw[ak ap.n25,ak ap.n24,ak ap.n23,ao]
  ·rw[ak ap.n35,ak ap.n34,ao]
  ·rw[ak ap.n45,ao]
  ·rw[ak c5,ak c4,ak c3,ak c2,ak c1];exact fx c o c1 (BZ c o c3 q)
end
abbrev a02:Stmt:=top 21
abbrev RZ:Stmt:=top 19
abbrev GQ:Stmt:=top 20
abbrev S5:Stmt:=top 49
abbrev Du:Stmt:=top 50
abbrev a03:Stmt:=top 51
def Ca(v:Int):Prop:=0<=v/\v<1000003
def GR{fs:List Int}{v:Int}(h:∀x∈fs,Ca x)(hv:Ca v):∀x∈fs++[v],Ca x:=fun x hx=>by
 rcases A0l.mp hx with z|z
 ·exact h x z
 ·rw[A0b.mp z];exact hv
def Ac(fs:List Int)(v:Int):fs.map V.int++[V.int v]=(fs++[v]).map V.int:=by simp
inductive GX(K:W.Frag)(vs:List V)(H:Hp)(Q:VK)(cH:XK):Prop
 |mk(a:Addr)(ns:List Int)(many:Int)(_:vs=[.ref a,.int many])(_:bY K H a 0x36)(_:ns.length<=63)(_:0<=many)(_:many<=100000)(_:∀(r:Addr)(H':Hp)(fs:List Int),Same H H'->H r=none->H' r=some (.lst 0x8E)->(fs.length:Int)=many->(∀v∈fs,Ca v)->Q 0x60 H'):GX K vs H Q cH
def Dv{t u:TS}(h:∀N:Ends,N.rt=D.rt->(∀σ H,u D σ H->N.nx σ H)->t N σ H):Gb t u D σ H:=h _ rfl fun _ _=>id
def a2U{a b:TS}(W:L2.St->Hp->Prop)(h2:∀σ' H',W σ' H'->b D σ' H')(h1:∀N:Ends,(∀σ' H',W σ' H'->N.nx σ' H')->a N σ H):Gb a b D σ H:=h1 _ h2
def lE:aP ["_law_script","_law_many","_law_feed_here","_law_salt","_law_cell","_law_rest","_law_k"] ["_law_script","_law_many"] (aJ S5):=0x0
def Xn(F:fj K "_law_feed" "_law_feed" S5 f fd)(mr:mg "range"=none)(ml:mg "len"=none):aL P w K mg base bL 1 f fd ["_law_script","_law_many"] (GX K):=by
 refine F.ok lE 0x1 0x3;obtain⟨a,ns,many,rfl,hS,h63,hm0,hm1,k⟩:=h;refine⟨_,aq (aV (i:=2) lE.nd rfl 0x8 (cL aC))
  (aq (aV (i:=3) lE.nd rfl 0x8 aA)
  (aq (gF A0Q rfl (fu (eG mG 0x32 iI (cU aA))) (bB (i:=4) lE.nd rfl 0x8)
   (aq (aV (i:=3) lE.nd rfl 0x8 (aX bV (aX dY (aX dY (aX lB 0x52 aA) (aX bV (pv 4) aA)) aA) aA))
   (aq (aV (i:=5) lE.nd rfl 0x8 (aX nR (pv 4) (aX a0t aA aA)))
   (aq (bK (aU ql (pv 5) aA 0x61)
     (aG (bM (j8 A0K A0R A0S dw 0x3B (aj (aX bV (pv 4) aA) aC)))) aR)
   (aG (gF A0Q rfl (lJ rfl mr (aj aA aC)) (bB (i:=6) lE.nd rfl 0x8)
    (aG (bK (aU Qk (pv 5) aA 0x61)
     (aq (bM (j8 A0K A0R A0S dw 0x3B (aj (aX bV (pv 5) aA) aC)))
     (aG (aV (i:=5) lE.nd rfl 0x8 (aX mj (pv 5) aA)))) aR))))))))
  (aq (gF A0Q rfl (lJ rfl mr (aj (aX nR 0xF (bH cY rfl ml A1G 0x65)) aC)) (bB (i:=6) lE.nd rfl 0x8)
   (aq (aV (i:=3) lE.nd rfl 0x8 (aX bV (aX dY (aX dY (aX dY (aX lB (aX lB 0x52 0x52) 0x52) (aX lB aA 0x52)) (aX lB aA (pv 6))) aA) aA))
   (aG (bM (j8 A0K A0R A0S dw 0x3B (aj (aX bV (aX mj 0x52 aA) aA) aC))))))
  (aG (aZ (eG mG 0x3B iI (cU 0xF))))))),?_⟩
 refine Dv fun N _ hN=>⟨small 0xA,fun l hl=>hN _ _ ?_⟩;refine Dv fun N _ hN=>hN _ _ ?_;have s1:Same H (upd H l 0x54):=aK hl _;refine Dv fun N _ hN=>⟨_,rfl,_,rfl,a,_,rfl,s1.seq hS,fun p hp=>?_⟩;have npl:p≠l:=fun e=>by rw[e,ao]at hp;cases hp
 have hp0:H p=none:=by rw[ak npl]at hp;exact hp
 refine⟨p,rfl,⟨_,bY.of ao⟩,gA (K:=K) (a:=p) (xs:=iG 0x36 none (some 63)) (fun i σ H2=>∃(fs:List Int)(salt:Int)(c r k:Option V),σ=[some 0x4E,some (.int many),some (.ref l),some (.int salt),c,r,k]/\Same H H2/\
   H2 p=some (.lst (iG 0x36 none (some 63)))/\H2 l=some (.lst 0x8E)/\fs.length<=61*i/\(∀v∈fs,Ca v)/\0<=salt/\salt<2147483647)
  ⟨[],29,none,none,none,rfl,bU s1 hp0,ao,by rw[ak (A0m npl),ao];rfl,A1j _,(fun v hv=>nomatch hv),by decide,by decide⟩ (fun i σ H2 _ ⟨_,_,_,_,_,_,_,hq,_⟩=>bY.of hq) ?_ ?_⟩
 ·rintro i y σ H2 hi ⟨fs,salt,c,r,kk,rfl,s2,hq,hL,hlen,hok,z0,z1⟩;have hil:i<(iG 0x36 none (some 63)).length:=(A0j.mp hi).1;have hcl:=jZ 0x36 none (some 63);rw[cM]at hcl;obtain⟨cell,rfl⟩:∃z,y=V.int z:=by
   have hm:y∈iG 0x36 none (some 63):=wU hi;have hm2:y∈ns.map V.int:=A3g (A2e hm);obtain⟨z,_,rfl⟩:=A0e.mp hm2;exact⟨z,rfl⟩
  refine Dv fun N _ hN=>⟨_,rfl,_,_,rfl,rfl,.inl ⟨by lia,by lia⟩,_,rfl,_,_,rfl,rfl,(by show(0:Int)<2147483629;decide),_,_,rfl,rfl,_,_,rfl,rfl,_,_,rfl,rfl,(by show(0:Int)<2147483647;decide),hN _ _ ?_⟩
  refine Dv fun N _ hN=>⟨_,rfl,_,_,rfl,rfl,⟨by decide,by decide,by decide⟩,_,_,rfl,rfl,hN _ _ ?_⟩;have z0':0<=(salt*69621+cell%2147483629+11)%2147483647:=A1a _ 0x5;have z1':(salt*69621+cell%2147483629+11)%2147483647<2147483647:=A0P _ 0x5;obtain⟨W,hW⟩:∃W:L2.St->Hp->Prop,∀s h,W s h↔∃gs:List Int,s=[some (.ref a),some (.int many),some (.ref l),some (.int ((salt*69621+cell%2147483629+11)%2147483647)),some (.int cell),some (.int (cell-10^18)),kk]/\Same H h/\h p=some (.lst (iG (ns.map V.int) none (some 63)))/\h l=some (.lst (gs.map V.int))/\gs.length<=61*i+1/\∀v∈gs,Ca v:=⟨_,fun _ _=>Iff.rfl⟩;refine a2U W (fun σ3 H3 h3=>?_) fun N hN=>?_
  ·obtain⟨gs,rfl,s3,hq3,hL3,hg1,hg2⟩:=(hW _ _).mp h3;refine⟨60,rfl,by decide,by decide,oU (lo:=0) (n:=60) (fun j σ H4=>∃(hs:List Int)(rest Dw:Int)(k:Option V),σ=[some 0x4E,some (.int many),some (.ref l),some (.int Dw),some (.int cell),some (.int rest),k]/\0<=Dw/\Dw<2147483647/\Same H H4/\
    H4 p=some (.lst (iG 0x36 none (some 63)))/\H4 l=some (.lst (hs.map V.int))/\hs.length<=61*i+1+j/\(∀v∈hs,Ca v)) ⟨gs,_,_,kk,rfl,z0',z1',s3,hq3,hL3,hg1,hg2⟩ ?_ ?_⟩
   ·rintro j σ H4 hj ⟨hs,rest,Dw,k',rfl,x0,x1,s4,hq4,Wq,hh1,ZC⟩;refine⟨_,rfl,_,_,rfl,rfl,_,rfl,?_⟩;refine iu 0x3C 0x3C
    ·refine Dv fun N _ hN=>⟨_,rfl,.inl ⟨rfl,_,bY.of Wq⟩,_,rfl,_,_,rfl,rfl,(by show(0:Int)<1009;decide),l,_,_,rfl,rfl,Wq,(by rw[cM];exact bO 0x4),hN _ _ ?_⟩
     refine⟨_,rfl,_,_,rfl,rfl,⟨by decide,by decide⟩,?_⟩;exact⟨hs++[rest%1009],_,_,_,rfl,x0,x1,bU s4 hl,by rw[ak npl];exact hq4,by rw[ao,Ac],by rw[iD,A0t];lia,
      GR ZC ⟨A1a _ 0x5,by have:=A0P rest (show(0:Int)<1009 by decide);lia⟩⟩
    ·exact⟨hs,_,_,_,rfl,x0,x1,s4,hq4,Wq,by lia,ZC⟩
   ·rintro σ H4 ⟨hs,rest,Dw,k',rfl,x0,x1,s4,hq4,Wq,hh1,ZC⟩;exact⟨hs,_,_,_,_,rfl,s4,hq4,Wq,by lia,ZC,x0,x1⟩
  refine⟨_,rfl,_,_,rfl,rfl,_,rfl,?_⟩;refine iu 0x3C 0x3C
  ·refine⟨_,rfl,.inl ⟨rfl,_,bY.of hL⟩,_,rfl,_,_,rfl,rfl,(by show(0:Int)<1000003;decide),l,_,_,rfl,rfl,hL,(by rw[cM];exact bO 0x4),?_⟩
   exact hN _ _ ((hW _ _).mpr ⟨fs++[cell%1000003],rfl,bU s2 hl,by rw[ak npl];exact hq,by rw[ao,Ac],by rw[iD,A0t];lia,GR hok ⟨A1a _ 0x5,A0P _ 0x5⟩⟩)
  ·exact hN _ _ ((hW _ _).mpr ⟨fs,rfl,s2,hq,hL,by lia,hok⟩)
 ·rintro σ H2 ⟨fs,salt,c,r,kk,rfl,s2,hq,hL,hlen,hok,z0,z1⟩;refine hN _ _ ?_;have hcl:=jZ 0x36 none (some 63);rw[cM]at hcl;refine Dv fun N _ hN=>⟨_,rfl,_,rfl,l,_,rfl,.inl (bY.of hL),_,_,rfl,rfl,many-(fs.length:Int),(by rw[cM]),by lia,by lia,?_⟩;refine oU (lo:=0) (n:=(many-(fs.length:Int)).toNat) (fun j σ H4=>∃(hs:List Int)(salt:Int)(k:Option V),σ=[some 0x4E,some (.int many),some (.ref l),some (.int salt),c,r,k]/\Same H H4/\
    H4 l=some (.lst (hs.map V.int))/\hs.length=fs.length+j/\(∀v∈hs,Ca v)/\0<=salt/\salt<2147483647) ⟨fs,salt,kk,rfl,s2,hL,rfl,hok,z0,z1⟩ ?_ ?_
  ·rintro j σ H4 hj ⟨hs,salt,k',rfl,s4,Wq,hh1,ZC,y0,y1⟩;refine Dv fun N _ hN=>⟨_,rfl,_,rfl,_,_,rfl,rfl,.inl ⟨by lia,by lia⟩,_,rfl,_,_,rfl,rfl,.inr ⟨by lia,by lia⟩,_,rfl,_,_,rfl,rfl,.inl ⟨by decide,by decide⟩,_,_,rfl,rfl,_,rfl,_,_,rfl,rfl,.inl ⟨by decide,by decide⟩,_,_,rfl,rfl,_,_,rfl,rfl,_,_,rfl,rfl,(by show(0:Int)<2147483629;decide),hN _ _ ?_⟩
   refine⟨_,rfl,.inl ⟨rfl,_,bY.of Wq⟩,_,rfl,_,_,rfl,rfl,⟨by decide,by decide⟩,_,_,rfl,rfl,(by show(0:Int)<1009;decide),l,_,_,rfl,rfl,Wq,(by rw[cM];exact bO 0x4),?_⟩
   refine⟨hs++[_],_,_,rfl,bU s4 hl,by rw[ao,Ac],by rw[iD,A0t];lia,GR ZC ⟨A1a _ 0x5,?_⟩,A1a _ 0x5,?_⟩
   ·have:=A0P ((salt*salt*salt+48271*salt+13*(0+(j:Int))+5)%2147483629/1013) (show(0:Int)<1009 by decide)
    lia
   ·have:=A0P (salt*salt*salt+48271*salt+13*(0+(j:Int))+5) (show(0:Int)<2147483629 by decide)
    lia
  ·rintro σ H4 ⟨hs,salt,k',rfl,s4,Wq,hh1,ZC,y0,y1⟩;refine hN _ _ ?_;refine⟨_,rfl,_,rfl,many,rfl,l,_,rfl,bY.of Wq,fun q hq'=>?_⟩;have hcut:iG (hs.map V.int) none (some many)=(hs.take many.toNat).map V.int:=by
    unfold iG;have e1:HT.fQ (hs.map V.int).length 0 none=0:=rfl;have e2:HT.fQ (hs.map V.int).length (hs.map V.int).length (some many)=min many.toNat (hs.map V.int).length:=by
     have em:many=((many.toNat:Nat):Int):=by lia
     generalize many.toNat=mm at em ⊢;rw[em,HT.mq]
    rw[e1,e2,List.drop_zero,List.map_take,Nat.sub_zero,cM];rw[List.take_eq_take_iff,cM];lia
   refine k q _ (hs.take many.toNat) (bU s4 (s4.free hq')) (s4.free hq') (by rw[ao,hcut]) ?_ fun v hv=>ZC v (A2e hv);rw[A0H];lia
inductive a04(vs:List V)(H:Hp)(Q:VK)(cH:XK):Prop
 |mk(i:Int)(_:vs=[.int i,.int i])(_:Q (.bl true) H):a04 vs H Q cH
inductive a05(vs:List V)(H:Hp)(Q:VK)(cH:XK):Prop
 |mk(p q:Addr)(ns:List Int)(_:vs=[.ref p,.ref q])(_:H p=some (.tup 0x36))(_:H q=some (.tup 0x36))(_:ns.length<=1000)(_:∀H',Same H H'->Q (.bl true) H'):a05 vs H Q cH
structure Ms(K:PySem.W.Frag)(mg:Str->Option Value)(x:Str)(g:Addr)(gd:FuncData)(ps:List Str):Prop where
 b:Binds K gd ps []
 k:PySem.W.keepIn K (.ref g)=true
 m:mg x=some (.ref g)
structure MgS(mg:Str->Option Value):Prop where
 Xo:mg "isinstance"=none
 bool:mg "bool"=none
 int:mg "int"=none
 str:mg "str"=none
 list:mg "list"=none
 tuple:mg "tuple"=none
 len:mg "len"=none
 all:mg "all"=none
 zip:mg "zip"=none
def S6:aP A5p A5p (aJ Du):=0x0
def scS1:Scope:={kind:=.function,names:=[(".0",.local),("_law_one",.local),("_law_other",.local),("_law_same",.globalImplicit)],isGenerator:=false,isCoroutine:=false}
def csS1:iw A5p (aJ Du) scS1 A5G [] []:=0xE
def ndS1:((A5G:List Str)++([]:List Str)).Nodup:=by decide+kernel
def all_true{bs:List Bool}(h:∀b∈bs,b=true):bs.all id=true:=A1L.mpr fun b hb=>h b hb
def a06(n:Nat):List.replicate n (V.bl true)=(List.replicate n true).map V.bl:=by rw[List.map_replicate]
def S7(F:fj K "_law_same" "_law_same" Du f fd)(m:MgS mg):aL P w K mg base bL 1 f fd A5p a04:=by
 refine F.ok S6 0x1 0x3;obtain⟨i,rfl,k⟩:=h;refine⟨_,aq (bK (pQ (Q8 0xF)) cD aR)
  (aq (bK (dJ (bH (dM (K:=K)) rfl m.Xo bT (aj 0xF (aj (jh rfl m.bool zK rfl (v:=.ty "bool")) aC)))) cD aR)
  (aq (bK (dJ (bH (dM (K:=K)) rfl m.Xo bT (aj 0xF (aj (jh rfl m.tuple uU rfl (v:=.ty "tuple")) aC)))) cD aR)
  (aq (bK (dJ (bH (dM (K:=K)) rfl m.Xo bT (aj 0xF (aj (jh rfl m.list qC rfl (v:=.ty "list")) aC)))) cD aR)
  (aq (bK (dJ (bH (dM (K:=K)) rfl m.Xo bT (aj 0xF (aj (jh rfl m.str a0H rfl (v:=.ty "str")) aC)))) cD aR)
  (aG (aZ (uJ (bH (dM (K:=K)) rfl m.Xo bT (aj 0x32 (aj (jh rfl m.int a0G rfl (v:=.ty "int")) aC)))
   (uJ (a0n (bH (dM (K:=K)) rfl m.Xo bT (aj 0x32 (aj (jh rfl m.bool zK rfl (v:=.ty "bool")) aC)))) (Qa (jA fJ 0x32 0xF 0x61)))))))))),?_⟩
 refine⟨_,rfl,_,rfl,cg ?_⟩;refine⟨_,rfl,_,_,_,false,rfl,.int i,rfl,_,rfl,cg ?_⟩;refine⟨_,rfl,_,_,_,false,rfl,.int i,rfl,_,rfl,cg ?_⟩;refine⟨_,rfl,_,_,_,false,rfl,.int i,rfl,_,rfl,cg ?_⟩;refine⟨_,rfl,_,_,_,false,rfl,.int i,rfl,_,rfl,cg ?_⟩;refine⟨_,rfl,_,_,_,true,rfl,.int i,rfl,_,rfl,cW ?_⟩;refine⟨_,rfl,_,_,_,false,rfl,.int i,rfl,_,rfl,_,rfl,cW ?_⟩;refine⟨_,rfl,_,rfl,rfl,?_⟩
 show Q (.bl (decide (V.int i=V.int i))) H
 rw[A0k rfl];exact k
def Xp(F:fj K "_law_same" "_law_same" Du f fd)(m:MgS mg)(M:Ms K mg "_law_same" f fd A5p)(G:aL P w K mg base bL 1 f fd A5p a04):aL P w K mg base bL 2 f fd A5p a05:=by
 refine F.ok S6 0x1 0x3;obtain⟨p,q,ns,rfl,hp,hq,hz,k⟩:=h;refine⟨_,aq (bK (pQ (Q8 0xF)) cD aR)
  (aq (bK (dJ (bH (dM (K:=K)) rfl m.Xo bT (aj 0xF (aj (jh rfl m.bool zK rfl (v:=.ty "bool")) aC)))) cD aR)
  (aq (bK (dJ (bH (dM (K:=K)) rfl m.Xo bT (aj 0xF (aj (jh rfl m.tuple uU rfl (v:=.ty "tuple")) aC))))
   (aq (bK (PW.pt (xG (ig (dJ (bH (dM (K:=K)) rfl m.Xo bT (aj 0x32 (aj (jh rfl m.tuple uU rfl (v:=.ty "tuple")) aC))))) (rH (aU nU (bH (yd (K:=K)) rfl m.len A1G (aj 0x32 aC)) (bH (yd (K:=K)) rfl m.len A1G 0x2C) 0x61)))) cD aR)
   (aG (aZ (bH (MP (K:=K) rfl hr.hd) rfl m.all a0F (aj (kI rfl csS1 (QW rfl m.zip (aj 0x32 0x2C))
    (fun s H fp C=>⟨zL (K:=K) (n:=2) rfl (bR (bB (i:=0) ndS1 rfl 0x8) (bR (bB (i:=1) ndS1 rfl 0x8) gJ)),zE,bG G hr rfl M.m M.k M.b .nil bC (aj 0x32 0x2C)⟩)) aC))))) aR) cD)),?_⟩
 refine⟨_,rfl,_,rfl,cg ?_⟩;refine⟨_,rfl,_,_,_,false,rfl,.tup hq,rfl,_,rfl,cg ?_⟩;refine⟨_,rfl,_,_,_,true,rfl,.tup hq,rfl,_,rfl,cW ?_⟩;refine⟨_,rfl,_,_,_,true,rfl,.tup hp,rfl,_,rfl,cg ?_⟩;refine⟨_,rfl,p,_,rfl,.inr (bN.of hp),_,rfl,q,_,rfl,.inr (bN.of hq),rfl,_,rfl,?_⟩;refine QH rfl ?_;refine⟨_,rfl,_,rfl,p,q,rfl,⟨_,bN.of hp⟩,⟨_,bN.of hq⟩,fun D hD=>?_⟩;refine uV (n:=(0x36).length) (fx:=fun i=>(ns.map V.int).getD i .non) (fy:=fun i=>(ns.map V.int).getD i .non) (fun i zs H2=>zs=List.replicate i (V.bl true)/\Same H H2/\H2 D=some (.lst zs)) (fun i zs H2 ⟨_,s2,_⟩=>Dc (bN.of (s2 _ _ hp)) (bN.of (s2 _ _ hq)) rfl) ⟨rfl,aK hD _,ao⟩ (fun i zs H2 h=>h.2.2) ?_ ?_
 ·rintro i zs H2 r hir ⟨rfl,s2,hD2⟩ hr2;have nrD:D≠r:=au hD2 hr2;rw[cM]at hir;obtain⟨z,e⟩:∃z:Int,(ns.map V.int).getD i .non=.int z:=⟨ns[i],by rw[wR,pF,lG hir];rfl⟩;rw[e];have s3:Same H (upd H2 r (.tup [.int z,.int z])):=bU s2 (s2.free hr2);refine⟨r,_,rfl,bN.of ao,rfl,_,_,rfl,_,_,rfl,rfl,Kp.set rfl (Kp.set rfl (Kp.refl _)),?_⟩;refine uR ?_;refine⟨_,rfl,_,rfl,z,rfl,by rw[ak nrD];exact hD2,?_,?_,bU s3 hD,ao⟩
  ·rw[A2r];exact bO 0x4
  ·rw[List.replicate_succ']
 ·rintro zs H2 ⟨rfl,s2,hD2⟩;refine⟨D,List.replicate (0x36).length true,rfl,bY.of (by rw[<-a06];exact hD2),?_⟩;rw[all_true fun b hb=>List.eq_of_mem_replicate hb];exact k _ s2
def sgn(t b:Int):Int:=if b<0 then -((Int.gcd t b:Nat):Int)else((Int.gcd t b:Nat):Int)
def oE(t b:Int):Int:=t.fdiv (sgn t b)
def jQ(t b:Int):Int:=b.fdiv (sgn t b)
def kJ{t b:Int}(h:b≠0):0<Int.gcd t b:=Int.gcd_pos_of_ne_zero_right t h
def S8{t b:Int}(h:b≠0):sgn t b≠0:=by
 have:=kJ (t:=t) h;unfold sgn
 split<;>lia
def a2V(t b:Int):sgn t b∣ t:=by
 unfold sgn
 split
 ·exact(Int.neg_dvd).mpr (Int.gcd_dvd_left t b)
 ·exact Int.gcd_dvd_left t b
def a2W(t b:Int):sgn t b∣ b:=by
 unfold sgn
 split
 ·exact(Int.neg_dvd).mpr (Int.gcd_dvd_right t b)
 ·exact Int.gcd_dvd_right t b
def Ae(t b:Int):(sgn t b).natAbs=Int.gcd t b:=by
 unfold sgn
 split<;>lia
def Kh{s t:Int}(hs:s≠0)(h:s∣ t):s*t.fdiv s=t:=by
 obtain⟨q,rfl⟩:=h;rw[Int.mul_fdiv_cancel_left _ hs]
def tX{t b:Int}(h:b≠0):sgn t b*oE t b=t:=Kh (S8 h) (a2V t b)
def qM{t b:Int}(h:b≠0):sgn t b*jQ t b=b:=Kh (S8 h) (a2W t b)
def vq{t b:Int}(h:b≠0):0<jQ t b:=by
 have e:=qM (t:=t) h;have g:=kJ (t:=t) h;have hs:sgn t b=if b<0 then -((Int.gcd t b:Nat):Int)else((Int.gcd t b:Nat):Int):=rfl
 by_cases hb:b<0
 ·rw [A0i hb]at hs
  by_cases hp:0<jQ t b
  ·exact hp
  ·have:0<=sgn t b*jQ t b:=by rw[hs];exact Int.mul_nonneg_of_nonpos_of_nonpos 0x4 0x4
   lia
 ·rw [A0f hb]at hs
  by_cases hp:0<jQ t b
  ·exact hp
  ·have:sgn t b*jQ t b<=0:=by rw[hs];exact Int.mul_nonpos_of_nonneg_of_nonpos 0x4 0x4
   lia
def Xq{t b:Int}(h:b≠0):Int.gcd (oE t b) (jQ t b)=1:=by
 have e1:=tX (t:=t) h;have e2:=qM (t:=t) h;have g:=kJ (t:=t) h;have e3:Int.gcd (sgn t b*oE t b) (sgn t b*jQ t b)=(sgn t b).natAbs*Int.gcd (oE t b) (jQ t b):=Int.gcd_mul_left _ _ _;rw[e1,e2,Ae]at e3;exact Nat.eq_of_mul_eq_mul_left g (by rw[<-e3,Nat.mul_one])
def a07{x y k:Int}(hg:Int.gcd x y=1)(hy:0<y)(hk:0<k):oE (x*k) (y*k)=x/\jQ (x*k) (y*k)=y:=by
 have e:Int.gcd (x*k) (y*k)=k.natAbs:=by rw[Int.gcd_mul_right,hg,Nat.one_mul]
 have hpos:0<y*k:=A2O hy hk;have es:sgn (x*k) (y*k)=k:=by
  unfold sgn;rw[A0f 0x4,e];lia
 unfold oE jQ;rw[es];exact⟨Int.mul_fdiv_cancel _ 0x4,Int.mul_fdiv_cancel _ 0x4⟩
def Xr{t b:Int}(h:b≠0):(jQ t b).natAbs<=b.natAbs:=by
 have e:=A1R Int.natAbs (qM (t:=t) h);rw[Int.natAbs_mul,Ae]at e;rw[<-e];exact Nat.le_mul_of_pos_left _ (kJ h)
def Xu{t b:Int}(h:b≠0):(oE t b).natAbs<=t.natAbs:=by
 have e:=A1R Int.natAbs (tX (t:=t) h);rw[Int.natAbs_mul,Ae]at e;rw[<-e];exact Nat.le_mul_of_pos_left _ (kJ h)
def Dz{a b:Int}(ha:0<=a)(hb:0<b):Int.gcd b (a%b)=Int.gcd a b:=by
 obtain⟨m,rfl⟩:=Int.eq_ofNat_of_zero_le ha;obtain⟨n,rfl⟩:=Int.eq_ofNat_of_zero_le (Int.le_of_lt hb);have e:((m:Int)%(n:Int))=((m%n:Nat):Int):=by lia
 rw[e]
 show Nat.gcd n (m%n)=Nat.gcd m n
 rw[Nat.gcd_comm m n,Nat.gcd_rec n m,Nat.gcd_comm n (m%n)]
def Kl(t b:Int):Int.gcd (if t<0 then -t else t) (if b<0 then -b else b)=Int.gcd t b:=by
 have e:∀x:Int,(if x<0 then -x else x).natAbs=x.natAbs:=fun x=>by split<;>lia
 unfold Int.gcd;rw[e,e]
def gcd_le_right{t b:Int}(h:b≠0):Int.gcd t b<=b.natAbs:=by
 exact Nat.gcd_le_right _ 0x4
def je(H:Hp)(p:Addr)(t b:Int):Prop:=H p=some (.tup [.int t,.int b])
inductive S9(vs:List V)(H:Hp)(Q:VK)(cH:XK):Prop
 |mk(a b:Int)(_:vs=[.int a,.int b])(_:0<=a)(_:0<=b)(_:Q (.int ((Int.gcd a b:Nat):Int)) H):S9 vs H Q cH
inductive yx(vs:List V)(H:Hp)(Q:VK)(cH:XK):Prop
 |mk(t b:Int)(_:vs=[.int t,.int b])(_:b≠0)(_:b.natAbs<o9)(_:∀p,H p=none->Q 0x46 (upd H p (.tup [.int (oE t b),.int (jQ t b)]))):yx vs H Q cH
def ZD:aP ["a","b"] ["a","b"] (aJ a02):=0x0
def a08(F:fj K "common_measure" "common_measure" a02 f fd):aL P w K mg base bL 1 f fd ["a","b"] S9:=by
 refine F.ok ZD 0x1 0x3;obtain⟨a,b,rfl,ha,hb,k⟩:=h;refine⟨_,aq (lH A0Q (aU nU 0xF aA 0x61) (aG (Qe (i:=0) (j:=1) rfl ZD.nd rfl rfl 0x5 rfl rfl (aj 0xF (aj (aX bV 0x32 0xF) aC)) (by rfl))))
  (aG (aZ 0x32)),?_⟩
 refine Cm (fun σ H2=>H2=H/\∃x y:Int,σ=[some (.int x),some (.int y)]/\0<=x/\0<=y/\Int.gcd x y=Int.gcd a b) (fun σ _=>match σ with|[_,some (.int y)]=>y.toNat|_=>0) ⟨rfl,a,b,rfl,ha,hb,rfl⟩ ?_ ?_
 ·rintro σ H2 ⟨rfl,x,y,rfl,hx,hy,hg⟩;refine⟨_,rfl,rfl,_,rfl,?_⟩
  by_cases h0:y=0
  ·subst h0;refine QH rfl ?_;refine⟨_,rfl,?_⟩;have e:x=((Int.gcd a b:Nat):Int):=by rw[<-hg,Int.gcd_zero_right];lia
   rw[e];exact k
  ·have e:decide (V.int y=V.int 0)=false:=by rw[tO];simpa using h0
   rw[e];refine cW ?_;refine⟨_,rfl,_,rfl,_,rfl,_,_,rfl,rfl,(by show 0<y;lia),_,_,rfl,⟨rfl,y,x%y,rfl,hy,A1a _ h0,by rw[Dz hx 0x4];exact hg⟩,?_⟩
   show(x%y).toNat<y.toNat
   have:=A0P x (show 0<y by lia)
   lia
 ·rintro σ H2 Q1 Q2 hq ⟨v,hv,hsc,c,hc,h⟩;exact⟨v,hv,hsc,c,hc,hq _ _ h⟩
def GZ:aP ["top","bottom","measure"] ["top","bottom"] (aJ RZ):=0x0
def Xv(F:fj K "part" "part" RZ f fd)(ma:mg "abs"=none){g:Addr}{gd:FuncData}(G:aL P w K mg base bL 1 g gd ["a","b"] S9)(M:Ms K mg "common_measure" g gd ["a","b"]):aL P w K mg base bL 2 f fd ["top","bottom"] yx:=by
 refine F.ok GZ 0x1 0x3;obtain⟨t,b,rfl,hb,hbig,k⟩:=h;refine⟨_,aq (aV (i:=2) GZ.nd rfl 0x8 (bG G hr rfl M.m M.k M.b .nil bC (aj (bH qp rfl ma zJ (aj 0x32 aC)) (aj (bH qp rfl ma zJ 0x2C) aC))))
  (aq (bK (aU ql 0xF aA 0x61) (aG (aV (i:=2) GZ.nd rfl 0x8 (uL pR 0x3B))) aR)
  (aG (aZ (cu (aj (aX qD 0x32 0x3B) (aj (aX qD 0xF 0x3B) aC)))))),?_⟩
 refine⟨_,rfl,_,rfl,_,rfl,_,rfl,_,_,rfl,by split<;>lia,by split<;>lia,?_⟩;rw[Kl];have hg:=kJ (t:=t) hb;have hle:=gcd_le_right (t:=t) hb;refine⟨_,rfl,_,_,rfl,rfl,_,rfl,?_⟩;refine iu 0x3C 0x3C
 ·have c':=qg c;have es:sgn t b=-((Int.gcd t b:Nat):Int):=by unfold sgn;rw[A0i c']
  have Sd:(-((Int.gcd t b:Nat):Int)).natAbs<o9:=A0O 0x4 hbig;refine⟨_,rfl,_,rfl,_,rfl,_,rfl,_,_,rfl,rfl,⟨by lia,Sd⟩,_,rfl,_,rfl,_,_,rfl,rfl,⟨by lia,Sd⟩,(by show 2<=sizeLine;decide),fun p hp=>?_⟩
  have q:=k p hp;unfold oE jQ at q;rw[es]at q;exact q
 ·have c':=A2p (A2v.mpr c);have es:sgn t b=((Int.gcd t b:Nat):Int):=by unfold sgn;rw[A0f c']
  have Sd:(((Int.gcd t b:Nat):Int)).natAbs<o9:=A0O 0x4 hbig;refine⟨_,rfl,_,rfl,_,_,rfl,rfl,⟨by lia,Sd⟩,_,rfl,_,rfl,_,_,rfl,rfl,⟨by lia,Sd⟩,(by show 2<=sizeLine;decide),fun p hp=>?_⟩
  have q:=k p hp;unfold oE jQ at q;rw[es]at q;exact q
def DG:aP ["_law_top","_law_bottom","_law_one","_law_other"] ["_law_top","_law_bottom"] (aJ a03):=0x0
def a09(F:fj K "_law_low" "_law_low" a03 f fd)(ma:mg "abs"=none):aL P w K mg base bL 1 f fd ["_law_top","_law_bottom"] yx:=by
 refine F.ok DG 0x1 0x3;obtain⟨t,b,rfl,hb,hbig,k⟩:=h;refine⟨_,aq (aV (i:=2) DG.nd rfl 0x8 (bH qp rfl ma zJ (aj 0x32 aC)))
  (aq (aV (i:=3) DG.nd rfl 0x8 (bH qp rfl ma zJ 0x2C))
  (aq (lH A0Q (aU nU 0x52 aA 0x61) (aG (Qe (i:=2) (j:=3) rfl DG.nd rfl rfl 0x5 rfl rfl (aj 0x52 (aj (aX bV 0x3B 0x52) aC)) (by rfl))))
  (aq (bK (aU ql 0xF aA 0x61) (aG (aV (i:=2) DG.nd rfl 0x8 (aX nR aA 0x3B))) aR)
  (aG (aZ (cu (aj (aX qD 0x32 0x3B) (aj (aX qD 0xF 0x3B) aC)))))))),?_⟩
 have hg:=kJ (t:=t) hb;have hle:=gcd_le_right (t:=t) hb;refine⟨_,rfl,_,rfl,_,rfl,_,rfl,?_⟩;refine Cm (fun σ H2=>H2=H/\∃x y:Int,σ=[some (.int t),some (.int b),some (.int x),some (.int y)]/\0<=x/\0<=y/\Int.gcd x y=Int.gcd t b) (fun σ _=>match σ with|[_,_,_,some (.int y)]=>y.toNat|_=>0) ⟨rfl,_,_,rfl,by split<;>lia,by split<;>lia,Kl t b⟩ ?_ ?_
 ·rintro σ H2 ⟨rfl,x,y,rfl,hx,hy,hxy⟩;refine⟨_,rfl,rfl,_,rfl,?_⟩
  by_cases h0:y=0
  ·subst h0;refine QH rfl ?_;have e:x=((Int.gcd t b:Nat):Int):=by rw[<-hxy,Int.gcd_zero_right];lia
   subst e;refine⟨_,rfl,_,_,rfl,rfl,_,rfl,?_⟩;refine iu 0x3C 0x3C
   ·have c':=qg c;have es:sgn t b=0-((Int.gcd t b:Nat):Int):=by unfold sgn;rw[A0i c'];lia
    have Sd:(0-((Int.gcd t b:Nat):Int)).natAbs<o9:=A0O 0x4 hbig;refine⟨_,rfl,_,_,rfl,rfl,_,rfl,_,rfl,_,_,rfl,rfl,⟨by lia,Sd⟩,_,rfl,_,rfl,_,_,rfl,rfl,⟨by lia,Sd⟩,(by show 2<=sizeLine;decide),fun p hp=>?_⟩
    have q:=k p hp;unfold oE jQ at q;rw[es]at q;exact q
   ·have c':=A2p (A2v.mpr c);have es:sgn t b=((Int.gcd t b:Nat):Int):=by unfold sgn;rw[A0f c']
    have Sd:(((Int.gcd t b:Nat):Int)).natAbs<o9:=A0O 0x4 hbig;refine⟨_,rfl,_,rfl,_,_,rfl,rfl,⟨by lia,Sd⟩,_,rfl,_,rfl,_,_,rfl,rfl,⟨by lia,Sd⟩,(by show 2<=sizeLine;decide),fun p hp=>?_⟩
    have q:=k p hp;unfold oE jQ at q;rw[es]at q;exact q
  ·have e:decide (V.int y=V.int 0)=false:=by rw[tO];simpa using h0
   rw[e];refine cW ?_;refine⟨_,rfl,_,rfl,_,rfl,_,_,rfl,rfl,(by show 0<y;lia),_,_,rfl,⟨rfl,y,x%y,rfl,hy,A1a _ h0,by rw[Dz hx 0x4];exact hxy⟩,?_⟩
   show(x%y).toNat<y.toNat
   have:=A0P x (show 0<y by lia)
   lia
 ·rintro σ H2 Q1 Q2 hq ⟨v,hv,hsc,c,hc,h⟩;exact⟨v,hv,hsc,c,hc,hq _ _ h⟩
def Xw:10^1200<o9:=by unfold o9;decide+kernel
def jy{e:Nat}(h:n<10^e)(he:e<=1200):n<o9:=A3k (A0q h (A2w 0x5 he)) Xw
def Bd(e:Nat)(x:Int×Int):Prop:=x.1.natAbs<10^e/\0<x.2/\x.2.natAbs<10^e
def Bd.mono{e f:Nat}{x:Int×Int}(h:Bd e x)(he:e<=f):Bd f x:=⟨A0q h.1 (A2w 0x5 he),h.2.1,A0q h.2.2 (A2w 0x5 he)⟩
def oY(t b:Int):Int×Int:=(oE t b,jQ t b)
def ZF(x y:Int×Int):Int×Int:=oY (x.1*y.2-y.1*x.2) (x.2*y.2)
def oF{a b:Int}{e f:Nat}(ha:a.natAbs<10^e)(hb:b.natAbs<10^f):(a*b).natAbs<10^(e+f):=by
 rw[Int.natAbs_mul,Nat.pow_add];exact Nat.mul_lt_mul'' ha hb
def Hf{t b:Int}{e:Nat}(hb:0<b)(h1:t.natAbs<10^e)(h2:b.natAbs<10^e):Bd e (oY t b):=
 ⟨A0O (Xu 0x4) h1,vq 0x4,A0O (Xr 0x4) h2⟩
inductive Sg(vs:List V)(H:Hp)(Q:VK)(cH:XK):Prop
 |mk(p q:Addr)(x y:Prod Int Int)(_:vs=[.ref p,.ref q])(_:je H p x.1 x.2)(_:je H q y.1 y.2)(_:Bd 500 x)(_:Bd 500 y)(_:∀r,H r=none->Q 0x60 (upd H r (.tup [.int (ZF x y).1,.int (ZF x y).2]))):Sg vs H Q cH
def Xx:aP ["a","b"] ["a","b"] (aJ GQ):=0x0
def Sh(F:fj K "minus" "minus" GQ f fd){g:Addr}{gd:FuncData}(G:aL P w K mg base bL 2 g gd ["top","bottom"] yx)(M:Ms K mg "part" g gd ["top","bottom"]):aL P w K mg base bL 3 f fd ["a","b"] Sg:=by
 refine F.ok Xx 0x1 0x3;obtain⟨p,q,x,y,rfl,hp,hq,bx,by',k⟩:=h;refine⟨_,aG (aZ (bG G hr rfl M.m M.k M.b .nil bC (aj (aX nR (aX jD 0x72 0x1A) (aX jD 0x1A 0x72)) (aj (aX jD 0x72 0x1A) aC)))),?_⟩;have b1:=jy bx.1 0x5;have b2:=jy bx.2.2 0x5;have b3:=jy by'.1 0x5;have b4:=jy by'.2.2 0x5;exact⟨_,rfl,p,_,_,_,rfl,rfl,bN.of hp,aH (j:=0) rfl,_,rfl,q,_,_,_,rfl,rfl,bN.of hq,aH (j:=1) rfl,_,_,rfl,rfl,⟨b1,b4⟩,_,rfl,q,_,_,_,rfl,rfl,bN.of hq,aH (j:=0) rfl,_,rfl,p,_,_,_,rfl,rfl,bN.of hp,aH (j:=1) rfl,_,_,rfl,rfl,⟨b3,b2⟩,_,_,rfl,rfl,
  _,rfl,p,_,_,_,rfl,rfl,bN.of hp,aH (j:=1) rfl,_,rfl,q,_,_,_,rfl,rfl,bN.of hq,aH (j:=1) rfl,_,_,rfl,rfl,⟨b2,b4⟩,_,_,rfl,A4h (A2O bx.2.1 by'.2.1),jy (oF bx.2.2 by'.2.2) 0x5,k⟩
inductive oZ(C:Addr)(vs:List V)(H:Hp)(Q:VK)(cH:XK):Prop
 |mk(x dx a1 a2 a3 a4 a5:Addr)(lo ho ow se br:List 0x21)(e n man p:Str)(t0:Addr)(acres own qe:Int)(sx:Prod Int Int)(_:vs=[.ref x,.str e,.str n,.str man,.int acres])(_:cA C H x dx a1 a2 a3 a4 a5 lo ho ow se br)(_:Rz a1 a2 a3 a4 a5)(_:bJ lo 0x18=some (.str p))(_:bJ ow 0x18=some (.int own))(_:bJ se 0x18=some (.ref t0))(_:bJ br 0x18=some (.int qe))(_:je H t0 sx.1 sx.2)(_:Bd 400 sx)(_:0<qe)(_:qe.natAbs<10^5)(_:acres.natAbs<10^5)(_:lo.length<=800)(_:ho.length<=800)(_:ow.length<=800)(_:se.length<=800)(_:br.length<=800)(_:∀g r H',H g=none->H r=none->g≠r->cA C H' x dx a1 a2 a3 a4 a5 (putK lo 0x15 (.str p)) (putK ho 0x15 (.str man)) (putK 0x1F 0x15 (.int acres)) (putK 0x7C 0x15 (.ref g)) (putK 0x44 0x15 (.int acres))->je H' g (0x1D).1 (0x1D).2->je H' r (ZF sx 0x1D).1 (ZF sx 0x1D).2->(∀c o,c≠a1->c≠a2->c≠a3->c≠a4->c≠a5->H c=some o->H' c=some o)->Q .non H'):oZ C vs H Q cH
def rN:aP ["self","estate","new","man","acres","service","going"] A5v (aJ v8):=0x0
def Hg(T:fK K C)(F:fj K "part_off" "Land.part_off" v8 f fd)(G1:aL P w K mg base bL 1 g1 d1 A5i (Kg C))(m1:Meth K C "add_estate" g1)(b1:Binds K d1 A5i [])
  (G2:aL P w K mg base bL 2 g2 d2 ["top","bottom"] yx)(M2:Ms K mg "part" g2 d2 ["top","bottom"])(G3:aL P w K mg base bL 3 g3 d3 ["a","b"] Sg)(M3:Ms K mg "minus" g3 d3 ["a","b"]):
  aL P w K mg base bL 4 f fd A5v (oZ C):=by
 refine F.ok rN 0x1 0x3;obtain⟨x,dx,a1,a2,a3,a4,a5,lo,ho,ow,se,br,e,n,man,p,t0,acres,own,qe,sx,rfl,L,ap,hlo,how,hse,hbr,h0,bx,hb0,hb1,hac,e1,e2,e3,e4,e5,k⟩:=h;have G1:=aL.mono (k:=3) G1 0x4;have G2:=aL.mono (k:=3) G2 0x4;refine⟨_,aq (aV (i:=5) rN.nd rfl 0x8 0x73)
  (aq (aV (i:=6) rN.nd rfl 0x8 (bG G2 hr rfl M2.m M2.k M2.b .nil bC (aj (aX jD (aN aY (pv 5) aA 0x2) (pv 4)) (aj (aX jD (aN aY (pv 5) aA 0x2) 0x73) aC))))
  (aq (oV 0x17 0xB 0xF (pv 4) zj (fun _ _ _=>rfl))
  (aq (oV 0x17 0xB 0xF (pv 4) zj (fun _ _ _=>rfl))
  (aq (cQ 0x17 0xB 0xF (bG G3 hr rfl M3.m M3.k M3.b .nil bC (aj (pv 5) (aj (pv 6) aC))) rfl)
  (aG (bM (bZ 0x32 T.cl m1 G1 hr b1 .nil bC (aj 0x3B (aj 0x73 (aj 0x52 (aj (pv 4) (aj (pv 6) aC)))))))))))),?_⟩
 have q1:=jy bx.1 0x5;have q2:=jy bx.2.2 0x5;have q3:=jy hac 0x5;have q4:=jy hb1 0x5;refine⟨_,rfl,x,C,dx,_,_,rfl,L.o,T.cl,T.n4,rfl,_,rfl,_,_,rfl,gR L.l4 hse,?_⟩;refine⟨_,rfl,t0,_,_,_,rfl,rfl,bN.of h0,aH (j:=0) rfl,_,rfl,_,_,rfl,rfl,⟨q1,q3⟩,_,rfl,t0,_,_,_,rfl,rfl,bN.of h0,aH (j:=1) rfl,?_⟩;refine⟨_,rfl,x,C,dx,_,_,rfl,L.o,T.cl,T.n5,rfl,_,rfl,_,_,rfl,gR L.l5 hbr,_,_,rfl,rfl,⟨q2,q4⟩,_,_,rfl,A4h (A2O bx.2.1 hb0),jy (oF bx.2.2 hb1) 0x5,fun g hg=>?_⟩;have L1:=L.same (aK hg (.tup [.int (0x1D).1,.int (0x1D).2]));have f1:=(aK hg (.tup [.int (0x1D).1,.int (0x1D).2]));have hg1:(upd H g (.tup [.int (0x1D).1,.int (0x1D).2])) g=some (.tup [.int (0x1D).1,.int (0x1D).2]):=ao;have bg:Bd 405 0x1D:=Hf (A2O bx.2.1 hb0) (oF bx.1 hac) (oF bx.2.2 hb1)
 change(Gb _ _) _ _ (upd H g (.tup [.int (0x1D).1,.int (0x1D).2]))
 generalize oY (sx.1*acres) (sx.2*qe)=go at L1 f1 hg1 bg k ⊢;have h01:=f1 _ _ h0;have ZG:∀c,(upd H g (.tup [.int go.1,.int go.2])) c=none->H c=none/\c≠g:=fun c hc=>by
  by_cases q:c=g
  ·rw[q,ao]at hc;cases hc
  ·rw[ak q]at hc;exact⟨hc,q⟩
 generalize upd H g (.tup [.int go.1,.int go.2])=H1 at L1 f1 hg1 h01 ZG ⊢;refine⟨_,rfl,x,C,dx,_,_,rfl,L1.o,T.cl,T.n3,rfl,_,rfl,a3,_,rfl,gR L1.l3 how,_,rfl,_,_,rfl,rfl,_,gK.k (k:=.inr e) L1.l3 0x85,?_⟩;have g3:=aO hg1 L1.l3 0xC;have g4:=aO hg1 L1.l4 0xC;have g5:=aO hg1 L1.l5 0xC;have t3:=aO h01 L1.l3 0xC;have t5:=aO h01 L1.l5 0xC;have L2:cA C (upd H1 a3 (.dK 0x1F)) x dx a1 a2 a3 a4 a5 lo ho 0x1F se br:=
  ⟨by rw[ak (aO L1.o L1.l3 0xC)];exact L1.o,by rw[ak ap.n13];exact L1.l1,by rw[ak ap.n23];exact L1.l2,ao,by rw[ak (A0m ap.n34)];exact L1.l4,by rw[ak (A0m ap.n35)];exact L1.l5⟩
 have hg2:(upd H1 a3 (.dK 0x1F)) g=some (.tup [.int go.1,.int go.2]):=by rw[ak g3];exact hg1
 have h02:(upd H1 a3 (.dK 0x1F)) t0=some (.tup [.int sx.1,.int sx.2]):=by rw[ak t3];exact h01
 have f2:∀c o,c≠a3->H c=some o->(upd H1 a3 (.dK 0x1F)) c=some o:=fun c o hc q=>by rw[ak hc];exact f1 c o q
 have ZJ:∀c,(upd H1 a3 (.dK 0x1F)) c=none->H c=none/\c≠g:=fun c hc=>by
  by_cases q:c=a3
  ·rw[q,ao]at hc;cases hc
  ·rw[ak q]at hc;exact ZG c hc
 generalize upd H1 a3 (.dK 0x1F)=H2 at L2 hg2 h02 f2 ZJ ⊢;have hl2:=cB ow 0x18 (.int (own-acres));generalize putK ow 0x18 (.int (own-acres))=ow2 at L2 hl2 k ⊢;refine⟨_,rfl,x,C,dx,_,_,rfl,L2.o,T.cl,T.n5,rfl,_,rfl,a5,_,rfl,gR L2.l5 hbr,_,rfl,_,_,rfl,rfl,_,gK.k (k:=.inr e) L2.l5 0x85,?_⟩;have L3:cA C (upd H2 a5 (.dK 0x44)) x dx a1 a2 a3 a4 a5 lo ho ow2 se 0x44:=
  ⟨by rw[ak (aO L2.o L2.l5 0xC)];exact L2.o,by rw[ak ap.n15];exact L2.l1,by rw[ak ap.n25];exact L2.l2,by rw[ak ap.n35];exact L2.l3,by rw[ak ap.n45];exact L2.l4,ao⟩
 have hg3:(upd H2 a5 (.dK 0x44)) g=some (.tup [.int go.1,.int go.2]):=by rw[ak g5];exact hg2
 have h03:(upd H2 a5 (.dK 0x44)) t0=some (.tup [.int sx.1,.int sx.2]):=by rw[ak t5];exact h02
 have f3:∀c o,c≠a3->c≠a5->H c=some o->(upd H2 a5 (.dK 0x44)) c=some o:=fun c o hc hc2 q=>by rw[ak hc2];exact f2 c o hc q
 have ZK:∀c,(upd H2 a5 (.dK 0x44)) c=none->H c=none/\c≠g:=fun c hc=>by
  by_cases q:c=a5
  ·rw[q,ao]at hc;cases hc
  ·rw[ak q]at hc;exact ZJ c hc
 generalize upd H2 a5 (.dK 0x44)=H3 at L3 hg3 h03 f3 ZK ⊢;have hl3:=cB br 0x18 (.int (qe-acres));generalize putK br 0x18 (.int (qe-acres))=br2 at L3 hl3 k ⊢;refine⟨_,rfl,_,rfl,t0,g,sx,go,rfl,h03,hg3,bx.mono 0x5,bg.mono 0x5,fun r Sq=>?_⟩;obtain⟨hr0,hrg⟩:=ZK r Sq
 apply 0o1 H3 r Sq s4 DK H4
 have L4:=L3.same s4;have hg4:=s4 _ _ hg3;have f4:∀c o,c≠a3->c≠a5->H c=some o->_:=fun c o hc hc2 q=>s4 _ _ (f3 c o hc hc2 q);refine⟨_,rfl,x,C,dx,_,_,rfl,L4.o,T.cl,T.n4,rfl,_,rfl,a4,_,rfl,gK.k (k:=.inr e) L4.l4 0x85,?_⟩;have hl4:=cB se 0x18 0x60;have r4:=aO DK L4.l4 0xC;have L5:cA C (upd H4 a4 (.dK 0x7C)) x dx a1 a2 a3 a4 a5 lo ho ow2 0x7C br2:=
  ⟨by rw[ak (aO L4.o L4.l4 0xC)];exact L4.o,by rw[ak ap.n14];exact L4.l1,by rw[ak ap.n24];exact L4.l2,by rw[ak ap.n34];exact L4.l3,ao,by rw[ak (A0m ap.n45)];exact L4.l5⟩
 have hg5:(upd H4 a4 (.dK 0x7C)) g=some (.tup [.int go.1,.int go.2]):=by rw[ak g4];exact hg4
 have Px:(upd H4 a4 (.dK 0x7C)) r=some (.tup [.int (ZF sx go).1,.int (ZF sx go).2]):=by rw[ak r4];exact DK
 have f5:∀c o,c≠a3->c≠a4->c≠a5->H c=some o->(upd H4 a4 (.dK 0x7C)) c=some o:=fun c o hc hc4 hc5 q=>by rw[ak hc4];exact f4 c o hc hc5 q
 generalize upd H4 a4 (.dK 0x7C)=H5 at L5 hg5 Px f5 ⊢;refine⟨_,rfl,x,dx,_,rfl,L5.o,rfl,_,rfl,?_⟩;refine⟨_,rfl,x,C,dx,_,_,rfl,L5.o,T.cl,T.n1,rfl,_,rfl,_,_,rfl,gR L5.l1 hlo,_,rfl,_,rfl,_,rfl,?_⟩;refine⟨x,dx,a1,a2,a3,a4,a5,lo,ho,ow2,_,br2,n,p,man,acres,g,rfl,L5,ap,by lia,by lia,by lia,by lia,by lia,?_⟩;have x1:=aO L5.o L5.l1 0xC;have x2:=aO L5.o L5.l2 0xC;have x3:=aO L5.o L5.l3 0xC;have x4:=aO L5.o L5.l4 0xC;have x5:=aO L5.o L5.l5 0xC;have out:∀c o,c≠a1->c≠a2->c≠a3->c≠a4->c≠a5->H5 c=some o->rK H5 a1 a2 a3 a4 a5 lo ho ow2 0x7C br2 n p man acres g c=some o:=fun c o c1 c2 c3 c4 c5 q=>by
  unfold rK;rw[ak c5,ak c4,ak c3,ak c2,ak c1];exact q
 refine k g r _ hg hr0 (A0m hrg) ⟨out _ _ x1 x2 x3 x4 x5 L5.o,?_,?_,?_,?_,?_⟩ ?_ ?_ fun c o c1 c2 c3 c4 c5 q=>out c o c1 c2 c3 c4 c5 (f5 c o c3 c4 c5 q)
 ·unfold rK;rw[ak ap.n15,ak ap.n14,ak ap.n13,ak ap.n12,ao]
 ·unfold rK;rw[ak ap.n25,ak ap.n24,ak ap.n23,ao]
 ·unfold rK;rw[ak ap.n35,ak ap.n34,ao]
 ·unfold rK;rw[ak ap.n45,ao]
 ·unfold rK;exact ao
 ·exact out _ _ (aO hg5 L5.l1 0xC) (aO hg5 L5.l2 0xC) (aO hg5 L5.l3 0xC) (aO hg5 L5.l4 0xC) (aO hg5 L5.l5 0xC) hg5
 ·exact out _ _ (aO Px L5.l1 0xC) (aO Px L5.l2 0xC) (aO Px L5.l3 0xC) (aO Px L5.l4 0xC) (aO Px L5.l5 0xC) Px
abbrev Km:Stmt:=top 13
abbrev Xz:Stmt:=top 24
def KTp(K:PySem.W.Frag)(a:Addr)(xs:List V):Prop:=∃(o:Obj)(its:Array Value)(n:Nat),K.lookup a=some o/\o.cls=.type "tuple"/\o.data=.seq its n/\its.size<=sizeLine/\Vals xs its.toList
def KTp.sq(h:KTp K a xs)(H:Hp):bN K H a xs:=.inr h
structure XD(K:PySem.W.Frag)(P:Params)(mg:Str->Option Value):Prop where
 bounds:∃a b1 b2 b3 b4 b5 b6 b7,mg "BOUNDS"=some 0x4E/\KD K P a [("day",.ref b1),("acres",.ref b2),("service",.ref b3),("bears",.ref b4),("edge",.ref b5),("number",.ref b6),("entry",.ref b7)]/\KTp K b2 [.int 1,.int 9999]
 crown:∃t,mg "CROWN"=some (.str "" t)
inductive Hh(vs:List V)(H:Hp)(Q:VK)(cH:XK):Prop
 |mk(n:Int)(_:vs=[.str "acres",.int n])(_:1<=n)(_:n<=9999)(_:Q (.bl true) H):Hh vs H Q cH
inductive DN(vs:List V)(H:Hp)(Q:VK)(cH:XK):Prop
 |mk(n:Int)(_:vs=[.int n])(_:1<=n)(_:n<=9999)(_:Q .non H):DN vs H Q cH
abbrev nu(v:V):List 0x2B:=[(.inr "",v)]
inductive Af(C:Addr)(vs:List V)(H:Hp)(Q:VK)(cH:XK):Prop
 |mk(x dx:Addr)(n:Int)(_:vs=[.ref x,.int n])(_:H x=some (.ins C dx []))(_:1<=n)(_:n<=9999)(_:∀a1 a2 a3 a4 a5 t H',(∀c o,c≠x->H c=some o->H' c=some o)->cA C H' x dx a1 a2 a3 a4 a5 (nu .non) (nu (.str "")) (nu (.int n)) (nu 0x58) (nu (.int n))->Rz a1 a2 a3 a4 a5->H a1=none->H a2=none->H a3=none->H a4=none->H a5=none->H t=none->je H' t 0 1->Q .non H'):Af C vs H Q cH
def iQ{k v:Expr}{tk:TE}(hk:PE X k tk)(hv:PE X v tv):PE X (.Dict [some k] [v] pos) (pL [(tk,tv)]):=by
 refine K6 ?h ?a ?b ?c ?d
 case a=>exact rfl
 case b=>exact rfl
 case c=>exact List.cons_ne_nil _ _
 case d=>exact A0V rfl
 case h=>exact iK hk hv K5
def Ag{f:Str}{rest:TS}(h:tv σ H fun y H1=>ta σ H1 fun x H2=>zf K f {D with nx:=rest D} σ y x H2):Gb (a0u K ta tv f) rest D σ H:=h
def a1a{f:Str}(h:tv σ H fun y H1=>ta σ H1 fun x H2=>zf K f D σ y x H2):a0u K ta tv f D σ H:=h
def lR{x:Addr}{o':HO}(h0:H x=some o)(h1:H' x=some o')(f:∀c o,c≠x->H c=some o->H' c=some o):∀c,H' c=none->H c=none:=fun c hc=>by
 cases q:H c with
 |none=>rfl
 | some u=>
  by_cases hcx:c=x
  ·rw[hcx,h1]at hc;cases hc
  ·rw[f c u hcx q]at hc;cases hc
def qN{k:Str}{Q:VK}(h:∀p,H p=none->∀Q':VK,(∀y H2,H2 p=some (.dK [])->Q 0x46 (upd H2 p (.dK [(.inr k,y)]))->Q' y H2)->tv σ (upd H p (.dK [])) Q'):pL [(tC (.str k),tv)] σ H Q:=by
 intro p hp
 show tv σ _ _
 refine h p hp _ fun y H2 e q=>?_;exact⟨e,[(.inr k,y)],rfl,A0V rfl,q⟩
def rO:aP ["sort","piece","least","greatest"] A5w (aJ Km):=0x0
def ZL:aP ["acres"] ["acres"] (aJ Xz):=0x0
def a1b(F:fj K "check_acres" "check_acres" Xz f fd)(G1:aL P w K mg base bL 1 g1 d1 A5w Hh)(M1:Ms K mg "fits" g1 d1 A5w):aL P w K mg base bL 2 f fd ["acres"] DN:=by
 refine F.ok ZL 0x1 0x3;obtain⟨n,rfl,h1,h2,k⟩:=h;refine⟨_,aG (bK (ig (dJ (bG G1 hr rfl M1.m M1.k M1.b .nil bC (aj aM (aj 0x32 aC))))) cD aR),?_⟩;exact⟨_,rfl,n,rfl,h1,h2,_,rfl,cg k⟩
def a1c:aP A5s A5s (aJ Rr):=0x0
def XF(T:fK K C)(F:fj K "__init__" "Land.__init__" Rr f fd)(mo:XD K w.params mg)(G1:aL P w K mg base bL 2 g1 d1 ["acres"] DN)(M1:Ms K mg "check_acres" g1 d1 ["acres"]):aL P w K mg base bL 3 f fd A5s (Af C):=by
 obtain⟨tc,mC⟩:=mo.crown;refine F.ok a1c 0x1 0x3;obtain⟨x,dx,n,rfl,hx,h1,h2,k⟩:=h;refine⟨_,aq (bM (bG G1 hr rfl M1.m M1.k M1.b .nil bC 0x2C))
  (aq (eF 0x32 (iQ 0x41 m7) rfl)
  (aq (eF 0x32 (iQ 0x41 0x41) rfl)
  (aq (eF 0x32 (iQ 0x41 0xF) rfl)
  (aq (eF 0x32 (iQ 0x41 (cu (aj aA (aj aA aC)))) rfl)
  (aG (eF 0x32 (iQ 0x41 0xF) rfl)))))),?_⟩
 refine⟨_,rfl,n,rfl,h1,h2,?_⟩;refine Ag (qN (k:="") (tv:=tC .non) fun a1 e1 Q1 k1=>k1 _ _ ao ?_);have n1:x≠a1:=au hx e1;refine⟨_,rfl,x,C,dx,_,rfl,by rw[ak n1,ak n1];exact hx,T.cl,T.n1,A0y rfl,?_⟩;generalize hH1:upd _ x _=H1;have x1:H1 x=some (.ins C dx [("lord_of",.ref a1)]):=by rw[<-hH1,ao];rfl
 have p1:H1 a1=some (.dK (nu .non)):=by rw[<-hH1,ak (A0m n1),ao]
 have f1:∀c o,c≠x->H c=some o->H1 c=some o:=fun c o hc ho=>by rw[<-hH1,ak hc,ak (au ho e1),ak (au ho e1)];exact ho
 have z1:∀c,H1 c=none->H c=none:=lR hx x1 f1;clear hH1;refine Ag (qN (k:="") (tv:=tC (.str "")) fun a2 e2 Q2 k2=>k2 _ _ ao ?_);have n2:x≠a2:=au x1 e2;refine⟨_,rfl,x,C,dx,_,rfl,by rw[ak n2,ak n2];exact x1,T.cl,T.n2,A0y rfl,?_⟩;generalize hH2:upd _ x _=H2;have x2:H2 x=some (.ins C dx [("lord_of",.ref a1),("holder_of",.ref a2)]):=by rw[<-hH2,ao];rfl
 have p2:H2 a2=some (.dK (nu (.str ""))):=by rw[<-hH2,ak (A0m n2),ao]
 have f2:∀c o,c≠x->H1 c=some o->H2 c=some o:=fun c o hc ho=>by rw[<-hH2,ak hc,ak (au ho e2),ak (au ho e2)];exact ho
 have z2:∀c,H2 c=none->H1 c=none:=lR x1 x2 f2;clear hH2;refine Ag (qN (k:="") (tv:=za 1) fun a3 e3 Q3 k3=>⟨_,rfl,k3 _ _ ao ?_⟩);have n3:x≠a3:=au x2 e3;refine⟨_,rfl,x,C,dx,_,rfl,by rw[ak n3,ak n3];exact x2,T.cl,T.n3,A0y rfl,?_⟩;generalize Pz:upd _ x _=H3;have x3:H3 x=some (.ins C dx [("lord_of",.ref a1),("holder_of",.ref a2),("own_of",.ref a3)]):=by rw[<-Pz,ao];rfl
 have p3:H3 a3=some (.dK (nu (.int n))):=by rw[<-Pz,ak (A0m n3),ao]
 have f3:∀c o,c≠x->H2 c=some o->H3 c=some o:=fun c o hc ho=>by rw[<-Pz,ak hc,ak (au ho e3),ak (au ho e3)];exact ho
 have z3:∀c,H3 c=none->H2 c=none:=lR x2 x3 f3;clear Pz;refine Ag (qN (k:="") (tv:=WD (sJ (tC (.int 0)) (sJ (tC (.int 1)) lC))) fun a4 e4 Q4 k4=>⟨small 0xA,fun t ht=>k4 _ _ (by rw[ak (fun q=>by rw[<-q,ao]at ht;cases ht)];exact ao) ?_⟩);have n4:x≠a4:=au x3 e4;have t4:t≠a4:=fun q=>by rw[q,ao]at ht;cases ht
 have ht0:H3 t=none:=by rw[ak t4]at ht;exact ht
 have nt:x≠t:=au x3 ht0;refine⟨_,rfl,x,C,dx,_,rfl,by rw[ak n4,ak nt,ak n4];exact x3,T.cl,T.n4,A0y rfl,?_⟩;generalize yC:upd _ x _=H4;have x4:H4 x=some (.ins C dx [("lord_of",.ref a1),("holder_of",.ref a2),("own_of",.ref a3),("service_of",.ref a4)]):=by rw[<-yC,ao];rfl
 have p4:H4 a4=some (.dK (nu 0x58)):=by rw[<-yC,ak (A0m n4),ao]
 have f4:∀c o,c≠x->H3 c=some o->H4 c=some o:=fun c o hc ho=>by rw[<-yC,ak hc,ak (au ho e4),ak (au ho ht0),ak (au ho e4)];exact ho
 have pt:H4 t=some (.tup [.int 0,.int 1]):=by rw[<-yC,ak (A0m nt),ak t4,ao]
 have z4:∀c,H4 c=none->H3 c=none:=lR x3 x4 f4;clear yC;refine a1a (qN (k:="") (tv:=za 1) fun a5 e5 Q5 k5=>⟨_,rfl,k5 _ _ ao ?_⟩);have n5:x≠a5:=au x4 e5;refine⟨_,rfl,x,C,dx,_,rfl,by rw[ak n5,ak n5];exact x4,T.cl,T.n5,A0y rfl,?_⟩;generalize XH:upd _ x _=H5;have x5:H5 x=some (.ins C dx [("lord_of",.ref a1),("holder_of",.ref a2),("own_of",.ref a3),("service_of",.ref a4),("breadth_of",.ref a5)]):=by rw[<-XH,ao];rfl
 have p5:H5 a5=some (.dK (nu (.int n))):=by rw[<-XH,ak (A0m n5),ao]
 have f5:∀c o,c≠x->H4 c=some o->H5 c=some o:=fun c o hc ho=>by rw[<-XH,ak hc,ak (au ho e5),ak (au ho e5)];exact ho
 have z5:∀c,H5 c=none->H4 c=none:=lR x4 x5 f5;clear XH;have q15:=f2 _ _ (A0m n1) p1;have q25:=f3 _ _ (A0m n1) q15;have q35:=f4 _ _ (A0m n1) q25;have q45:=f5 _ _ (A0m n1) q35;have r3:=f3 _ _ (A0m n2) p2;have r4:=f4 _ _ (A0m n2) r3;have r5:=f5 _ _ (A0m n2) r4;have s4:=f4 _ _ (A0m n3) p3;have s5:=f5 _ _ (A0m n3) s4;have u5:=f5 _ _ (A0m n4) p4;refine k a1 a2 a3 a4 a5 t _ (fun c o hc ho=>f5 _ _ hc (f4 _ _ hc (f3 _ _ hc (f2 _ _ hc (f1 _ _ hc ho))))) ⟨x5,q45,r5,s5,u5,p5⟩
  ⟨au p1 e2,au q15 e3,au q25 e4,au q35 e5,au p2 e3,au r3 e4,au r4 e5,au p3 e4,au s4 e5,au p4 e5⟩
  e1 (z1 _ e2) (z1 _ (z2 _ e3)) (z1 _ (z2 _ (z3 _ e4))) (z1 _ (z2 _ (z3 _ (z4 _ e5)))) (z1 _ (z2 _ (z3 _ ht0))) (f5 _ _ (A0m nt) pt)
abbrev DP:Stmt:=top 53
def Nu:∃k1 x1 k2 x2 x3 k4 x4 k5 x5 x6 k7 x7 x8 x9 k10 x10 k11 x11 k12 x12 k13 x13 x14 x15 x16 x17 x18 j0 j1 j2 j3 j4 j5 j6 j7 p0 p1 p2 p3 p4 p5 p6 p7 q q',iJ DP=[.Return (some (.Dict [some (.Constant (.str "lords") j0 p0),some (.Constant (.str "holders") j1 p1),some (.Constant (.str "own") j2 p2),some (.Constant (.str "due") j3 p3),some (.Constant (.str "known") j4 p4),some (.Constant (.str "heirs") j5 p5),some (.Constant (.str "dead") j6 p6),some (.Constant (.str "lieges") j7 p7)] [.Dict [some (.Constant (.str "") k1 x1)] [.Constant .none k2 x2] x3,.Dict [some (.Constant (.str "") k4 x4)] [.Constant (.str "") k5 x5] x6,.Dict [some (.Constant (.str "") k7 x7)] [.Name "_law_acres" x8] x9,.Dict [some (.Constant (.str "") k10 x10)] [.Tuple [.Constant (.int 0) k11 x11,.Constant (.int 1) k12 x12] k13 x13] x14,.List [] x15,.Dict [] [] x16,.List [] x17,.Dict [] [] x18] q)) q']:=⟨_,_,_,_,_,_,_,_,_,_,_,_,_,_,_,_,_,_,_,_,_,_,_,_,_,_,_,_,_,_,_,_,_,_,_,_,_,_,_,_,_,_,_,_,_,rfl⟩
def Ss(hv:∀p,PE X (.Name "_law_acres" p) (za 0)):BP X (iJ DP) (Ww (pL [(tC (.str "lords"),pL [(tC (.str ""),tC .non)]),(tC (.str "holders"),pL [(tC (.str ""),tC (.str ""))]),(tC (.str "own"),pL [(tC (.str ""),za 0)]),(tC (.str "due"),pL [(tC (.str ""),WD (sJ (tC (.int 0)) (sJ (tC (.int 1)) lC)))]),(tC (.str "known"),a0w lC),(tC (.str "heirs"),Gw),(tC (.str "dead"),a0w lC),(tC (.str "lieges"),Gw)])):=by
 obtain⟨k1,x1,k2,x2,x3,k4,x4,k5,x5,x6,k7,x7,x8,x9,k10,x10,k11,x11,k12,x12,k13,x13,x14,x15,x16,x17,x18,j0,j1,j2,j3,j4,j5,j6,j7,p0,p1,p2,p3,p4,p5,p6,p7,q,q',h⟩:=Nu;rw[h];refine aG ?_;refine aZ ?_;refine K6 ?h ?a ?b ?c ?d
 case a=>exact rfl
 case b=>exact rfl
 case c=>exact List.cons_ne_nil _ _
 case d=>exact A0V rfl
 case h=>
  refine iK (X:=X) (aM (X:=X)) ?_ ?_
  ·exact iQ (X:=X) (aM (X:=X)) (m7 (X:=X))
  refine iK (X:=X) (aM (X:=X)) ?_ ?_
  ·exact iQ (X:=X) (aM (X:=X)) (aM (X:=X))
  refine iK (X:=X) (aM (X:=X)) ?_ ?_
  ·exact iQ (X:=X) (aM (X:=X)) (hv _)
  refine iK (X:=X) (aM (X:=X)) ?_ ?_
  ·exact iQ (X:=X) (aM (X:=X)) (cu (X:=X) (aj (X:=X) (aA (X:=X)) (aj (X:=X) (aA (X:=X)) (aC (X:=X)))))
  refine iK (X:=X) (aM (X:=X)) ?_ ?_
  ·exact cL (X:=X) (aC (X:=X))
  refine iK (X:=X) (aM (X:=X)) ?_ ?_
  ·exact jm (X:=X)
  refine iK (X:=X) (aM (X:=X)) ?_ ?_
  ·exact cL (X:=X) (aC (X:=X))
  refine iK (X:=X) (aM (X:=X)) ?_ ?_
  ·exact jm (X:=X)
  exact K5
def jo{a:V}{r:List (TE×TE)}{Q:List (V×V)->Hp->Prop}(h:tv σ H fun y H2=>pY r σ H2 fun ps H3=>Q ((a,y)::ps) H3):pY ((tC a,tv)::r) σ H Q:=h
def Sv{Q:List (V×V)->Hp->Prop}(h:Q [] H):pY [] σ H Q:=h
def tRD(h:∀p,H p=none->pY Pq σ (upd H p (.dK [])) fun ps H2=>H2 p=some (.dK [])/\∃kvs:List 0x2B,ps=kvs.map (fun kv=>(kV kv.1,kv.2))/\kvs.length<=15/\D.rt 0x46 (upd H2 p (.dK (dO [] kvs)))):Ww (pL Pq) D σ H:=h
def fO(p1 p2 p3 p4 p5 ph pd p8:Addr):List 0x2B:=[(.inr "lords",.ref p1),(.inr "holders",.ref p2),(.inr "own",.ref p3),(.inr "due",.ref p4),(.inr "known",.ref p5),(.inr "heirs",.ref ph),(.inr "dead",.ref pd),(.inr "lieges",.ref p8)]
section
variable{p1 p2 p3 p4 p5 ph pd p8:Addr}
def Hi:[(V.str "lords",V.ref p1),(V.str "holders",V.ref p2),(V.str "own",V.ref p3),(V.str "due",V.ref p4),(V.str "known",V.ref p5),(V.str "heirs",V.ref ph),(V.str "dead",V.ref pd),(V.str "lieges",V.ref p8)]=(0x2A).map fun kv=>(kV kv.1,kv.2):=rfl
def Hj:bJ (dO [] 0x2A) (.inr "lords")=some (.ref p1):=by
 unfold dO fO;simp only[A1c,A2q];rw[bI,A0f 0x7,bI,A0f 0x7,bI,A0f 0x7,bI,A0f 0x7,bI,A0f 0x7,bI,A0f 0x7,bI,A0f 0x7,bI,A0i rfl]
def Ah:bJ (dO [] 0x2A) (.inr "holders")=some (.ref p2):=by
 unfold dO fO;simp only[A1c,A2q];rw[bI,A0f 0x7,bI,A0f 0x7,bI,A0f 0x7,bI,A0f 0x7,bI,A0f 0x7,bI,A0f 0x7,bI,A0i rfl]
def Sy:bJ (dO [] 0x2A) (.inr "own")=some (.ref p3):=by
 unfold dO fO;simp only[A1c,A2q];rw[bI,A0f 0x7,bI,A0f 0x7,bI,A0f 0x7,bI,A0f 0x7,bI,A0f 0x7,bI,A0i rfl]
def SJ:bJ (dO [] 0x2A) (.inr "due")=some (.ref p4):=by
 unfold dO fO;simp only[A1c,A2q];rw[bI,A0f 0x7,bI,A0f 0x7,bI,A0f 0x7,bI,A0f 0x7,bI,A0i rfl]
def Hl:bJ (dO [] 0x2A) (.inr "known")=some (.ref p5):=by
 unfold dO fO;simp only[A1c,A2q];rw[bI,A0f 0x7,bI,A0f 0x7,bI,A0f 0x7,bI,A0i rfl]
def Ho:bJ (dO [] 0x2A) (.inr "heirs")=some (.ref ph):=by
 unfold dO fO;simp only[A1c,A2q];rw[bI,A0f 0x7,bI,A0f 0x7,bI,A0i rfl]
def Nv:bJ (dO [] 0x2A) (.inr "dead")=some (.ref pd):=by
 unfold dO fO;simp only[A1c,A2q];rw[bI,A0f 0x7,bI,A0i rfl]
def DQ:bJ (dO [] 0x2A) (.inr "lieges")=some (.ref p8):=by
 unfold dO fO;simp only[A1c,A2q];rw[bI,A0i rfl]
def SM:(dO [] 0x2A).length<=20:=A0z (lD 0x2A []) (show 0+8<=20 by decide)
end
structure fZ(H:Hp)(B l h o d kn dd:Addr)(kvs lo ho ow du:List 0x2B)(ks:List Str):Prop where
 b:H B=some 0x16
 vl:bJ kvs (.inr "lords")=some (.ref l)
 vh:bJ kvs (.inr "holders")=some (.ref h)
 vo:bJ kvs (.inr "own")=some (.ref o)
 vd:bJ kvs (.inr "due")=some (.ref d)
 vk:bJ kvs (.inr "known")=some (.ref kn)
 vx:bJ kvs (.inr "dead")=some (.ref dd)
 l:H l=some (.dK lo)
 h:H h=some (.dK ho)
 o:H o=some (.dK ow)
 d:H d=some (.dK du)
 k:H kn=some (.lst (ks.map V.str))
 len:kvs.length<=20
def fZ.same{B l h o d kn dd:Addr}{lo:List 0x2B}(k:fZ H B l h o d kn dd kvs lo ho ow du ks)(s:Same H H'):fZ H' B l h o d kn dd kvs lo ho ow du ks:=
 ⟨s _ _ k.b,k.vl,k.vh,k.vo,k.vd,k.vk,k.vx,s _ _ k.l,s _ _ k.h,s _ _ k.o,s _ _ k.d,s _ _ k.k,k.len⟩
structure BxL(H:Hp)(kvs:List 0x2B)(he dd lg:Addr)(hs lv:List 0x2B)(ds:List Str):Prop where
 vh:bJ kvs (.inr "heirs")=some (.ref he)
 vg:bJ kvs (.inr "lieges")=some (.ref lg)
 h:H he=some (.dK hs)
 g:H lg=some (.dK lv)
 x:H dd=some (.lst (ds.map V.str))
def BxL.same{lv:List 0x2B}{he dd lg:Addr}{ds:List Str}(k:BxL H kvs he dd lg hs lv ds)(s:Same H H'):BxL H' kvs he dd lg hs lv ds:=⟨k.vh,k.vg,s _ _ k.h,s _ _ k.g,s _ _ k.x⟩
inductive Ai(vs:List V)(H:Hp)(Q:VK)(cH:XK):Prop
 |mk(n:Int)(_:vs=[.int n])(_:∀B l h o d kn dd he lg t kvs H',Same H H'->(∀a∈[B,l,h,o,d,kn,dd,he,lg,t],H a=none)->[B,l,h,o,d,kn,dd,he,lg].Nodup->fZ H' B l h o d kn dd kvs (nu .non) (nu (.str "")) (nu (.int n)) (nu 0x58) []->BxL H' kvs he dd lg [] [] []->je H' t 0 1->Q (.ref B) H'):Ai vs H Q cH
def a1d:aP ["_law_acres"] ["_law_acres"] (aJ DP):=0x0
def XJ(F:fj K "_law_book" "_law_book" DP f fd):aL P w K mg base bL 1 f fd ["_law_acres"] Ai:=by
 refine F.ok a1d 0x1 0x3;obtain⟨n,rfl,k⟩:=h;refine⟨Ww (pL _),@Ss _ ?hv,?y⟩
 case hv=>exact fun p=>pv 0
 refine tRD fun B hB=>?_;have sB:Same H (upd H B (.dK [])):=aK hB _;have kB:(upd H B (.dK [])) B=some (.dK []):=ao;generalize upd H B (.dK [])=H0 at sB kB ⊢;refine jo (qN (k:="") (tv:=tC .non) fun p1 e1 Q1 k1=>k1 _ _ ao ?_);generalize hH1:upd _ p1 (.dK [(.inr "",_)])=H1;have s1:Same H0 H1:=fun c u q=>by rw[<-hH1,ak (au q e1),ak (au q e1)];exact q
 have c1:H1 p1=some (.dK (nu .non)):=by rw[<-hH1,ao]
 clear hH1;refine jo (qN (k:="") (tv:=tC (.str "")) fun p2 e2 Q2 k2=>k2 _ _ ao ?_);generalize hH2:upd _ p2 (.dK [(.inr "",_)])=H2;have s2:Same H1 H2:=fun c u q=>by rw[<-hH2,ak (au q e2),ak (au q e2)];exact q
 have c2:H2 p2=some (.dK (nu (.str ""))):=by rw[<-hH2,ao]
 clear hH2;refine jo (qN (k:="") (tv:=za 0) fun p3 e3 Q3 k3=>⟨_,rfl,k3 _ _ ao ?_⟩);generalize Pz:upd _ p3 (.dK [(.inr "",_)])=H3;have s3:Same H2 H3:=fun c u q=>by rw[<-Pz,ak (au q e3),ak (au q e3)];exact q
 have c3:H3 p3=some (.dK (nu (.int n))):=by rw[<-Pz,ao]
 clear Pz;refine jo (qN (k:="") (tv:=WD (sJ (tC (.int 0)) (sJ (tC (.int 1)) lC))) fun p4 e4 Q4 k4=>⟨small 0xA,fun t ht=>k4 _ _ (by rw[ak (fun q=>by rw[<-q,ao]at ht;cases ht)];exact ao) ?_⟩);have t4:t≠p4:=fun q=>by rw[q,ao]at ht;cases ht
 have ht0:H3 t=none:=by rw[ak t4]at ht;exact ht
 generalize yC:upd _ p4 (.dK [(.inr "",_)])=H4;have s4:Same H3 H4:=fun c u q=>by rw[<-yC,ak (au q e4),ak (au q ht0),ak (au q e4)];exact q
 have pt:H4 t=some (.tup [.int 0,.int 1]):=by rw[<-yC,ak t4,ao]
 have c4:H4 p4=some (.dK (nu 0x58)):=by rw[<-yC,ao]
 clear yC;refine jo ⟨small 0xA,fun p5 e5=>?_⟩
 apply 0o1 H4 p5 e5 s5 c5 H5
 refine jo fun ph eh=>?_
 apply 0o1 H5 ph eh s6 c6 H6
 refine jo ⟨small 0xA,fun pd ed=>?_⟩
 apply 0o1 H6 pd ed s7 c7 H7
 refine jo fun p8 e8=>Sv ?_
 apply 0o1 H7 p8 e8 s8 c8 H8
 have w01:=sB.trans s1;have w02:=w01.trans s2;have w03:=w02.trans s3;have w04:=w03.trans s4;have w06:=(w04.trans s5).trans s6;have w78:=s7.trans s8;have w58:=(s5.trans s6).trans w78;have w48:=s4.trans w58;have w38:=s3.trans w48;have w28:=s2.trans w38;have w08:=sB.trans (s1.trans w28);have kB1:=s1 _ _ kB;have kB2:=s2 _ _ kB1;have kB3:=s3 _ _ kB2;have kB8:=w48 _ _ kB3;have n1:=au kB e1;have n2:=au kB1 e2;have n3:=au kB2 e3;have n4:=au kB3 e4;have out:∀c u,c≠B->H8 c=some u->(upd H8 B (.dK (dO [] 0x2A))) c=some u:=fun c u hc q=>by rw[ak hc];exact q
 refine⟨kB8,fO p1 p2 p3 p4 p5 ph pd p8,Hi,A0V rfl,?_⟩;have d5:=((s6.trans w78)) _ _ c5;have d7:=s8 _ _ c7;have d1:=w28 _ _ c1;have d2:=w38 _ _ c2;have d3:=w48 _ _ c3;have d4:=w58 _ _ c4;have dt:=w58 _ _ pt;have d6:=w78 _ _ c6;have f1:=sB.free e1;have f2:=w01.free e2;have f3:=w02.free e3;have f4:=w03.free e4;have f5:=w04.free e5;have f6:=(w04.trans s5).free eh;have f7:=w06.free ed;have f8:=(w06.trans s7).free e8;have f9:=w03.free ht0;have m1:∀{a:Addr}{u:HO},H3 a=some u->H7 a=some u:=fun h=>(w58.trans 0x6D) _ _ (s4 _ _ h) |> fun h8=>by
  have:=(s4.trans (s5.trans (s6.trans s7))) _ _ h;exact this
 have nB6:=au ((s5 _ _ (s4 _ _ kB3))) eh;have nB8:=au (m1 kB3) e8;refine k B p1 p2 p3 p4 p5 pd ph p8 t _ _ (bU w08 hB) (fun a ha=>?_) ?_
  ⟨ao,Hj,Ah,Sy,SJ,Hl,Nv,out _ _ (A0m n1) d1,out _ _ (A0m n2) d2,out _ _ (A0m n3) d3,out _ _ (A0m n4) d4,out _ _ (aO d5 kB8 0xC) d5,SM⟩
  ⟨Ho,DQ,out _ _ (A0m nB6) d6,out _ _ (A0m nB8) c8,out _ _ (aO d7 kB8 0xC) d7⟩
  (out _ _ (aO dt kB8 0xC) dt)
 ·simp only[A0d,A0s,A1d]at ha;rcases ha with h|h|h|h|h|h|h|h|h|h<;>(rw[h];assumption)
 ·have x12:=au c1 e2;have x13:=au (s2 _ _ c1) e3;have x14:=au (s3 _ _ (s2 _ _ c1)) e4;have x23:=au c2 e3;have x24:=au (s3 _ _ c2) e4;have x34:=au c3 e4;have l5:=fun{a:Addr}{u:List (Key×V)}(h:H8 a=some (.dK u))=>aO h d5 0xC;have l7:=fun{a:Addr}{u:List (Key×V)}(h:H8 a=some (.dK u))=>aO h d7 0xC;have y57:=au (s6 _ _ c5) ed;have z6:=fun{a:Addr}{u:HO}(h:H5 a=some u)=>au h eh;have z8:=fun{a:Addr}{u:HO}(h:H7 a=some u)=>au h e8;have g34:=s4.trans s5;have g1:=z6 (g34 _ _ (s3 _ _ (s2 _ _ c1)));have g2:=z6 (g34 _ _ (s3 _ _ c2));have g3:=z6 (g34 _ _ c3);have g4:=z6 (s5 _ _ c4);have g5:=z6 c5;have r1:=z8 (m1 (s3 _ _ (s2 _ _ c1)));have r2:=z8 (m1 (s3 _ _ c2));have r3:=z8 (m1 c3);have r4:=z8 ((s5.trans (s6.trans s7)) _ _ c4);have r5:=z8 ((s6.trans s7) _ _ c5);have r6:=z8 (s7 _ _ c6);have r7:=z8 c7;have a1:=l5 d1;have a2:=l5 d2;have a3:=l5 d3;have a4:=l5 d4;have a0:=l5 kB8;have b0:=l7 kB8;have b1:=l7 d1;have b2:=l7 d2;have b3:=l7 d3;have b4:=l7 d4;have b6:=l7 d6;simp only[A0L,A0d,A0s,A1d,A4a,A3L,and_true,A4y];refine⟨⟨n1,n2,n3,n4,a0,b0,nB6,nB8⟩,⟨x12,x13,x14,a1,b1,g1,r1⟩,⟨x23,x24,a2,b2,g2,r2⟩,⟨x34,a3,b3,g3,r3⟩,⟨a4,b4,g4,r4⟩,⟨y57,g5,r5⟩,⟨A0m b6,r7⟩,r6⟩
end M
namespace L2
open PySem PySem.W PyProof.Rows
def pat(p:Array Nat)(k:Nat):Nat:=p.getD k 0
structure Ord(n:Nat)(lt:Nat->Nat->Bool):Prop where
 tr:∀i j k,i<n->j<n->k<n->lt i j=true->lt j k=true->lt i k=true
 tot:∀i j,i<n->j<n->i≠j->lt i j=false->lt j i=true
def Cmp(n:Nat)(lt:Nat->Nat->Bool)(cmp:Nat->Nat->(Bool->Shared->Prop)->Shared->Prop)(J:Shared->Prop):Prop:=
 ∀i j C s,i<n->j<n->i≠j->J s->(∀s',J s'->C (lt i j) s')->cmp i j C s
def Pm(n:Nat)(p:Array Nat):Prop:=p.Perm (List.range n).toArray
def Pm.size{p:Array Nat}(h:Pm n p):p.size=n:=by
 have:=h.size_eq
 simpa using this
def Pm.lt{p:Array Nat}(h:Pm n p){k:Nat}(hk:k<n):pat p k<n:=by
 have hs:=h.size;have hk':k<p.size:=by lia
 have hm:p[k]∈p.toList:=by simp
 have:=(A3h.mp h).mem_iff.mp hm;simp at this;unfold pat;rw[Array.getD,dif_pos hk'];exact this
def Pm.ne{p:Array Nat}(h:Pm n p)(hi:i<n)(hj:j<n)(hij:i≠j):pat p i≠pat p j:=by
 have hs:=h.size;have hi':i<p.size:=by lia
 have hj':j<p.size:=by lia
 have nd:p.toList.Nodup:=(A3h.mp h).nodup_iff.mpr (by simpa using List.nodup_range);unfold pat;rw[Array.getD,dif_pos hi',Array.getD,dif_pos hj'];intro e;have pw:=A1s.mp nd;rcases Nat.lt_or_gt_of_ne hij with h1|h1
 ·exact pw i j (by simpa using hi') (by simpa using hj') h1 (by simpa using e)
 ·exact pw j i (by simpa using hj') (by simpa using hi') h1 (by simpa using e.symm)
def vA{p q:Array Nat}(h:p[i]?=q[j]?):pat p i=pat q j:=by
 unfold pat;rw[A4i,A4i,h]
def Up(lt:Nat->Nat->Bool)(p:Array Nat)(m:Nat):Prop:=∀i j,i<j->j<m->lt (pat p i) (pat p j)=true
def Down(lt:Nat->Nat->Bool)(p:Array Nat)(m:Nat):Prop:=∀i j,i<j->j<m->lt (pat p j) (pat p i)=true
section
variable{lt:Nat->Nat->Bool}{cmp:Nat->Nat->(Bool->Shared->Prop)->Shared->Prop}{J:Shared->Prop}{p:Array Nat}
def Up.snoc(O:Ord n lt)(P:Pm n p){m:Nat}(h1:1<=m)(hm:m<n)(h:Up lt p m)(hl:lt (pat p (m-1)) (pat p m)=true):Up lt p (m+1):=by
 intro i j hij hj
 by_cases e:j=m
 ·subst e
  by_cases e2:i=j-1
  ·subst e2;exact hl
  ·exact O.tr _ _ _ (P.lt 0x4) (P.lt 0x4) (P.lt 0x4) (h i (j-1) 0x4 0x4) hl
 ·exact h i j hij 0x4
def Down.snoc(O:Ord n lt)(P:Pm n p){m:Nat}(h1:1<=m)(hm:m<n)(h:Down lt p m)(hl:lt (pat p m) (pat p (m-1))=true):Down lt p (m+1):=by
 intro i j hij hj
 by_cases e:j=m
 ·subst e
  by_cases e2:i=j-1
  ·subst e2;exact hl
  ·exact O.tr _ _ _ (P.lt 0x4) (P.lt 0x4) (P.lt 0x4) hl (h i (j-1) 0x4 0x4)
 ·exact h i j hij 0x4
theorem Hq(O:Ord n lt)(hc:Cmp n lt cmp J)(P:Pm n p){G:Nat->Shared->Prop}:∀(f m:Nat)(s:Shared),1<=m->m+f<=n->Up lt p m->J s->
  (∀r s',m<=r->r<=m+f->Up lt p r->(r<m+f->lt (pat p r) (pat p (r-1))=true)->J s'->G r s')->(kas_asc p f m).kasWp cmp G s
 |0,m,s,h1,hf,hU,hJ,k=>k m s 0x33 0x33 hU (fun h=>absurd h (A1H _)) hJ
 | f+1,m,s,h1,hf,hU,hJ,k=>by
  show cmp (p.getD m 0) (p.getD (m-1) 0) _ s
  refine hc _ _ _ s (P.lt (k:=m) 0x4) (P.lt (k:=m-1) 0x4) (P.ne 0x4 0x4 0x4) hJ fun s' hJ'=>?_
  show KasT.kasWp cmp (if lt (pat p m) (pat p (m-1))=true then .ret m else kas_asc p f (m+1)) G s'
  cases e:lt (pat p m) (pat p (m-1))with
  | true=>
   rw[A0i rfl];exact k m s' 0x33 0x4 hU (fun _=>e) hJ'
  | false=>
   rw[A0f A0r];have hl:=O.tot _ _ (P.lt (k:=m) 0x4) (P.lt (k:=m-1) 0x4) (P.ne 0x4 0x4 0x4) e;exact Hq O hc P f (m+1) s' 0x4 0x4 (hU.snoc O P h1 0x4 hl) hJ' fun r s'' a b c d e'=>k r s'' 0x4 0x4 c (fun h=>d 0x4) e'
theorem Ko(O:Ord n lt)(hc:Cmp n lt cmp J)(P:Pm n p){G:Array Nat×Nat×Nat->Shared->Prop}:∀(f m:Nat)(s:Shared),1<=m->m+f<=n->Down lt p m->J s->
  (∀r s',m<=r->r<=m+f->Down lt p r->J s'->G (p,r,0) s')->(kas_desc f p m 0).kasWp cmp G s
 |0,m,s,h1,hf,hU,hJ,k=>k m s 0x33 0x33 hU hJ
 | f+1,m,s,h1,hf,hU,hJ,k=>by
  show cmp (p.getD m 0) (p.getD (m-1) 0) _ s
  refine hc _ _ _ s (P.lt (k:=m) 0x4) (P.lt (k:=m-1) 0x4) (P.ne 0x4 0x4 0x4) hJ fun s' hJ'=>?_;cases e:lt (pat p m) (pat p (m-1))with
  | true=>
   have e':lt (p.getD m 0) (p.getD (m-1) 0)=true:=e;rw[e'];dsimp only;rw[A0i rfl,A0f (A1H 0)];exact Ko O hc P f (m+1) s' 0x4 0x4 (hU.snoc O P h1 0x4 e) hJ' fun r s'' a b c d=>k r s'' 0x4 0x4 c d
  | false=>
   have e':lt (p.getD m 0) (p.getD (m-1) 0)=false:=e;rw[e'];dsimp only;rw[A0f A0r];have hl:=O.tot _ _ (P.lt (k:=m) 0x4) (P.lt (k:=m-1) 0x4) (P.ne 0x4 0x4 0x4) e;refine hc _ _ _ s' (P.lt (k:=m-1) 0x4) (P.lt (k:=m) 0x4) (P.ne 0x4 0x4 0x4) hJ' fun s'' a1e=>?_;have hl':lt (p.getD (m-1) 0) (p.getD m 0)=true:=hl;rw[hl'];dsimp only;rw[A0i rfl];exact k m s'' 0x33 0x4 hU a1e
def SN(P:Pm n p)(i j:Nat):Pm n (kas_rev p i j):=(mirror_perm p i j _).trans P
def SQ(P:Pm n p){r:Nat}(hr:r<=n)(k:Nat):pat (kas_rev p 0 r) k=if k<r then pat p (r-1-k)else pat p k:=by
 have h:=getElem?_mirror_all (xs:=p) (i:=0) (j:=r) (by rw[P.size];exact hr) k
 by_cases hk:k<r
 ·rw[A0i hk];rw[A0i ⟨A1j _,hk⟩,Nat.zero_add]at h;exact vA h
 ·rw[A0f hk];rw[A0f (fun z=>hk z.2)]at h;exact vA h
def a1f(P:Pm n p){r:Nat}(hr:r<=n)(h:Down lt p r):Up lt (kas_rev p 0 r) r:=by
 intro i j hij hj;rw[SQ P hr,SQ P hr,A0i 0x4,A0i hj];exact h _ _ 0x4 0x4
def XM(n:Nat)(lt:Nat->Nat->Bool)(J:Shared->Prop)(G:Nat×Array Nat->Shared->Prop):Prop:=∀q p' s',Pm n p'->1<=q->q<=n->Up lt p' q->J s'->G (q,p') s'
def T4(O:Ord n lt)(hc:Cmp n lt cmp J)(P:Pm n p)(h2:2<=n){G:Nat×Array Nat->Shared->Prop}(hJ:J s)(k:XM n lt J G):(kas_count n p).kasWp cmp G s:=by
 unfold kas_count;rw[KasT.kasWp_bind];refine Hq O hc P (n-1) 1 s 0x33 0x4 (fun i j hij hj=>by lia) hJ fun r s' h1 hr hU hstop hJ'=>?_
 by_cases e:r=n
 ·subst e;rw[A0i 0xA];exact k r p s' P h1 0x33 hU hJ'
 ·rw [A0f (by simpa using e)]
  by_cases e1:r>1
  ·rw[A0i e1];refine hc _ _ _ s' (P.lt (k:=0) 0x4) (P.lt (k:=r-1) 0x4) (P.ne 0x4 0x4 0x4) hJ' fun s'' a1e=>?_;have hl:lt (p.getD 0 0) (p.getD (r-1) 0)=true:=hU 0 (r-1) 0x4 0x4;rw[hl];dsimp only;rw[A0i rfl];exact k r p s'' P h1 0x4 hU a1e
  ·rw [A0f e1];have er:r=1:=by lia
   subst er;have h0:=hstop 0x4;unfold kas_descPart;rw[KasT.kasWp_bind];refine Ko O hc P (n-(1+1)) (1+1) s' 0x4 0x4 (fun i j hij hj=>?_) hJ' fun r s'' a b c d=>?_
   ·have ei:i=0:=by lia
    have ej:j=1:=by lia
    subst ei ej;exact h0
   ·rw[A0f (A1H 0)];unfold kas_tail3;rw[KasT.kasWp_bind];refine Hq O hc (SN P 0 r) (n-r) r s'' 0x4 0x4 (a1f P 0x4 c) d fun q s3 h3 h4 h5 _ h6=>?_;exact k q _ s3 (SN P 0 r) 0x4 0x4 h5 h6
theorem vB(O:Ord n lt)(hc:Cmp n lt cmp J)(P:Pm n p){k:Nat}(hk:k<n)(hU:Up lt p k){G:Nat->Shared->Prop}:∀(f l r:Nat)(s:Shared),r-l<=f->l<=r->r<=k->(∀i,i<l->lt (pat p i) (pat p k)=true)->(∀i,r<=i->i<k->lt (pat p k) (pat p i)=true)->J s->
  (∀l' s',l'<=k->(∀i,i<l'->lt (pat p i) (pat p k)=true)->(∀i,l'<=i->i<k->lt (pat p k) (pat p i)=true)->J s'->G l' s')->(kas_place p k f l r).kasWp cmp G s
 |0,l,r,s,h0,h1,h2,hlo,hhi,hJ,w=>w l s 0x4 hlo (fun i hi=>hhi i 0x4) hJ
 | f+1,l,r,s,h0,h1,h2,hlo,hhi,hJ,w=>by
  unfold kas_place
  by_cases e:l>=r
  ·rw[A0i e];exact w l s 0x4 hlo (fun i hi=>hhi i 0x4) hJ
  ·rw [A0f e];have hm1:l<=(l+r)/2:=by lia
   have hm2:(l+r)/2<r:=by lia
   generalize hmd:(l+r)/2=md at hm1 hm2;refine hc _ _ _ s (P.lt (k:=k) hk) (P.lt (k:=md) 0x4) (P.ne hk 0x4 0x4) hJ fun s' hJ'=>?_;cases c:lt (pat p k) (pat p md)with
   | true=>
    have c':lt (p.getD k 0) (p.getD md 0)=true:=c;rw[c'];dsimp only;rw[A0i rfl];refine vB O hc P hk hU f l md s' 0x4 hm1 0x4 hlo (fun i hi hik=>?_) hJ' w
    by_cases ei:i=md
    ·subst ei;exact c
    ·exact O.tr _ _ _ (P.lt hk) (P.lt 0x4) (P.lt 0x4) c (hU md i 0x4 hik)
   | false=>
    have c':lt (p.getD k 0) (p.getD md 0)=false:=c;rw[c'];dsimp only;rw[A0f A0r];have hl:=O.tot _ _ (P.lt hk) (P.lt (k:=md) 0x4) (P.ne hk 0x4 0x4) c;refine vB O hc P hk hU f (md+1) r s' 0x4 0x4 h2 (fun i hi=>?_) hhi hJ' w
    by_cases ei:i=md
    ·subst ei;exact hl
    ·exact O.tr _ _ _ (P.lt 0x4) (P.lt 0x4) (P.lt hk) (hU i md 0x4 0x4) hl
def T5(P:Pm n p){k l:Nat}(hk:k<n)(hl:l<=k)(i:Nat):pat (bubble p k (k-l)) i=if i=l then pat p k else if l<i/\i<=k then pat p (i-1)else pat p i:=by
 have h:=getElem?_bubble (xs:=p) (src:=k) (by rw[P.size];exact hk) (k-l) 0x4 i;rw[show k-(k-l)=l by lia]at h
 by_cases e:i=l
 ·rw[A0i e]at h ⊢;exact vA h
 ·rw[A0f e]at h ⊢
  by_cases e2:l<i/\i<=k
  ·rw[A0i e2]at h ⊢;exact vA h
  ·rw[A0f e2]at h ⊢;exact vA h
theorem T6(O:Ord n lt)(hc:Cmp n lt cmp J){G:Array Nat->Shared->Prop}:∀(f k:Nat)(p:Array Nat)(s:Shared),k+f=n->Pm n p->Up lt p k->J s->(∀p' s',Pm n p'->Up lt p' n->J s'->G p' s')->(kas_bin f p k).kasWp cmp G s
 | 0,k,p,s,hk,P,hU,hJ,w=>by
  have:k=n:=by lia
  subst this;exact w p s P hU hJ
 | f+1,k,p,s,hk,P,hU,hJ,w=>by
  unfold kas_bin;rw[KasT.kasWp_bind];refine vB O hc P 0x4 hU k 0 k s 0x4 (A1j _) 0x33 (fun i hi=>absurd hi (A4R _)) (fun i h1 h2=>by lia) hJ fun l s' hl hlo hhi hJ'=>?_;refine T6 O hc f (k+1) _ s' 0x4 ((bubble_perm p k _).trans P) (fun i j hij hj=>?_) hJ' w;rw[T5 P 0x4 hl,T5 P 0x4 hl]
  by_cases a1:i=l
  ·rw[A0i a1,A0f 0x4,A0i 0x4];exact hhi _ 0x4 0x4
  ·rw [A0f a1]
   by_cases a2:l<i
   ·rw[A0i 0x4,A0f 0x4,A0i 0x4];exact hU _ _ 0x4 0x4
   ·rw [A0f 0x4]
    by_cases a3:j=l
    ·rw[A0i a3];exact hlo i 0x4
    ·rw [A0f a3]
     by_cases a4:l<j
     ·rw[A0i 0x4]
      by_cases a5:i=j-1
      ·lia
      ·exact hU _ _ 0x4 0x4
     ·rw[A0f 0x4];exact hU _ _ hij 0x4
def XQ(O:Ord n lt)(hc:Cmp n lt cmp J)(h2:2<=n){G:Array Nat->Shared->Prop}(hJ:J s)(w:∀p' s',Pm n p'->Up lt p' n->J s'->G p' s'):(kas_sort n).kasWp cmp G s:=by
 unfold kas_sort;rw[KasT.kasWp_bind];refine T4 O hc (Array.Perm.refl _) h2 hJ fun q p' s' P h1 hq hU hJ'=>?_
 by_cases e:q<n
 ·rw[A0i e,show max q 1=q by lia]
  exact T6 O hc (n-q) q p' s' 0x4 P hU hJ' w
 ·rw[A0f e];have:q=n:=by lia
  subst this;exact w p' s' P hU hJ'
end
section
variable{lt:Nat->Nat->Bool}{κ:SortKind}
def Nx(vs:List Value):((List.range vs.length).toArray.toList.map fun i=>vs.getD i Value.none)=vs:=by
 apply List.ext_getElem
 ·simp
 ·intro i h1 h2;simp only[A4L,List.getElem_range];rw[wR,lG h2];rfl
end
open PySem.Calls
structure Tb(t:SetTable):Prop where
 no:t.dummies=#[]
 up:t.place.toList.Pairwise (·<·)
section
variable{M:Model}
end
structure SetRaw(w:World)(h:Heap)(a:Addr)(es:Array (Int×Value))(ep:Nat)(t:SetTable):Prop where
 o:∃o,h.get? a=some o/\o.ExactSet/\o.data=.set es ep t
 fits:t.fits es.size=true
 small:es.size<scanBound
 led:w.params.followText "set-order"=false->t.led=true
 plain:t.plain=true->Tb t
open PySem.Spec
def a2X(I:Inv X pins σ H s)(e:H a=some 0x16):kvs.length<=sizeLine/\0x76=false/\∃vs ep,KV kvs vs/\s.heap.DictAt 0x56 a vs ep:=by
 obtain⟨z,hs,vs,rel,o,es,ep,r⟩:=pK I.hok e;exact⟨z,hs,vs,ep,rel,o,es,r⟩
inductive T7(xs:List V)(H:Hp)(Q:VK):Prop
 |mk(a:Addr)(kvs:List 0x21)(_:xs=[.ref a])(_:H a=some 0x16)(_:∀p,H p=none->Q 0x46 (upd H p 0x16)):T7 xs H Q
def jR:gO X (.type "dict") T7:=by
 intro pins s σ H xs us Q I r h;obtain⟨a,kvs,rfl,ha,q⟩:=h;obtain⟨u,rfl,ru⟩:=vals1 r;cases ru;obtain⟨z,hs,vs,rel,dd⟩:=pK I.hok ha;have hlen:vs.length=kvs.length:=rel.length.symm;have low:(s.heap.objs.size==sysModules)=false:=by
  obtain⟨m,F⟩:=I.fr;have h1:sysModules<X.base.objs.size:=modules_low I.mod.nolimit;have h2:X.base.objs.size<=X.env.locals:=F.above;have h3:X.env.locals<s.heap.objs.size:=F.ns.lt;exact A1n.mpr (A3i (A3k (A0q h1 h2) h3))
 refine kt_call_dict (knd:=bW X.prog X.w) hs dd 0x4 fun h' hd hb=>?_;exact⟨.ref s.heap.objs.size,_,I.laid (o:=.dK kvs) (t':=s.toks) (fun b o e=>hb.extBut _ _ (A0M (A0v e)) (A0c _ e)) 0x33 ⟨z,low,vs,rel,hd⟩,rfl,q _ 0x4B⟩
section
variable{R:Result->Shared->Prop}{I:Addr}{wr:List Addr}{G:Array GenState->Array GenState->Prop}{P:Nat->Value->Prop}{St:Nat->Shared->Prop}
end
end L2
namespace PySem
end PySem
namespace L2
open PySem PySem.Spec PyProof.Rows PySem.W
section
variable{o:Obj}
end
section
variable{elt:Expr}{ifs:List Expr}{ts fr:List Str}
end
end L2
namespace M
open PySem L2
structure aQ where
 n:Str
 lord:Option Str
 man:Str
 own:Int
 br:Int
 due:Int×Int
 ta:Addr
 tb:Addr
def lU:Option Str->V
 |none=>.non
 |some p=>.str p
def yD{o:Option Str}:lU o=.str p↔o=some p:=by
 cases o with
 |none=>exact⟨fun h=>(by cases h),fun h=>(by cases h)⟩
 |some q=>exact⟨fun h=>(by injection h with e;rw[e]),fun h=>(by injection h with e;rw[e];rfl)⟩
abbrev kv(f:aQ->V)(es:List aQ):List 0x2B:=es.map fun e=>(Sum.inr e.n,f e)
abbrev nms(es:List aQ):List Str:=es.map (·.n)
abbrev kO(es:List aQ):=kv (fun e=>lU e.lord) es
abbrev hoL(es:List aQ):=kv (fun e=>V.str e.man) es
abbrev lV(es:List aQ):=kv (fun e=>V.int e.own) es
abbrev PB(es:List aQ):=kv (fun e=>V.int e.br) es
abbrev T8(es:List aQ):=kv (fun e=>V.ref e.ta) es
abbrev qO(es:List aQ):=kv (fun e=>V.ref e.tb) es
def key_eq{a b:Str}:(Sum.inr a:Key)=.inr b↔a=b:=⟨fun h=>by injection h,fun h=>by rw[h]⟩
theorem qP{f:aQ->V}{n:Str}:∀{es:List aQ},n∉nms es->bJ 0x53 0x15=none
 |[],_=>rfl
 | x::r,h=>by
  have h1:x.n≠n:=fun q=>h (by rw[<-q];exact A0o)
  show bJ ((Sum.inr x.n,f x)::kv f r) _=none
  rw[eO (fun q=>h1 (key_eq.mp q))];exact qP fun q=>h (jK _ q)
theorem dg{f:aQ->V}{e:aQ}:∀{es:List aQ},(0x68).Nodup->e∈es->bJ 0x53 (.inr e.n)=some (f e)
 |[],_,h=>by cases h
 | x::r,nd,h=>by
  show bJ ((Sum.inr x.n,f x)::kv f r) _=_
  have nd':=A0L.mp nd;rcases A0d.mp h with q|q
  ·subst q;exact fY rfl
  ·have ne:x.n≠e.n:=fun z=>nd'.1 (by show x.n∈nms r;rw[z];exact A0e.mpr ⟨e,q,rfl⟩)
   rw[eO (fun z=>ne (key_eq.mp z))];exact dg nd'.2 q
def dF{es:List aQ}{n:Str}(h:n∈nms es):∃e∈es,e.n=n:=by
 obtain⟨e,he,q⟩:=A0e.mp h;exact⟨e,he,q⟩
def gU{f:aQ->V}{es:List aQ}(n:Str):(bJ 0x53 0x15).isSome=decide (n∈nms es):=by
 by_cases h:n∈nms es
 ·rw [A0k h]
  induction es with
  |nil=>cases h
  | cons x r ih=>
   show(bJ ((Sum.inr x.n,f x)::kv f r) _).isSome=true
   by_cases q:x.n=n
   ·rw[fY (key_eq.mpr q)];rfl
   ·rw[eO (fun z=>q (key_eq.mp z))];refine ih ?_;rcases A0d.mp h with z|z
    ·exact absurd z.symm q
    ·exact z
 ·rw[A0p h,qP h];rfl
def gG{f g:aQ->V}{es:List aQ}(h:∀e∈es,f e=g e):kv f es=kv g es:=A1p fun e he=>by rw[h e he]
def T9{f:aQ->V}{n:Str}(es:List aQ):((0x53).any fun x=>decide (x.1=Sum.inr n))=decide (n∈nms es):=by rw[lN,gU]
def vC{f:aQ->V}{es:List aQ}{n:Str}(h:n∈nms es):putK 0x53 0x15 v=kv (fun e=>if e.n=n then v else f e) es:=by
 unfold putK;rw[T9,A0k h,A0i rfl]
 show(es.map _).map _=_
 rw[A0T];refine A1p fun e _=>?_
 show(if(Sum.inr e.n:Key)=.inr n then(Sum.inr e.n,v)else(Sum.inr e.n,f e))=(Sum.inr e.n,if e.n=n then v else f e)
 by_cases q:e.n=n
 ·rw[A0i (key_eq.mpr q),A0i q]
 ·rw[A0f (fun z=>q (key_eq.mp z)),A0f q]
def Aj{f:aQ->V}{es:List aQ}{n:Str}(h:n∉nms es):putK 0x53 0x15 v=kv f es++[(.inr n,v)]:=Rg v (qP h)
def mV{f:aQ->V}{es:List aQ}{n:Str}:jk 0x53 0x15=kv f (es.filter fun e=>decide (e.n≠n)):=by
 unfold jk;rw[A3s]
 congr 1
 refine A2x fun e _=>?_
 show decide ((Sum.inr e.n:Key)≠.inr n)=decide (e.n≠n)
 exact A3S.mpr ⟨fun h q=>h (key_eq.mpr q),fun h q=>h (key_eq.mp q)⟩
def jw{f:aQ->V}{g:aQ->aQ}{es:List aQ}(hg:∀e,(g e).n=e.n):kv f (es.map g)=kv (fun e=>f (g e)) es:=by
 show(es.map g).map _=_
 rw[A0T];refine A1p fun e _=>?_
 show(Sum.inr (g e).n,f (g e))=_
 rw[hg]
def a1g{f:aQ->V}{es:List aQ}{x:aQ}:kv f (es++[x])=kv f es++[(.inr x.n,f x)]:=j9
def jx{f:aQ->V}{es:List aQ}:(0x53).length=es.length:=cM _
def DW{f:aQ->V}{es:List aQ}:∀(ss:List Str),(∀s∈ss,s∈nms es)->moved 0x53 ss p=kv (fun e=>if e.n∈ss then V.str p else f e) es:=by
 intro ss;unfold moved
 induction ss generalizing f with
 |nil=>intro _;exact gG fun e _=>by rw[A0f 0xA]
 | cons s r ih=>
  intro h;rw[A1c,vC (h s A0o),ih fun x hx=>h x (jK _ hx)];refine gG fun e _=>?_
  by_cases q:e.n∈r
  ·rw[A0i q,A0i (jK _ q)]
  ·rw [A0f q]
   by_cases z:e.n=s
   ·rw[A0i z,A0i (by rw[z];exact A0o)]
   ·rw[A0f z,A0f];intro c;rcases A0d.mp c with y|y
    ·exact z y
    ·exact q y
def Ak{f:aQ->V}(p:Key×V->Bool)(es:List aQ):((0x53).filter p).map mQ=(es.filter fun e=>p (.inr e.n,f e)).map (·.n):=by
 rw[A3s,A0T];rfl
def Tc{f:aQ->V}{es:List aQ}:TK 0x53:=fun x hx=>by
 obtain⟨e,he,rfl⟩:=A0e.mp hx;rfl
def a2Y{es:List aQ}:TV (kO es):=fun x hx=>by
 obtain⟨e,he,rfl⟩:=A0e.mp hx
 show lU e.lord=.non\/∃s,lU e.lord=.str s
 cases e.lord with
 |none=>exact .inl rfl
 |some p=>exact .inr ⟨p,rfl⟩
def ZM{es:List aQ}:TV (hoL es):=fun x hx=>by
 obtain⟨e,he,rfl⟩:=A0e.mp hx;exact .inr ⟨_,rfl⟩
def Ord:List Str->List aQ->Prop
 |_,[]=>True
 |seen,e::r=>(∃p,e.lord=some p/\p∈seen)/\Ord (e.n::seen) r
theorem Ord.snoc:∀{r:List aQ}{s:List Str}{x:aQ}{p:Str},Ord s r->x.lord=some p->(p∈s\/p∈nms r)->Ord s (r++[x])
 |[],s,x,p,_,hx,h=>⟨⟨p,hx,h.elim id fun q=>by cases q⟩,True.intro⟩
 | e::r,s,x,p,⟨h1,h2⟩,hx,h=>⟨h1,Ord.snoc (r:=r) h2 hx (by
   rcases h with q|q
   ·exact .inl (jK _ q)
   ·rcases A0d.mp q with z|z
    ·exact .inl (by rw[z];exact A0o)
    ·exact .inr z)⟩
theorem Ord.map{g:aQ->aQ}(h1:∀e,(g e).n=e.n)(h2:∀e,(g e).lord=e.lord):∀{r:List aQ}{s:List Str},Ord s r->Ord s (r.map g)
 |[],_,_=>True.intro
 |e::r,s,⟨⟨p,hp,hs⟩,ho⟩=>⟨⟨p,by rw[h2,hp],hs⟩,by rw[h1];exact Ord.map h1 h2 ho⟩
theorem Ord.lord:∀{r:List aQ}{s:List Str},Ord s r->∀e∈r,∃p,e.lord=some p/\(p∈s\/p∈nms r)
 | e::r,s,⟨⟨p,hp,hs⟩,ho⟩,x,hx=>by
  rcases A0d.mp hx with q|q
  ·subst q;exact⟨p,hp,.inl hs⟩
  ·obtain⟨p',h1,h2⟩:=Ord.lord ho x q;refine⟨p',h1,?_⟩;rcases h2 with z|z
   ·rcases A0d.mp z with y|y
    ·exact .inr (by rw[y];exact A0o)
    ·exact .inl y
   ·exact .inr (jK _ z)
def DX(e p:Str)(a:Int)(y:aQ):aQ:={y with lord:=if y.lord=some e then some p else y.lord,own:=if y.n=p then y.own+a else y.own}
theorem Ord.fall{e:Str}{a:Int}:∀{r:List aQ}{s t:List Str},Ord s r->(∀x∈r,x.n=e->x.lord=some p)->(∀x∈s,x≠e->x∈t)->(e∈s->p∈t)->p≠e->Ord t ((r.filter fun y=>decide (y.n≠e)).map (DX e p a))
 |[],_,_,_,_,_,_,_=>True.intro
 | y::r,s,t,⟨⟨q,hq,hs⟩,ho⟩,hl,h1,h2,hp=>by
  have tl:∀x∈r,x.n=e->x.lord=some p:=fun x hx=>hl x (jK _ hx)
  by_cases c:y.n=e
  ·rw [A1r 0x3D];have hy:=hl y A0o c;refine Ord.fall (s:=y.n::s) (t:=t) ho tl (fun x hx hne=>?_) (fun _=>?_) hp
   ·rcases A0d.mp hx with z|z
    ·exact absurd (z.trans c) hne
    ·exact h1 x z hne
   ·rw[hq]at hy;injection hy with hy;exact h1 p (hy▸ hs) hp
  ·rw [A1g 0x3D,A0h];refine⟨?_,Ord.fall (s:=y.n::s) (t:=y.n::t) ho tl (fun x hx hne=>?_) (fun hx=>?_) hp⟩
   ·show ∃p',(if y.lord=some e then some p else y.lord)=some p'/\p'∈t
    by_cases z:y.lord=some e
    ·rw[hq]at z;injection z with z;exact⟨p,by rw[A0i (by rw[hq,z])],h2 (z▸ hs)⟩
    ·have:q≠e:=fun w=>z (by rw[hq,w]);exact⟨q,by rw[A0f z,hq],h1 q hs this⟩
   ·rcases A0d.mp hx with z|z
    ·rw[z];exact A0o
    ·exact jK _ (h1 x z hne)
   ·rcases A0d.mp hx with z|z
    ·exact absurd z.symm c
    ·exact jK _ (h2 z)
def oG{F G:aQ->Int}{es:List aQ}(h:∀y∈es,G y=F y):(es.map G).sum=(es.map F).sum:=by rw[A1p h]
theorem tY{F G:aQ->Int}{e0:aQ}:∀{es:List aQ},(0x68).Nodup->e0∈es->(∀y∈es,y.n≠e0.n->G y=F y)->(es.map G).sum=(es.map F).sum-F e0+G e0
 |[],_,h,_=>by cases h
 | x::r,nd,h,hg=>by
  have nd':=A0L.mp nd;simp only[A0h,A0I];rcases A0d.mp h with q|q
  ·subst q;rw[oG (F:=F) (G:=G) (es:=r) fun y hy=>hg y (jK _ hy) fun z=>nd'.1 (show e0.n∈nms r by rw[<-z];exact A0e.mpr ⟨y,hy,rfl⟩)]
   lia
  ·have ne:x.n≠e0.n:=fun z=>nd'.1 (show x.n∈nms r by rw[z];exact A0e.mpr ⟨e0,q,rfl⟩)
   rw[hg x A0o ne,tY nd'.2 q fun y hy=>hg y (jK _ hy)];lia
theorem vD{F:aQ->Int}{e0:aQ}:∀{es:List aQ},(0x68).Nodup->e0∈es->((0x10).map F).sum=(es.map F).sum-F e0
 |[],_,h=>by cases h
 | x::r,nd,h=>by
  have nd':=A0L.mp nd;rcases A0d.mp h with q|q
  ·subst q;have:(r.filter fun y=>decide (y.n≠e0.n))=r:=List.filter_eq_self.mpr fun y hy=>by
    refine A0k fun z=>nd'.1 (show e0.n∈nms r by rw[<-z];exact A0e.mpr ⟨y,hy,rfl⟩)
   rw[A1r 0xA,this,A0h,A0I];lia
  ·have ne:x.n≠e0.n:=fun z=>nd'.1 (show x.n∈nms r by rw[z];exact A0e.mpr ⟨e0,q,rfl⟩)
   rw[A1g (by simpa using ne),A0h,A0h,A0I,A0I,vD nd'.2 q];lia
theorem sum_add{F G:aQ->Int}:∀(es:List aQ),(es.map fun y=>F y+G y).sum=(es.map F).sum+(es.map G).sum
 |[]=>rfl
 |x::r=>by simp only[A0h,A0I,sum_add r];lia
theorem vG{F:aQ->Int}:∀{es:List aQ},(∀y∈es,F y=0)->(es.map F).sum=0
 |[],_=>rfl
 |x::r,h=>by rw[A0h,A0I,h x A0o,vG fun y hy=>h y (jK _ hy)];rfl
theorem Td{F:aQ->Int}:∀{es:List aQ},(∀y∈es,0<=F y)->0<=(es.map F).sum
 |[],_=>Int.le_refl _
 | x::r,h=>by
  rw[A0h,A0I];have h1:=h x A0o;have h2:=Td (F:=F) (es:=r) fun y hy=>h y (jK _ hy);lia
def Sb(es:List aQ)(q:Str):Int:=(es.map fun y=>if y.lord=some q then y.br else 0).sum
structure WF(es:List aQ):Prop where
 nd:(0x68).Nodup
 hd:∃c r,es=c::r/\c.n=""/\c.lord=none/\Ord [""] r
 bnd:∀e∈es,0<=e.own/\0<=e.br/\e.br<=9999
 br:∀e∈es,e.br=e.own+Sb es e.n
 ok:∀e∈es,PyData.strOk e.n=true
def WF.lord{es:List aQ}(W:WF es):∀e∈es,e.n≠""->∃p,e.lord=some p/\p∈nms es/\p≠e.n:=by
 obtain⟨c,r,rfl,hc,hl,ho⟩:=W.hd;intro e he hne;rcases A0d.mp he with q|q
 ·rw[q]at hne;exact absurd hc hne
 ·obtain⟨p,hp,hm⟩:=ho.lord e q;refine⟨p,hp,?_,?_⟩
  ·rcases hm with z|z
   ·rw[A0b.mp z,<-hc];exact A0o
   ·exact jK _ z
  ·-- not its own lord
   have key:∀{r:List aQ}{s:List Str},Ord s r->(nms r).Nodup->(∀x∈s,x∉nms r)->∀e∈r,e.lord≠some e.n:=by
    intro r
    induction r with
    |nil=>intro s _ _ _ e he;cases he
    | cons y r ih=>
     rintro s ⟨⟨p,hp,hs⟩,ho⟩ nd hx e he;have nd':=A0L.mp nd;rcases A0d.mp he with q|q
     ·rw[q,hp];intro z;injection z with z;exact hx p hs (by rw[z];exact A0o)
     ·refine ih ho nd'.2 (fun x hxs=>?_) e q;rcases A0d.mp hxs with z|z
      ·rw[z];exact nd'.1
      ·exact fun w=>hx x z (jK _ w)
   have nd':=A0L.mp W.nd;have:=key ho nd'.2 (fun x hx=>by rw[A0b.mp hx,<-hc];exact nd'.1) e q;intro z;exact this (by rw[hp,z])
def WF.crown{es:List aQ}(W:WF es):∀e∈es,e.n=""->e.lord=none:=by
 obtain⟨c,r,rfl,hc,hl,ho⟩:=W.hd;intro e he h;have nd':=A0L.mp W.nd;rcases A0d.mp he with q|q
 ·rw[q];exact hl
 ·exact absurd (show c.n∈nms r by rw[hc,<-h];exact A0e.mpr ⟨e,q,rfl⟩) nd'.1
def WF.a1h{es:List aQ}(W:WF es){n:Str}(h:n∉nms es):∀y∈es,y.lord≠some n:=fun y hy q=>by
 by_cases c:y.n=""
 ·rw[W.crown y hy c]at q;cases q
 ·obtain⟨p,hp,hm,_⟩:=W.lord y hy c;rw[hp]at q;injection q with q;exact h (q▸ hm)
def WF.sb0{es:List aQ}(W:WF es){n:Str}(h:n∉nms es):Sb es n=0:=vG fun y hy=>A0f (W.a1h h y hy)
def WF.sbn{es:List aQ}(W:WF es)(q:Str):0<=Sb es q:=Td fun y hy=>by
 split
 ·exact(W.bnd y hy).2.1
 ·exact Int.le_refl _
def WF.vH{es:List aQ}(W:WF es):∀e∈es,e.own<=e.br:=fun e he=>by
 have h1:=W.br e he;have h2:=W.sbn e.n;lia
def mod(n:Str)(g:aQ->aQ)(es:List aQ):List aQ:=es.map fun y=>if y.n=n then g y else y
def qQ{n:Str}{g:aQ->aQ}(hg:∀e,(g e).n=e.n)(es:List aQ):nms (mod n g es)=nms es:=by
 unfold mod
 show(es.map _).map _=_
 rw[A0T];refine A1p fun e _=>?_
 show(if e.n=n then g e else e).n=e.n
 split
 ·exact hg e
 ·rfl
def cI{n:Str}{g:aQ->aQ}{es:List aQ}{y:aQ}(h:y∈mod n g es):∃y0∈es,y=if y0.n=n then g y0 else y0:=by
 obtain⟨y0,h0,q⟩:=A0e.mp h;exact⟨y0,h0,q.symm⟩
def Te{f:aQ->V}{n:Str}{g:aQ->aQ}(hg:∀e,(g e).n=e.n)(es:List aQ):kv f (mod n g es)=kv (fun e=>if e.n=n then f (g e)else f e) es:=by
 unfold mod;rw[jw (g:=fun y=>if y.n=n then g y else y) (fun e=>by split;exact hg e;rfl)]
 exact gG fun e _=>by split<;>rfl
def eY{f:aQ->V}{n:Str}{g:aQ->aQ}(hg:∀e,(g e).n=e.n)(hf:∀e,f (g e)=f e)(es:List aQ):kv f (mod n g es)=kv f es:=by
 rw[Te hg];exact gG fun e _=>by split;exact hf e;rfl
def Tf{n:Str}{g:aQ->aQ}(hg:∀e,(g e).n=e.n)(hl:∀e,(g e).lord=e.lord){es:List aQ}(h:∃c r,es=c::r/\c.n=""/\c.lord=none/\Ord [""] r):∃c r,mod n g es=c::r/\c.n=""/\c.lord=none/\Ord [""] r:=by
 obtain⟨c,r,rfl,hc,hcl,ho⟩:=h;refine⟨_,_,rfl,?_,?_,Ord.map (fun e=>?_) (fun e=>?_) ho⟩
 ·show(if c.n=n then g c else c).n=""
  split
  ·rw[hg,hc]
  ·exact hc
 ·show(if c.n=n then g c else c).lord=none
  split
  ·rw[hl,hcl]
  ·exact hcl
 ·show(if e.n=n then g e else e).n=e.n
  split
  ·exact hg e
  ·rfl
 ·show(if e.n=n then g e else e).lord=e.lord
  split
  ·exact hl e
  ·rfl
def a1i{n:Str}{g:aQ->aQ}(hl:∀e,(g e).lord=e.lord){es:List aQ}{e0:aQ}(nd:(0x68).Nodup)(h0:e0∈es)(hn:e0.n=n)(q:Str):Sb (mod n g es) q=Sb es q+(if e0.lord=some q then(g e0).br-e0.br else 0):=by
 unfold Sb mod;rw[A0T];rw[tY (F:=fun y=>if y.lord=some q then y.br else 0) (e0:=e0) nd h0 (fun y hy ne=>?_)]
 ·show _-(if e0.lord=some q then e0.br else 0)+(if(if e0.n=n then g e0 else e0).lord=some q then(if e0.n=n then g e0 else e0).br else 0)=_
  rw[A0i hn,hl]
  by_cases c:e0.lord=some q
  ·rw[A0i c,A0i c,A0i c];lia
  ·rw[A0f c,A0f c,A0f c];lia
 ·show(if(if y.n=n then g y else y).lord=some q then(if y.n=n then g y else y).br else 0)=_
  have c:¬y.n=n:=by rw[<-hn];exact ne
  rw[A0f c]
def a1j(es:List aQ)(x:aQ)(q:Str):Sb (es++[x]) q=Sb es q+(if x.lord=some q then x.br else 0):=by
 unfold Sb;rw[j9,A2W];simp
def gC{es:List aQ}(nd:(0x68).Nodup){a b:aQ}(ha:a∈es)(hb:b∈es)(h:a.n=b.n):a=b:=by
 induction es with
 |nil=>cases ha
 | cons x r ih=>
  have nd':=A0L.mp nd;rcases A0d.mp ha with p|p<;>rcases A0d.mp hb with q|q
  ·rw[p,q]
  ·exact absurd (show x.n∈nms r by rw[<-p,h];exact A0e.mpr ⟨b,q,rfl⟩) nd'.1
  ·exact absurd (show x.n∈nms r by rw[<-q,<-h];exact A0e.mpr ⟨a,p,rfl⟩) nd'.1
  ·exact ih nd'.2 p q
def WF.new{es:List aQ}(W:WF es){e0 x:aQ}{g:aQ->aQ}{a:Int}(h0:e0∈es)(hg:∀e,(g e).n=e.n)(hl:∀e,(g e).lord=e.lord)(ho:(g e0).own=e0.own-a)(ha:0<=a)(hb:a<=e0.own)(hx:x.n∉nms es)(hok:PyData.strOk x.n=true)(ho2:x.own=a)(hb2:x.br=a)
  (way:(x.lord=some e0.n/\(g e0).br=e0.br)\/(x.lord=e0.lord/\e0.n≠""/\(g e0).br=e0.br-a)):WF (mod e0.n g es++[x]):=by
 have onm:nms (mod e0.n g es++[x])=nms es++[x.n]:=by
  show(mod e0.n g es++[x]).map _=_
  rw[j9];have:=qQ (n:=e0.n) hg es
  show nms (mod e0.n g es)++_=_
  rw[this];rfl
 have b0:=W.bnd e0 h0;have ow:=W.vH e0 h0;have sbs:∀q,Sb (mod e0.n g es++[x]) q=Sb es q+(if q=e0.n then e0.own-(g e0).own+((g e0).br-e0.br)else 0):=by
  intro q;rw[a1j,a1i hl W.nd h0 rfl];rcases way with⟨w1,w2⟩|⟨w1,w0,w2⟩
  ·have z0:(if e0.lord=some q then(g e0).br-e0.br else 0)=(0:Int):=by rw[w2];split<;>lia
   rw[z0,w1,w2,hb2,ho]
   by_cases c:q=e0.n
   ·subst c;rw[A0i rfl,A0i rfl];lia
   ·rw[A0f c,A0f (fun z=>c (by injection z with z;exact z.symm))];lia
  ·rw[w1,w2,hb2,ho]
   split
   ·split<;>lia
   ·split<;>lia
 refine⟨?_,?_,?_,?_,fun e he=>?_⟩
 rotate_right
 ·rcases A0l.mp he with q|q
  ·obtain⟨y,hy,rfl⟩:=cI q
   split
   ·rw[hg];exact W.ok y hy
   ·exact W.ok y hy
  ·rw[A0b.mp q];exact hok
 ·rw[onm,A2y];refine⟨W.nd,by simp,fun u hu v hv=>?_⟩;rw[A0b.mp hv];exact fun z=>hx (z▸ hu)
 ·obtain⟨c,r,e1,e2,e3,e4⟩:=Tf (n:=e0.n) hg hl W.hd;rw[e1];have hp:∃p,x.lord=some p/\p∈nms es:=by
   rcases way with⟨w1,_⟩|⟨w1,w0,_⟩
   ·exact⟨_,w1,A0e.mpr ⟨e0,h0,rfl⟩⟩
   ·obtain⟨p,hp,hm,_⟩:=W.lord e0 h0 w0;exact⟨p,w1.trans hp,hm⟩
  obtain⟨p,hp,hm⟩:=hp;refine⟨c,r++[x],rfl,e2,e3,Ord.snoc e4 hp ?_⟩;have hm':p∈nms (mod e0.n g es):=by rw[qQ hg];exact hm
  rw[e1]at hm';rcases A0d.mp hm' with z|z
  ·exact .inl (by rw[z];show c.n∈([""]:List Str);rw[e2];exact A0b.mpr rfl)
  ·exact .inr z
 ·intro e he;rcases A0l.mp he with q|q
  ·obtain⟨y,hy,rfl⟩:=cI q;have by_:=W.bnd y hy
   split
   ·rename_i c
    obtain rfl:=gC W.nd hy h0 c;rw[ho];rcases way with⟨_,w2⟩|⟨_,_,w2⟩<;>rw[w2]<;>lia
   ·exact by_
  ·rw[A0b.mp q,ho2,hb2];lia
 ·intro e he;rcases A0l.mp he with q|q
  ·obtain⟨y,hy,rfl⟩:=cI q;have hbr:=W.br y hy
   split
   ·rename_i c
    obtain rfl:=gC W.nd hy h0 c;rw[hg,sbs,A0i rfl];lia
   ·rename_i c
    rw[sbs,A0f c];lia
  ·rw[A0b.mp q,ho2,hb2,sbs,W.sb0 hx,A0f (fun z=>hx (by rw[z];exact A0e.mpr ⟨e0,h0,rfl⟩))];lia
def WF.mod{es:List aQ}(W:WF es){n:Str}{g:aQ->aQ}(hg:∀e,(g e).n=e.n)(hl:∀e,(g e).lord=e.lord)(ho:∀e,(g e).own=e.own)(hb:∀e,(g e).br=e.br):WF (mod n g es):=by
 have sbs:∀q,Sb (M.mod n g es) q=Sb es q:=by
  intro q;unfold Sb M.mod;rw[A0T];refine oG fun y _=>?_
  show(if(if y.n=n then g y else y).lord=some q then(if y.n=n then g y else y).br else 0)=_
  by_cases c:y.n=n
  ·rw[A0i c,hl,hb]
  ·rw[A0f c]
 refine⟨by rw[qQ hg];exact W.nd,Tf hg hl W.hd,fun e he=>?_,fun e he=>?_,fun e he=>?_⟩
 rotate_right
 ·obtain⟨y,hy,rfl⟩:=cI he
  split
  ·rw[hg];exact W.ok y hy
  ·exact W.ok y hy
 ·obtain⟨y,hy,rfl⟩:=cI he
  split
  ·rw[ho,hb];exact W.bnd y hy
  ·exact W.bnd y hy
 ·obtain⟨y,hy,rfl⟩:=cI he;rw[sbs]
  split
  ·rw[hg,ho,hb];exact W.br y hy
  ·exact W.br y hy
def cO(e p:Str)(a:Int)(es:List aQ):List aQ:=(es.filter fun y=>decide (y.n≠e)).map (DX e p a)
def WF.fall{es:List aQ}(W:WF es){e0:aQ}(h0:e0∈es)(hne:e0.n≠"")(hp:e0.lord=some p):WF 0x22:=by
 obtain⟨p',hp',hpm,hpn⟩:=W.lord e0 h0 hne;obtain rfl:p=p':=by rw[hp]at hp';injection hp'
 have mem:∀y,y∈cO e0.n p e0.own es->∃y0∈es,y0.n≠e0.n/\y=DX e0.n p e0.own y0:=fun y hy=>by
  obtain⟨y0,h1,h2⟩:=A0e.mp hy;obtain⟨h3,h4⟩:=A0w.mp h1;exact⟨y0,h3,qg h4,h2.symm⟩
 have eo:=W.br e0 h0;have sbs:∀q,q≠e0.n->Sb 0x22 q=Sb es q-(if q=p then e0.own else 0):=by
  intro q hq;unfold Sb cO;rw[A0T];rw[vD (F:=(fun y=>if y.lord=some q then y.br else 0)∘DX e0.n p e0.own) W.nd h0]
  have val:∀y,((fun y=>if y.lord=some q then y.br else 0)∘DX e0.n p e0.own) y=(if y.lord=some q then y.br else 0)+(if q=p then(if y.lord=some e0.n then y.br else 0)else 0):=by
   intro y
   show(if(if y.lord=some e0.n then some p else y.lord)=some q then y.br else 0)=_
   by_cases c:y.lord=some e0.n
   ·rw[A0i c,c,A0f (fun z:some e0.n=some q=>hq (by injection z with z;exact z.symm)),A0i rfl]
    by_cases d:q=p
    ·rw[A0i d,d,A0i rfl];lia
    ·rw[A0f d,A0f (fun z=>d (by injection z with z;exact z.symm))];rfl
   ·rw[A0f c,A0f c]
    split<;>split<;>lia
  rw[oG (fun y _=>val y),sum_add,val e0,hp,A0f (fun z:some p=some e0.n=>hpn (by injection z))]
  by_cases d:q=p
  ·subst d;rw[A0i rfl,A0i rfl,A0i rfl];have e1:(es.map fun y=>if q=q then(if y.lord=some e0.n then y.br else 0)else 0).sum=Sb es e0.n:=by
    unfold Sb;exact oG fun y _=>A0i rfl
   rw[e1];lia
  ·rw[A0f d,A0f d,A0f (fun z=>d (by injection z with z;exact z.symm))];have e1:(es.map fun y=>if q=p then(if y.lord=some e0.n then y.br else 0)else 0).sum=0:=vG fun y _=>A0f d
   rw[e1];lia
 refine⟨?_,?_,?_,?_,fun y hy=>?_⟩
 rotate_right
 ·obtain⟨y0,h1,h2,rfl⟩:=mem y hy;exact W.ok y0 h1
 ·have:nms 0x22=(0x68).filter fun n=>decide (n≠e0.n):=by
   unfold cO
   show((es.filter _).map _).map _=_
   rw[A0T,A3s];rfl
  rw[this];exact W.nd.filter _
 ·obtain⟨c,r,rfl,hc,hcl,ho⟩:=W.hd;unfold cO;rw[A1g (by simpa[hc]using fun z=>hne z.symm),A0h];refine⟨_,_,rfl,hc,?_,Ord.fall ho (fun x hx hxn=>?_) (fun x hx _=>hx) (fun hx=>absurd (A0b.mp hx) hne) hpn⟩
  ·show(if c.lord=some e0.n then some p else c.lord)=none
   rw[hcl,A0f (fun z=>by cases z)]
  ·rw[gC W.nd (jK _ hx) h0 hxn];exact hp
 ·intro y hy;obtain⟨y0,h1,h2,rfl⟩:=mem y hy;have b:=W.bnd y0 h1;have be:=W.bnd e0 h0;refine⟨?_,b.2⟩
  show 0<=(if y0.n=p then y0.own+e0.own else y0.own)
  split<;>lia
 ·intro y hy;obtain⟨y0,h1,h2,rfl⟩:=mem y hy;have b:=W.br y0 h1
  show y0.br=(if y0.n=p then y0.own+e0.own else y0.own)+Sb _ y0.n
  rw[sbs _ h2]
  split<;>lia
def Kq{t b:Int}(h:0<b):0<sgn t b:=by
 unfold sgn;rw[A0f 0x4];exact Int.ofNat_lt.mpr (kJ 0x4)
def Kr{t b k:Int}(hb:0<b)(hk:0<k):oY (t*k) (b*k)=oY t b:=by
 have h:=a07 (Xq (t:=t) (b:=b) 0x4) (vq 0x4) (A2O (Kq (t:=t) hb) hk);have e1:oE t b*(sgn t b*k)=t*k:=by rw[<-A3a,A2U (oE t b),tX 0x4]
 have e2:jQ t b*(sgn t b*k)=b*k:=by rw[<-A3a,A2U (jQ t b),qM 0x4]
 rw[e1,e2]at h;unfold oY;rw[h.1,h.2]
def Ny{s:Int×Int}{a b:Int}(hs:0<s.2)(hb:0<b):ZF s (oY (s.1*a) (s.2*b))=oY (s.1*(b-a)) (s.2*b):=by
 have hB:0<s.2*b:=A2O hs hb;have hk:=Kq (t:=s.1*a) hB;have e1:=tX (t:=s.1*a) (b:=s.2*b) 0x4;have e2:=qM (t:=s.1*a) (b:=s.2*b) 0x4;have hy:=vq (t:=s.1*a) (b:=s.2*b) 0x4;unfold ZF
 show oY (s.1*jQ (s.1*a) (s.2*b)-oE (s.1*a) (s.2*b)*s.2) (s.2*jQ (s.1*a) (s.2*b))=_
 rw [<-Kr (A2O hs hy) hk,<-Kr (t:=s.1*(b-a)) hB hs];generalize jQ (s.1*a) (s.2*b)=y at e2;generalize oE (s.1*a) (s.2*b)=x at e1;generalize sgn (s.1*a) (s.2*b)=k at e1 e2;have c1:(s.1*y-x*s.2)*k=s.1*(b-a)*s.2:=by
  have q1:(s.1*y-x*s.2)*k=s.1*(k*y)-(k*x)*s.2:=by
   rw[Int.sub_mul,A3a,A2U y k,A3a,A2U s.2 k,<-A3a x k,A2U x k]
  rw[q1,e1,e2,Int.mul_sub,Int.sub_mul,A2U s.2 b,A3a s.1 b]
 have c2:s.2*y*k=s.2*b*s.2:=by rw[A3a,A2U y k,e2,A2U s.2 (s.2*b)]
 rw[c1,c2]
def Tg{l m:List Int}(h:l.Perm m):l.sum=m.sum:=by
 induction h with
 |nil=>rfl
 |cons x _ ih=>rw[A0I,A0I,ih]
 |swap x y l=>rw[A0I,A0I,A0I,A0I];lia
 |trans _ _ h1 h2=>rw[h1,h2]
def NK{l m:List Nat}(h:l.Perm m):l.sum=m.sum:=by
 induction h with
 |nil=>rfl
 |cons x _ ih=>rw[A0I,A0I,ih]
 |swap x y l=>rw[A0I,A0I,A0I,A0I];lia
 |trans _ _ h1 h2=>rw[h1,h2]
def NP(es:List aQ)(n:Str):Int:=((es.find? fun e=>decide (e.n=n)).map (·.br)).getD 0
def vI{es:List aQ}(nd:(0x68).Nodup){e:aQ}(he:e∈es):es.find? (fun x=>decide (x.n=e.n))=some e:=by
 induction es with
 |nil=>cases he
 | cons x r ih=>
  have nd':=A0L.mp nd;rcases A0d.mp he with q|q
  ·rw[q,A1W 0xA]
  ·rw [A1X (by
    have:x.n≠e.n:=fun z=>nd'.1 (show x.n∈nms r by rw[z];exact A0e.mpr ⟨e,q,rfl⟩)
    simpa using this)]
   exact ih nd'.2 q
def Ti{es:List aQ}(nd:(0x68).Nodup){e:aQ}(he:e∈es):NP es e.n=e.br:=by unfold NP;rw[vI nd he];rfl
theorem DY{F:aQ->Int}(c:aQ->Bool):∀es:List aQ,((es.filter c).map F).sum=(es.map fun y=>if c y=true then F y else 0).sum
 |[]=>rfl
 | x::r=>by
  have ih:=DY (F:=F) c r
  by_cases h:c x=true
  ·rw[A1g h,A0h,A0h,A0I,A0I,A0i h,ih]
  ·rw[A1r h,A0h,A0I,A0f h,ih];lia
def yE{es:List aQ}(nd:(0x68).Nodup)(h:ss.Perm ((es.filter fun y=>decide (y.lord=some q)).map (·.n))):(ss.map (NP es)).sum=Sb es q:=by
 rw[Tg (h.map _),A0T];have:((es.filter fun y=>decide (y.lord=some q)).map (NP es∘fun x=>x.n))=(es.filter fun y=>decide (y.lord=some q)).map (·.br):=A1p fun y hy=>Ti nd (A0w.mp hy).1;rw[this,DY];unfold Sb;exact oG fun y _=>by simp only[A1Y]
def wt:List aQ->Str->Nat
 |[],_=>0
 |x::r,n=>if x.n=n then 2^r.length else wt r n
def Sw(es:List aQ)(c:aQ->Bool)(ws:List aQ):Nat:=(es.map fun y=>if c y=true then wt ws y.n else 0).sum
theorem tZ{x:aQ}{r:List aQ}{c:aQ->Bool}:∀{es:List aQ},(∀y∈es,y.n≠x.n)->Sw es c (x::r)=Sw es c r
 |[],_=>rfl
 | y::es,h=>by
  have ih:=tZ (x:=x) (r:=r) (c:=c) (es:=es) fun z hz=>h z (jK _ hz);unfold Sw at ih ⊢;rw[A0h,A0h,A0I,A0I,ih];have:wt (x::r) y.n=wt r y.n:=A0f fun z=>h y A0o z.symm;rw[this]
def Tj{x:aQ}{r:List aQ}(nd:(nms (x::r)).Nodup):∀y∈r,y.n≠x.n:=fun y hy z=>(A0L.mp nd).1 (show x.n∈nms r by rw[<-z];exact A0e.mpr ⟨y,hy,rfl⟩)
theorem Tn{c:aQ->Bool}:∀{r:List aQ},(nms r).Nodup->Sw r c r<2^r.length
 |[],_=>show 0<1 by decide
 | x::r,nd=>by
  have ih:=Tn (c:=c) (r:=r) (A0L.mp nd).2;unfold Sw;rw[A0h,A0I];have e:=tZ (x:=x) (r:=r) (c:=c) (es:=r) (Tj nd);unfold Sw at e ih;rw[e,wO,Nat.pow_succ];have:wt (x::r) x.n=2^r.length:=A0i rfl;rw[this]
  split<;>lia
theorem Tp{e:aQ}:∀{r:List aQ}{s:List Str},Ord s r->(nms r).Nodup->(∀x∈s,x∉nms r)->e∈r->Sw r (fun y=>decide (y.lord=some e.n)) r<wt r e.n
 | x::r,s,⟨⟨p,hp,hs⟩,ho⟩,nd,hx,he=>by
  have nd':=A0L.mp nd;unfold Sw;rw[A0h,A0I];have e1:=tZ (x:=x) (r:=r) (c:=fun y=>decide (y.lord=some e.n)) (es:=r) (Tj nd);have nx:¬(decide (x.lord=some e.n)=true):=fun z=>by
   have z:=qg z;rw[hp]at z;injection z with z;exact hx p hs (by rw[z];exact A0e.mpr ⟨e,he,rfl⟩)
  rw[A0f nx];unfold Sw at e1;rw[e1];rcases A0d.mp he with q|q
  ·have:wt (x::r) e.n=2^r.length:=A0i (by rw[q]);rw[this];have:=Tn (c:=fun y=>decide (y.lord=some e.n)) nd'.2;unfold Sw at this;lia
  ·have:wt (x::r) e.n=wt r e.n:=A0f fun z=>nd'.1 (show x.n∈nms r by rw[z];exact A0e.mpr ⟨e,q,rfl⟩)
   rw [this];have:=Tp (e:=e) ho nd'.2 (fun y hy w=>by
    rcases A0d.mp hy with z|z
    ·exact nd'.1 (by rw[z]at w;exact w)
    ·exact hx y z (jK _ w)) q
   unfold Sw at this;lia
def WF.meas{es:List aQ}(W:WF es){e:aQ}(he:e∈es):Sw es (fun y=>decide (y.lord=some e.n)) es<wt es e.n:=by
 obtain⟨c,r,rfl,hc,hl,ho⟩:=W.hd;have nd':=A0L.mp W.nd;unfold Sw;rw[A0h,A0I,A0f (by show ¬decide (c.lord=some e.n)=true;rw[hl];simp)]
 have e1:=tZ (x:=c) (r:=r) (c:=fun y=>decide (y.lord=some e.n)) (es:=r) (Tj W.nd);unfold Sw at e1;rw[e1];rcases A0d.mp he with q|q
 ·have:wt (c::r) e.n=2^r.length:=A0i (by rw[q]);rw[this];have:=Tn (c:=fun y=>decide (y.lord=some e.n)) nd'.2;unfold Sw at this;lia
 ·have:wt (c::r) e.n=wt r e.n:=A0f fun z=>nd'.1 (show c.n∈nms r by rw[z];exact A0e.mpr ⟨e,q,rfl⟩)
  rw[this];have:=Tp (e:=e) ho nd'.2 (fun y hy w=>by rw[A0b.mp hy,<-hc]at w;exact nd'.1 w) q;unfold Sw at this;lia
theorem yF{F:aQ->Nat}(c:aQ->Bool):∀es:List aQ,((es.filter c).map F).sum=(es.map fun y=>if c y=true then F y else 0).sum
 |[]=>rfl
 | x::r=>by
  have ih:=yF (F:=F) c r
  by_cases h:c x=true
  ·rw[A1g h,A0h,A0h,A0I,A0I,A0i h,ih]
  ·rw[A1r h,A0h,A0I,A0f h,ih];lia
def vJ{es:List aQ}(W:WF es){e:aQ}(he:e∈es)(h:ss.Perm ((es.filter fun y=>decide (y.lord=some e.n)).map (·.n))):(ss.map (wt es)).sum<wt es e.n:=by
 have:=W.meas he;unfold Sw at this;rw[NK (h.map _),A0T];have e2:=yF (F:=wt es∘fun x=>x.n) (fun y=>decide (y.lord=some e.n)) es;rw[e2];exact this
def pq{es:List aQ}(nd:(0x68).Nodup)(h:ss.Perm ((es.filter fun y=>decide (y.lord=some q)).map (·.n))):(∀s∈ss,s∈nms es)/\∀y∈es,(y.n∈ss↔y.lord=some q):=by
 refine⟨fun s hs=>?_,fun y hy=>⟨fun hs=>?_,fun hl=>?_⟩⟩
 ·obtain⟨y,hy,rfl⟩:=A0e.mp (h.mem_iff.mp hs);exact A0e.mpr ⟨y,(A0w.mp hy).1,rfl⟩
 ·obtain⟨z,hz,e⟩:=A0e.mp (h.mem_iff.mp hs);obtain⟨z1,z2⟩:=A0w.mp hz;obtain rfl:=gC nd z1 hy e;exact qg z2
 ·exact h.mem_iff.mpr (A0e.mpr ⟨y,A0w.mpr ⟨hy,A0k hl⟩,rfl⟩)
def XS{es:List aQ}(h:ss.Perm (((kO es).filter fun x=>decide (x.2=.str q)).map mQ)):ss.Perm ((es.filter fun y=>decide (y.lord=some q)).map (·.n)):=by
 rw[Ak]at h;have:(es.filter fun e=>decide (lU e.lord=V.str q))=es.filter fun y=>decide (y.lord=some q):=A2x fun y _=>A3S.mpr yD;rw[<-this];exact h
def Tq{e:Str}{a:Int}{es:List aQ}:kO (cO e p a es)=kv (fun y=>if y.lord=some e then V.str p else lU y.lord) (es.filter fun y=>decide (y.n≠e)):=by
 unfold cO kO;rw[jw (g:=DX e p a) 0xD];refine gG fun y _=>?_
 show lU (if y.lord=some e then some p else y.lord)=_
 split<;>rfl
def NQ{es:List aQ}(nd:(0x68).Nodup){e:Str}{a:Int}(h:ss.Perm (((kO es).filter fun x=>decide (x.2=.str e)).map mQ)):jk (moved (kO es) ss p) 0x18=kO (cO e p a es):=by
 obtain⟨h1,h2⟩:=pq nd (XS h);rw[DW ss h1,mV,Tq];refine gG fun y hy=>?_;have:=h2 y (A0w.mp hy).1
 by_cases c:y.lord=some e
 ·rw[A0i c,A0i (this.mpr c)]
 ·rw[A0f c,A0f fun z=>c (this.mp z)]
def NT{es:List aQ}(nd:(0x68).Nodup){e:Str}{a:Int}(h:ss.Perm ((((es.filter fun y=>decide (y.n≠e))).filter fun y=>decide (y.lord=some e)).map (·.n))):moved (kO (es.filter fun y=>decide (y.n≠e))) ss p=kO (cO e p a es):=by
 have nd2:(nms (es.filter fun y=>decide (y.n≠e))).Nodup:=(A4f.map _).nodup nd;obtain⟨h1,h2⟩:=pq nd2 h;rw[DW ss h1,Tq];refine gG fun y hy=>?_;have:=h2 y hy
 by_cases c:y.lord=some e
 ·rw[A0i c,A0i (this.mpr c)]
 ·rw[A0f c,A0f fun z=>c (this.mp z)]
def pZ{f:aQ->V}{es:List aQ}{e:Str}{a:Int}(hf:∀y,f (DX e p a y)=f y):jk 0x53 0x18=kv f (cO e p a es):=by
 rw[mV];unfold cO;rw[jw (g:=DX e p a) 0xD];exact gG fun y _=>(hf y).symm
def Tr{es:List aQ}(nd:(0x68).Nodup){e0 y0:aQ}(hp:y0∈es)(hn:y0.n=p):jk (putK (lV es) (.inr p) (.int (y0.own+e0.own))) (.inr e0.n)=lV 0x22:=by
 rw[vC (by rw[<-hn];exact A0e.mpr ⟨y0,hp,rfl⟩),mV];unfold cO lV;rw[jw (g:=DX e0.n p e0.own) 0xD];refine gG fun y hy=>?_
 show(if y.n=p then V.int (y0.own+e0.own)else V.int y.own)=V.int (if y.n=p then y.own+e0.own else y.own)
 split
 ·rename_i c
  rw[gC nd (A0w.mp hy).1 hp (c.trans hn.symm)]
 ·rfl
def NZ{es:List aQ}(nd:(0x68).Nodup){e0 y0:aQ}(hp:y0∈es)(hn:y0.n=p)(hne:p≠e0.n):putK (lV 0x10) (.inr p) (.int (y0.own+e0.own))=lV 0x22:=by
 rw[vC (by rw[<-hn]at hne ⊢;exact A0e.mpr ⟨y0,A0w.mpr ⟨hp,A0k hne⟩,rfl⟩)];unfold cO lV;rw[jw (g:=DX e0.n p e0.own) 0xD];refine gG fun y hy=>?_
 show(if y.n=p then V.int (y0.own+e0.own)else V.int y.own)=V.int (if y.n=p then y.own+e0.own else y.own)
 split
 ·rename_i c
  rw[gC nd (A0w.mp hy).1 hp (c.trans hn.symm)]
 ·rfl
end M
namespace L2
open PySem PySem.Spec PyProof.Rows PySem.W
theorem Ks:∀(a b:List Nat),ltCps a b=true↔a<b
 |[],[]=>by simp[ltCps]
 |[],_::_=>by simp[ltCps]
 |_::_,[]=>by simp[ltCps]
 | x::xs,y::ys=>by
  have ih:=Ks xs ys;unfold ltCps;rw[List.cons_lt_cons_iff]
  by_cases h:x<y
  ·simp[h]
  ·by_cases h2:x=y
   ·subst h2;simp[ih]
   ·simp[h,h2]
theorem yG:∀(l:List Str),sortedS l=true->l.Pairwise fun a b=>a.cps.toList<=b.cps.toList
 |[],_=>.nil
 | x::r,h=>by
  have key:∀(r:List Str)(p:Str),risingS p r=true->(∀y∈r,p.cps.toList<=y.cps.toList)/\r.Pairwise fun a b=>a.cps.toList<=b.cps.toList:=by
   intro r
   induction r with
   |nil=>intro p _;exact⟨fun y hy=>(by cases hy),.nil⟩
   | cons x r ih=>
    intro p hp;simp only[risingS,A0Y,A4v]at hp;obtain⟨h1,h2⟩:=ih x hp.2;have h0:p.cps.toList<=x.cps.toList:=by
     refine List.not_lt.mp fun c=>?_;rw[(Ks _ _).mpr c]at hp;exact absurd hp.1 0x5
    refine⟨fun y hy=>?_,.cons (fun y hy=>h1 y hy) h2⟩;rcases A0d.mp hy with q|q
    ·rw[q];exact h0
    ·exact List.le_trans h0 (h1 y q)
  obtain⟨h1,h2⟩:=key r x h;exact .cons (fun y hy=>h1 y hy) h2
def Hr{l m:List Str}(p:l.Perm m)(h1:sortedS l=true)(h2:sortedS m=true):l=m:=
 List.Perm.eq_of_pairwise (fun a b _ _ x y=>zH (List.le_antisymm x y)) (yG l h1) (yG m h2) p
theorem Ku:∀{xs:List V}{us:List Value},xs.length=us.length->(∀(i:Nat)(x:V)(u:Value),xs[i]?=some x->us[i]?=some u->RelV x u)->Vals xs us
 |[],[],_,_=>.nil
 |[],_::_,h,_=>by simp at h
 |_::_,[],h,_=>by simp at h
 |x::xs,u::us,h,hr=>.cons (hr 0 x u rfl rfl) (Ku (by simpa using h) fun i a b h1 h2=>hr (i+1) a b (by simpa using h1) (by simpa using h2))
inductive Tt(xs:List V)(H:Hp)(Q:VK):Prop
 |mk(a:Addr)(kvs:List (Prod L2.Key V))(_:xs=[.ref a])(_:H a=some 0x16)(_:∀p,H p=none->Q 0x46 (upd H p (.lst (kvs.map fun kv=>kV kv.1)))):Tt xs H Q
def Hs(hin:X.A.handled=none):gO X (.type "list") Tt:=by
 intro pins s σ H xs us Q I r h;obtain⟨a,kvs,rfl,ha,q⟩:=h;obtain⟨u,rfl,ru⟩:=vals1 r;cases ru;obtain⟨z,hs,vs,ep,rel,dat⟩:=a2X I ha;have hlen:vs.length=kvs.length:=rel.length.symm;refine kdl_call (kdl_dict (knd:=bW X.prog X.w) (kvs:=vs) (ep:=ep) hs) hin dat 0x4 fun h' tk acc c hk hS hI=>?_;have hv:Vals (kvs.map fun kv=>kV kv.1) acc.toList:=by
  refine Ku (by have h1:=hI.1;have h2:acc.toList.length=acc.size:=A1o;rw[cM];lia) fun i x u h1 h2=>?_;rw[pF]at h1;obtain⟨kv,hkv,rfl⟩:=A0J.mp h1;obtain⟨u',hu',_⟩:=rel.at hkv;obtain⟨k,y,e1,e2⟩:=hI.2 i u (by rw[<-Array.getElem?_toList];exact h2);rw[hu']at e1;cases e1;exact Rq e2
 exact⟨.ref s.heap.objs.size,_,I.laid (o:=.lst (kvs.map fun kv=>kV kv.1)) (t':=tk) hk 0x33 ⟨by rw[cM];exact z,acc.toList,c,hv,hS⟩,rfl,q _ 0x4B⟩
def ZP{o:Obj}{e:Str}(h:H a=some 0x5C)(hv:bJ kvs 0x18=some v):dj H a (V.str e) (some v):=.inl ⟨kvs,.inr e,.inr ⟨_,h⟩,rfl,hv.symm⟩
end L2
namespace M
open PySem L2 PyProof.Rows
def yH{f:aQ->V}{es:List aQ}{k:Nat}{Q:VK}(p:aQ->Bool)(ha:H a=some (.dK 0x53))(hl:es.length<=1000)
  (hd:∀(o:Obj)(R:VK),R 0x4E (upd H a (.iY o (.dK 0x53)))->td σ (upd H a (.iY o (.dK 0x53))) R)
  (turn:∀(o:Obj)(y:aQ)(Hz:Hp)(A:V->Hp->Prop)(B:Hp->Prop),y∈es->Same (upd H a (.iY o (.dK 0x53))) Hz->(if p y=true then A (V.str y.n) Hz else B Hz)->g (V.str y.n) (pG σ k ix) Hz fun σ2 H4=>Kp (pG σ k ix) σ2/\tt σ2 H4 fun b H5=>if b=true then te σ2 H5 A else B H5)
  (done:∀D Hz,Same H Hz->H D=none->Hz D=some (.lst (((es.filter p).map (·.n)).map V.str))->Q 0x4F Hz):a0U (JF k ix (Zw td) g tt te) σ H Q:=by
 refine⟨a,_,ha,fun o=>hd o _ ⟨a,o,kv f es,rfl,ao,fun D hD=>?_⟩⟩;have nD:a≠D:=au (show(upd H a (.iY o (.dK 0x53))) a=some (.iY o (.dK 0x53))from ao) hD
 have sX:H D=none:=by rw[ak (A0m nD)]at hD;exact hD
 refine Np (o:=o) (fun i ys Hz=>ys=(((es.take i).filter p).map (·.n)).map V.str/\Same (upd H a (.iY o (.dK 0x53))) Hz/\Hz D=some 0x89) (fun i ys Hz h=>h.2.1 _ _ ao) ⟨rfl,aK hD _,ao⟩ (fun i ys Hz h=>h.2.2) ?_ ?_
 ·rintro i ys Hz kx hkv ⟨rfl,sz,mU⟩;rw[pF]at hkv;obtain⟨y,hy,rfl⟩:=A0J.mp hkv;refine turn o y Hz _ _ (wU hy) sz ?_;have step:(((es.take (i+1)).filter p).map (·.n)).map V.str=(((es.take i).filter p).map (·.n)).map V.str++(if p y=true then[V.str y.n]else[]):=by
   rw[A1e,hy,A2T,j9,j9]
   congr 1
   cases e:p y<;>simp[e]
  by_cases c:p y=true
  ·rw[A0i c]at step ⊢;refine⟨mU,?_,step.symm,bU sz hD,ao⟩;rw[cM,cM];have:=A0N p (es.take i);rw[A0H]at this;exact bO 0x4
  ·rw[A0f c]at step ⊢;refine⟨by rw[step,A1t],sz,mU⟩
 ·rintro ys Hz ⟨rfl,sz,mU⟩;rw[jx,A1f]at mU;refine⟨sz _ _ ao,?_⟩;exact done D _ (rM ha sz) sX (by rw[ak (A0m nD)];exact mU)
def pA{D:Addr}{xs:List Str}{k:Nat}{Q:VK}(p:Str->Bool)(e:Str->V)(hs:bY K H1 a (xs.map V.str))(hD:H1 D=none)(hl:xs.length<=1000)
  (turn:∀(x:Str)(Hz:Hp)(A:V->Hp->Prop)(B:Hp->Prop),x∈xs->Same H1 Hz->(∀H',Same Hz H'->if p x=true then A (e x) H' else B H')->g (V.str x) (pG σ k ix) Hz fun σ2 H4=>Kp (pG σ k ix) σ2/\tt σ2 H4 fun b H5=>if b=true then te σ2 H5 A else B H5)
  (done:∀Hz,Same H1 Hz->Hz D=some (.lst ((xs.filter p).map e))->Q 0x4F Hz):pX (Itl K a) D σ k ix g tt te Q H1:=by
 refine xZ (xs:=xs.map V.str) (fun i ys Hz=>ys=((xs.take i).filter p).map e/\Same H1 Hz/\Hz D=some 0x89) (fun i ys Hz h=>h.2.1.seq hs) ⟨rfl,aK hD _,ao⟩ (fun i ys Hz h=>h.2.2) ?_ ?_
 ·rintro i ys Hz v hv ⟨rfl,sz,mU⟩;rw[pF]at hv;obtain⟨x,hx,rfl⟩:=A0J.mp hv;refine turn x Hz _ _ (wU hx) sz fun H' s'=>?_;have step:((xs.take (i+1)).filter p).map e=((xs.take i).filter p).map e++(if p x=true then[e x]else[]):=by
   rw[A1e,hx,A2T,j9]
   congr 1
   cases c:p x<;>simp[c]
  by_cases c:p x=true
  ·rw[A0i c]at step ⊢;refine⟨s' _ _ mU,?_,step.symm,bU (sz.trans s') hD,ao⟩;rw[cM];have:=A0N p (xs.take i);rw[A0H]at this;exact bO 0x4
  ·rw[A0f c]at step ⊢;exact⟨by rw[step,A1t],sz.trans s',s' _ _ mU⟩
 ·rintro ys Hz ⟨rfl,sz,mU⟩;rw[cM,A1f]at mU;exact done Hz sz mU
structure Ad where
 x:Addr
 dx:Addr
 a1:Addr
 a2:Addr
 a3:Addr
 a4:Addr
 a5:Addr
 B:Addr
 l:Addr
 h:Addr
 o:Addr
 d:Addr
 kn:Addr
 dd:Addr
 he:Addr
 lg:Addr
 kvs:List 0x2B
 wd:Int
abbrev Bk(q:Ad)(H:Hp)(es:List aQ)(ks:List Str):Prop:=fZ H q.B q.l q.h q.o q.d q.kn q.dd q.kvs (kO es) (hoL es) (lV es) (qO es) ks
abbrev Ln(C:Addr)(q:Ad)(H:Hp)(es:List aQ):Prop:=cA C H q.x q.dx q.a1 q.a2 q.a3 q.a4 q.a5 (kO es) (hoL es) (lV es) (T8 es) (PB es)
abbrev Y0:Stmt:=top 54
abbrev a1k:Stmt:=top 55
abbrev Y4:Stmt:=top 56
abbrev Y5:Stmt:=top 57
def Ap(q:Ad):Prop:=[q.a1,q.a2,q.a3,q.a4,q.a5,q.B,q.l,q.h,q.o,q.d,q.kn,q.dd,q.he,q.lg].Nodup
def bQ{l:List Addr}(h:l.Nodup)(i j:Nat)(ha:l[i]?=some a)(hb:l[j]?=some b)(hij:i≠j):a≠b:=by
 obtain⟨h1,e1⟩:=A0j.mp ha;obtain⟨h2,e2⟩:=A0j.mp hb;intro q;exact hij ((List.getElem_inj h).mp (by rw[e1,e2,q]))
inductive Kv(vs:List V)(H:Hp)(Q:VK)(cH:XK):Prop
 |mk(q:Ad)(es:List aQ)(ks:List Str)(e:Str)(_:vs=[.ref q.B,.str e])(_:Ap q)(_:Bk q H es ks)(_:(0x68).Nodup)(_:es.length<64)(_:∀(r:Addr)(ss:List Str)(H':Hp),Same H H'->H r=none->H' r=some 0x35->ss.Perm ((es.filter fun y=>decide (y.lord=some e)).map (·.n))->sortedS ss=true->Q 0x60 H'):Kv vs H Q cH
inductive Kw(vs:List V)(H:Hp)(Q:VK)(cH:XK):Prop
 |mk(q:Ad)(es:List aQ)(ks:List Str)(m:Str)(_:vs=[.ref q.B,.str m])(_:Ap q)(_:Bk q H es ks)(_:(0x68).Nodup)(_:es.length<64)(_:∀(r:Addr)(ss:List Str)(H':Hp),Same H H'->H r=none->H' r=some 0x35->ss.Perm ((es.filter fun y=>decide (y.man=m)).map (·.n))->sortedS ss=true->Q 0x60 H'):Kw vs H Q cH
inductive Ky(vs:List V)(H:Hp)(Q:VK)(cH:XK):Prop
 |mk(q:Ad)(es:List aQ)(ks:List Str)(m:Str)(_:vs=[.ref q.B,.str m])(_:Ap q)(_:Bk q H es ks)(_:WF es)(_:es.length<64)(_:∀(r:Addr)(ss:List Str)(H':Hp),Same H H'->H r=none->H' r=some 0x35->ss.length<64->(∀l,l∈ss↔∃y∈es,y.man=m/\y.n≠""/\∃z∈es,y.lord=some z.n/\z.man=l)->Q 0x60 H'):Ky vs H Q cH
def O1(o:Option Str)(e:Str):Qi (lU o) (V.str e)=true:=by cases o<;>rfl
def Tv{o:Option Str}{e:Str}:decide (lU o=V.str e)=decide (o=some e):=A3S.mpr yD
def fZ.gl{q:Ad}{es:List aQ}(b:Bk q H es ks):dj H q.B (V.str "lords") (some (.ref q.l)):=gR b.b b.vl
def fZ.gh{q:Ad}{es:List aQ}(b:Bk q H es ks):dj H q.B (V.str "holders") (some (.ref q.h)):=gR b.b b.vh
def fZ.go{q:Ad}{es:List aQ}(b:Bk q H es ks):dj H q.B (V.str "own") (some (.ref q.o)):=gR b.b b.vo
def fZ.gd{q:Ad}{es:List aQ}(b:Bk q H es ks):dj H q.B (V.str "due") (some (.ref q.d)):=gR b.b b.vd
def fZ.gk{q:Ad}{es:List aQ}(b:Bk q H es ks):dj H q.B (V.str "known") (some (.ref q.kn)):=gR b.b b.vk
def fZ.gx{q:Ad}{es:List aQ}(b:Bk q H es ks):dj H q.B (V.str "dead") (some (.ref q.dd)):=gR b.b b.vx
def ZQ{f:aQ->V}{es:List aQ}{e:aQ}(h:H a=some (.dK 0x53))(nd:(0x68).Nodup)(he:e∈es):dj H a (V.str e.n) (some (f e)):=gR h (dg nd he)
def a2Z:aP A5e A5e (aJ Y0):=0x0
def a3a:Scope:={kind:=.function,names:=[(".0",.local),("_law_one",.local),("_law_book_here",.free),("_law_estate",.free)],isGenerator:=false,isCoroutine:=false}
def a3b:iw A5e (aJ Y0) a3a ["_law_one"] A5e [0,1]:=0xE
def a3c:((["_law_one"]:List Str)++(A5e:List Str)).Nodup:=by decide+kernel
def a1l(ms:mg "sorted"=none)(F:fj K "_law_under" "_law_under" Y0 f fd):aL P w K mg base bL 1 f fd A5e Kv:=by
 refine F.ok a2Z 0x1 0x3;obtain⟨q,es,ks,e,rfl,ap,bk,nd,hl,k⟩:=h;refine⟨_,aG (aZ (bH iM rfl ms jM (aj (zR (kI rfl a3b (Ke 0x1B) (fun s H fp C'=>⟨bB (i:=0) a3c rfl 0x8,kE (aU fJ (bA 0x17 (bA 0x17 0xF aM 0x2) 0x32 0x2) 0x3B 0x61),pv 0⟩))) aC))),?_⟩;have nB:q.B≠q.l:=bQ ap 5 6 rfl rfl 0x5;have gB:∀{o:Obj}{Hz:Hp},Same (upd H q.l (.iY o (.dK (kO es)))) Hz->dj Hz q.B (V.str "lords") (some (.ref q.l)):=fun sz=>gR (sz _ _ (by rw[ak nB];exact bk.b)) bk.vl;refine yH (fun y=>decide (y.lord=some e)) bk.l 0x4 (fun o R hR=>⟨_,rfl,q.B,_,rfl,gB 0x6D,hR⟩) (fun o y Hz A B hy sz hAB=>?_) (fun D Hz sz sX mU=>?_)
 ·refine⟨Kp.set rfl (Kp.refl _),_,rfl,q.B,_,rfl,gB sz,_,rfl,q.l,_,rfl,ZP (sz _ _ ao) (dg nd hy),_,rfl,O1 _ _,_,rfl,?_⟩;rw[Tv];refine iu 0x3C 0x3C
  ·rw[A0i c]at hAB;exact⟨_,rfl,hAB⟩
  ·rw[A0f c]at hAB;exact hAB
 ·refine⟨D,_,rfl,bY.of mU,?_,fun l ss hl0 hp hs=>?_⟩
  ·rw[cM];exact A0O (A0N _ _) hl
  ·exact k l ss _ (bU sz (sz.free hl0)) (sz.free hl0) ao hp hs
def a3d:aP A5d A5d (aJ Y4):=0x0
def a3e:Scope:={kind:=.function,names:=[(".0",.local),("_law_one",.local),("_law_book_here",.free),("_law_man",.free)],isGenerator:=false,isCoroutine:=false}
def a3f:iw A5d (aJ Y4) a3e ["_law_one"] A5d [0,1]:=0xE
def a3g:((["_law_one"]:List Str)++(A5d:List Str)).Nodup:=by decide+kernel
def a1m(ms:mg "sorted"=none)(F:fj K "_law_held" "_law_held" Y4 f fd):aL P w K mg base bL 1 f fd A5d Kw:=by
 refine F.ok a3d 0x1 0x3;obtain⟨q,es,ks,m,rfl,ap,bk,nd,hl,k⟩:=h;refine⟨_,aG (aZ (bH iM rfl ms jM (aj (zR (kI rfl a3f (Ke 0x1B) (fun s H fp C'=>⟨bB (i:=0) a3g rfl 0x8,kE (aU fJ (bA 0x17 (bA 0x17 0xF aM 0x2) 0x32 0x2) 0x3B 0x61),pv 0⟩))) aC))),?_⟩;have nB:q.B≠q.h:=bQ ap 5 7 rfl rfl 0x5;have gB:∀{o:Obj}{Hz:Hp},Same (upd H q.h (.iY o (.dK (hoL es)))) Hz->dj Hz q.B (V.str "holders") (some (.ref q.h)):=fun sz=>gR (sz _ _ (by rw[ak nB];exact bk.b)) bk.vh;refine yH (fun y=>decide (y.man=m)) bk.h 0x4 (fun o R hR=>⟨_,rfl,q.B,_,rfl,gB 0x6D,hR⟩) (fun o y Hz A B hy sz hAB=>?_) (fun D Hz sz sX mU=>?_)
 ·refine⟨Kp.set rfl (Kp.refl _),_,rfl,q.B,_,rfl,gB sz,_,rfl,q.h,_,rfl,ZP (sz _ _ ao) (dg nd hy),_,rfl,rfl,_,rfl,?_⟩;rw[gZ];refine iu 0x3C 0x3C
  ·rw[A0i c]at hAB;exact⟨_,rfl,hAB⟩
  ·rw[A0f c]at hAB;exact hAB
 ·refine⟨D,_,rfl,bY.of mU,?_,fun l ss hl0 hp hs=>?_⟩
  ·rw[cM];exact A0O (A0N _ _) hl
  ·exact k l ss _ (bU sz (sz.free hl0)) (sz.free hl0) ao hp hs
def a3h:aP A5d A5d (aJ Y5):=0x0
def a3i:Scope:={kind:=.function,names:=[(".0",.local),("_law_one",.local),("_law_book_here",.free)],isGenerator:=false,isCoroutine:=false}
def a3j:iw A5d (aJ Y5) a3i ["_law_one"] ["_law_book_here"] [0]:=0xE
def a3k:((["_law_one"]:List Str)++(["_law_book_here"]:List Str)).Nodup:=by decide+kernel
def yI(es:List aQ)(n:Str):Str:=match es.find? fun e=>decide (e.n=n)with
 | some e=>match e.lord with
  | some p=>match es.find? fun e=>decide (e.n=p)with
   |some y=>y.man
   |none=>""
  |none=>""
 |none=>""
def a1n(F:fj K "_law_bound_to" "_law_bound_to" Y5 f fd)(G1:aL P w K mg base bL 1 g1 d1 A5d Kw)(M1:Ms K mg "_law_held" g1 d1 A5d):aL P w K mg base bL 2 f fd A5d Ky:=by
 refine F.ok a3h 0x1 0x3;obtain⟨q,es,ks,m,rfl,ap,bk,W,hl,k⟩:=h;refine⟨_,aG (aZ (kI rfl a3j (fu (bG G1 hr rfl M1.m M1.k M1.b .nil bC (aj 0x32 0x2C))) (fun s H fp C'=>⟨bB (i:=0) a3k rfl 0x8,kE (aU nU 0x32 aM 0x61),bA 0x17 (bA 0x17 0xF aM 0x2) (bA 0x17 (bA 0x17 0xF aM 0x2) 0x32 0x2) 0x2⟩))),?_⟩;refine⟨_,rfl,_,rfl,q,es,ks,m,rfl,ap,bk,W.nd,hl,fun r ss H' s' hr0 hr1 hp hs=>?_⟩;have hsl:ss.length<64:=by
  rw[hp.length_eq,cM];exact A0O (A0N _ _) hl
 refine⟨r,rfl,⟨_,bY.of hr1⟩,fun D hD=>pA (xs:=ss) (fun x=>!decide (x="")) (fun x=>V.str (yI es x)) (bY.of hr1) hD 0x4 (fun x Hz A B hx sz hAB=>?_) (fun Hz sz mU=>?_)⟩
 ·obtain⟨y,hy,rfl⟩:=A0e.mp (hp.mem_iff.mp hx);have hye:=(A0w.mp hy).1;have hAB:=hAB _ 0x6D;refine⟨Kp.set rfl (Kp.refl _),_,rfl,rfl,_,rfl,?_⟩;rw[gZ];refine iu 0x3C 0x3C
  ·rw [A0i c]at hAB;have bz:=(bk.same s').same sz;have hne:y.n≠"":=by
    intro z;rw[z]at c;exact absurd c 0x5
   obtain⟨p,hp1,hp2,_⟩:=W.lord y hye hne;obtain⟨z,hz,Ht⟩:=dF hp2;have eu:yI es y.n=z.man:=by
    unfold yI;rw[vI W.nd hye];dsimp only;rw[hp1];dsimp only;rw[<-Ht,vI W.nd hz]
   rw[eu]at hAB;have g1:=ZQ bz.l W.nd hye;rw[hp1]at g1;have g2:=ZQ bz.h W.nd hz;rw[Ht]at g2;exact⟨_,rfl,q.B,_,rfl,bz.gh,_,rfl,q.B,_,rfl,bz.gl,_,rfl,q.l,_,rfl,g1,q.h,_,rfl,g2,hAB⟩
  ·rw[A0f c]at hAB;exact hAB
 ·have hDz':Hz D=some (.lst ((((ss.filter fun x:Str=>!decide (x="")).map (yI es))).map V.str)):=by rw[mU,A0T];rfl
  have eu:∀{y z:aQ},y∈es->z∈es->y.lord=some z.n->yI es y.n=z.man:=fun{y z}hy hz hl=>by
   unfold yI;rw[vI W.nd hy];dsimp only;rw[hl];dsimp only;rw[vI W.nd hz]
  refine k D _ Hz (s'.trans sz) (s'.free hD) hDz' (by rw[cM];exact A0O (A0N _ _) hsl) fun l=>⟨fun h=>?_,fun⟨y,hy,h1,h2,z,hz,h3,h4⟩=>?_⟩
  ·obtain⟨x,hx,rfl⟩:=A0e.mp h;have hx:=A0w.mp hx;obtain⟨y,hy,rfl⟩:=A0e.mp (hp.mem_iff.mp hx.1);have hy:=A0w.mp hy;have hne:y.n≠"":=fun z=>by
    have h2:=hx.2;rw[z]at h2;exact absurd h2 0x5
   obtain⟨p,hp1,hp2,_⟩:=W.lord y hy.1 hne;obtain⟨z,hz,Ht⟩:=dF hp2;exact⟨y,hy.1,qg hy.2,hne,z,hz,by rw[hp1,Ht],(eu hy.1 hz (by rw[hp1,Ht])).symm⟩
  ·refine A0e.mpr ⟨y.n,A0w.mpr ⟨hp.mem_iff.mpr (A0e.mpr ⟨y,A0w.mpr ⟨hy,A0k h1⟩,rfl⟩),?_⟩,(eu hy hz h3).trans h4⟩;rw[A4v,decide_eq_false_iff_not];exact h2
theorem Ea:∀ss:List Str,dN H (ss.map V.str) (ss.map PyData.str)
 |[]=>.nil
 |x::r=>.cons (.str x) (Ea r)
theorem yJ:∀{ss:List Str},(∀s∈ss,PyData.strOk s=true)->PyData.canLayAll0 (ss.map PyData.str)=true
 |[],_=>by simp[PyData.canLayAll0]
 |x::r,h=>by simp[PyData.canLayAll0,PyData.canLay0,h x A0o,yJ fun s hs=>h s (jK _ hs)]
def Eb(h:∀s∈ss,PyData.strOk s=true):(PyData.list (ss.map .str)).canLay0=true:=by
 have:=yJ h
 simpa[PyData.canLay0]using this
theorem yK:∀ss:List Str,PyData.depthAll (ss.map PyData.str)<=2
 |[]=>by simp[PyData.depthAll]
 | x::r=>by
  have:=yK r;simp[PyData.depthAll,PyData.depth];lia
def Tw(ss:List Str):(PyData.list (ss.map .str)).depth<=8:=by
 have:=yK ss;simp[PyData.depth];lia
theorem strs_nil:∀ss:List Str,PyData.eqv (.list (ss.map .str)) (.list [])=decide (ss=[])
 |[]=>by simp[PyData.eqv,PyData.eqvAll]
 |x::r=>by simp[PyData.eqv,PyData.eqvAll]
def Tz(x:V)(xs:List V):iG (x::xs) (some 1) none=xs:=by
 unfold iG;have e1:HT.fQ (x::xs).length 0 (some 1)=1:=by
  unfold HT.fQ;simp
 have e2:HT.fQ (x::xs).length (x::xs).length none=xs.length+1:=rfl;rw[e1,e2];simp
theorem ZR:∀(es:List aQ)(n:Str),wt es n<=2^es.length
 |[],_=>A1j _
 | x::r,n=>by
  unfold wt;rw[wO,Nat.pow_succ];have:=ZR r n;have h2:0<2^r.length:=Nat.pow_pos 0x5
  split<;>lia
theorem TF:∀{es:List aQ}{n:Str},n∈nms es->1<=wt es n
 | x::r,n,h=>by
  unfold wt;have h2:0<2^r.length:=Nat.pow_pos 0x5
  split
  ·lia
  ·rename_i c
   rcases A0d.mp h with q|q
   ·exact absurd q.symm c
   ·exact TF q
theorem Hu{es:List aQ}:∀{ss:List Str},(∀s∈ss,s∈nms es)->ss.length<=(ss.map (wt es)).sum
 |[],_=>A0g _
 | x::r,h=>by
  have h1:=TF (h x A0o);have h2:=Hu (es:=es) (ss:=r) fun s hs=>h s (jK _ hs);rw[wO,A0h,A0I];lia
def Ec:aP ["_law_book_here","_law_estate","_law_found","_law_ahead_here"] A5e (aJ a1k):=0x0
inductive a1o(vs:List V)(H:Hp)(Q:VK)(cH:XK):Prop
 |mk(q:Ad)(es:List aQ)(ks:List Str)(e:aQ)(_:vs=[.ref q.B,.str e.n])(_:Ap q)(_:Bk q H es ks)(_:WF es)(_:e∈es)(_:es.length<=18)(_:∀H':Hp,Same H H'->Q (.int e.br) H'):a1o vs H Q cH
def a1p(F:fj K "_law_breadth" "_law_breadth" a1k f fd)(G1:aL P w K mg base bL 1 g1 d1 A5e Kv)(M1:Ms K mg "_law_under" g1 d1 A5e):aL P w K mg base bL 2 f fd A5e a1o:=by
 refine F.ok Ec 0x1 0x3;obtain⟨q,es,ks,e,rfl,ap,bk,W,he,hl,k⟩:=h;refine⟨_,aq (aV (i:=2) Ec.nd rfl 0x8 (bA 0x17 0x1B 0xF 0x2))
  (aq (aV (i:=3) Ec.nd rfl 0x8 (bG G1 hr rfl M1.m M1.k M1.b .nil bC (aj 0x32 0x2C)))
  (aq (lH A0Q (aU (zM hr.units) 0x52 (cL aC) 0x61)
   (aq (aV (i:=2) Ec.nd rfl 0x8 (aX dY 0x3B (bA 0x17 0x1B (aN bD 0x52 aA 0x2) 0x2)))
   (aG (aV (i:=3) Ec.nd rfl 0x8 (aX pW (eG mG 0x52 (cU aA) iI) (bG G1 hr rfl M1.m M1.k M1.b .nil bC (aj 0x32 (aj (aN bD 0x52 aA 0x2) aC))))))))
  (aG (aZ 0x3B)))),?_⟩
 have hw:2^es.length<=262144:=A0z (A2w 0x5 hl) 0x5;refine⟨_,rfl,q.B,_,rfl,bk.go,_,rfl,q.o,_,rfl,ZQ bk.o W.nd he,?_⟩;refine⟨_,rfl,_,rfl,q,es,ks,e.n,rfl,ap,bk,W.nd,by lia,fun t ss H1 s1 ht0 ht1 hp hs=>?_⟩;refine⟨fun m σ Hx=>∃(found:Int)(t:Addr)(ss:List Str),m=(ss.map (wt es)).sum/\σ=[some (.ref q.B),some (.str e.n),some (.int found),some 0x58]/\Same H Hx/\Hx t=some 0x35/\(∀s∈ss,s∈nms es)/\found+(ss.map (NP es)).sum=e.br/\(ss.map (wt es)).sum<=262144,⟨_,e.own,t,ss,rfl,rfl,s1,ht1,(pq W.nd hp).1,?_,?_⟩,?_⟩
 ·rw[yE W.nd hp];exact(W.br e he).symm
 ·have:=vJ W he hp;have h2:=ZR es e.n;lia
 rintro m σ Hx ⟨found,t,ss,rfl,rfl,sx,tx,hm,hf,hb⟩;refine⟨_,rfl,small 0xA,fun z hz=>?_⟩;have sz:=aK hz 0x54;refine⟨_,_,.lst (sz _ _ tx) (Ea ss),.lst ao .nil,Eb (fun s hs=>by obtain⟨y,hy,rfl⟩:=dF (hm s hs);exact W.ok y hy),Eb (ss:=[]) (fun _ h=>nomatch h),Tw ss,_,rfl,?_⟩
 rw[strs_nil];cases ss with
 | nil=>
  refine cg ⟨_,rfl,?_⟩;have:found=e.br:=by simpa using hf
  rw[this];exact k _ (sx.trans sz)
 | cons x r=>
  refine cW ?_;obtain⟨y,hy,rfl⟩:=dF (hm x A0o);have sxz:=sx.trans sz;have bz:=bk.same sxz;have tz:=sz _ _ tx;rw[A0h,A0I]at hf hb;have lr:=Hu (es:=es) (ss:=r) fun s hs=>hm s (jK _ hs);refine⟨fun σ' H'=>∃(found:Int)(t:Addr)(ss:List Str),(ss.map (wt es)).sum<wt es y.n+(r.map (wt es)).sum/\σ'=[some (.ref q.B),some (.str e.n),some (.int found),some 0x58]/\Same H H'/\H' t=some 0x35/\(∀s∈ss,s∈nms es)/\found+(ss.map (NP es)).sum=e.br/\(ss.map (wt es)).sum<=262144,fun σ' H' ⟨fo,t',ss',q1,q2⟩=>⟨_,by rw[A0h,A0I];exact q1,fo,t',ss',rfl,q2⟩,?_⟩;refine⟨_,rfl,_,rfl,q.B,_,rfl,bz.go,_,rfl,t,_,_,_,rfl,rfl,bY.of tz,aH (j:=0) rfl,q.o,_,rfl,ZQ bz.o W.nd hy,_,_,rfl,rfl,?_⟩;refine⟨_,rfl,_,rfl,t,_,rfl,bY.of tz,fun c hc=>?_⟩;rw[A0h,Tz];have sc:=aK hc (.lst (r.map V.str));have bc:=bz.same sc;refine⟨_,rfl,_,rfl,t,_,_,_,rfl,rfl,bY.of (sc _ _ tz),aH (j:=0) rfl,q,es,ks,y.n,rfl,ap,bc,W.nd,by lia,fun u su H2 s2 hu0 hu1 hpu hsu=>?_⟩;have hum:=vJ W hy hpu;have hus:=yE W.nd hpu;have humm:=(pq W.nd hpu).1;have lu:=Hu humm;refine⟨c,u,_,_,rfl,rfl,s2 _ _ ao,hu1,?_,fun v hv=>?_⟩
  ·rw[cM,cM];exact small 0x4
  have e2:r.map V.str++su.map V.str=(r++su).map V.str:=by rw[j9]
  rw[e2];refine⟨_,v,r++su,?_,rfl,bU ((sxz.trans sc).trans s2) (((sxz.trans sc).trans s2).free hv),ao,fun s hs=>?_,?_,?_⟩
  ·rw[j9,A2W];lia
  ·rcases A0l.mp hs with z|z
   ·exact hm s (jK _ z)
   ·exact humm s z
  ·rw[j9,A2W,hus];have b1:=Ti W.nd hy;have b2:=W.br y hy;rw[b1]at hf;lia
  ·rw[j9,A2W];lia
def Kz(l0:List Str)(y:Str):xT ((l0++[y]).map V.str) (-1)=some (V.str y):=by
 rw[j9];exact CG _ _
abbrev a1q:Stmt:=top 59
abbrev sNew:Stmt:=top 61
abbrev BQ(q:Ad)(H:Hp)(lo ho ow du:List 0x2B)(ks:List Str):Prop:=fZ H q.B q.l q.h q.o q.d q.kn q.dd q.kvs lo ho ow du ks
section
variable{q:Ad}{lo l':List 0x2B}
def fZ.ul(ap:Ap q)(b:BQ q H lo ho ow du ks):BQ q (upd H q.l (.dK l')) l' ho ow du ks:=
 ⟨by rw[ak (bQ ap 5 6 rfl rfl 0x5)];exact b.b,b.vl,b.vh,b.vo,b.vd,b.vk,b.vx,ao,by rw[ak (bQ ap 7 6 rfl rfl 0x5)];exact b.h,by rw[ak (bQ ap 8 6 rfl rfl 0x5)];exact b.o,by rw[ak (bQ ap 9 6 rfl rfl 0x5)];exact b.d,by rw[ak (bQ ap 10 6 rfl rfl 0x5)];exact b.k,b.len⟩
def fZ.uh(ap:Ap q)(b:BQ q H lo ho ow du ks):BQ q (upd H q.h (.dK l')) lo l' ow du ks:=
 ⟨by rw[ak (bQ ap 5 7 rfl rfl 0x5)];exact b.b,b.vl,b.vh,b.vo,b.vd,b.vk,b.vx,by rw[ak (bQ ap 6 7 rfl rfl 0x5)];exact b.l,ao,by rw[ak (bQ ap 8 7 rfl rfl 0x5)];exact b.o,by rw[ak (bQ ap 9 7 rfl rfl 0x5)];exact b.d,by rw[ak (bQ ap 10 7 rfl rfl 0x5)];exact b.k,b.len⟩
def fZ.uo(ap:Ap q)(b:BQ q H lo ho ow du ks):BQ q (upd H q.o (.dK l')) lo ho l' du ks:=
 ⟨by rw[ak (bQ ap 5 8 rfl rfl 0x5)];exact b.b,b.vl,b.vh,b.vo,b.vd,b.vk,b.vx,by rw[ak (bQ ap 6 8 rfl rfl 0x5)];exact b.l,by rw[ak (bQ ap 7 8 rfl rfl 0x5)];exact b.h,ao,by rw[ak (bQ ap 9 8 rfl rfl 0x5)];exact b.d,by rw[ak (bQ ap 10 8 rfl rfl 0x5)];exact b.k,b.len⟩
def fZ.ud(ap:Ap q)(b:BQ q H lo ho ow du ks):BQ q (upd H q.d (.dK l')) lo ho ow l' ks:=
 ⟨by rw[ak (bQ ap 5 9 rfl rfl 0x5)];exact b.b,b.vl,b.vh,b.vo,b.vd,b.vk,b.vx,by rw[ak (bQ ap 6 9 rfl rfl 0x5)];exact b.l,by rw[ak (bQ ap 7 9 rfl rfl 0x5)];exact b.h,by rw[ak (bQ ap 8 9 rfl rfl 0x5)];exact b.o,ao,by rw[ak (bQ ap 10 9 rfl rfl 0x5)];exact b.k,b.len⟩
def fZ.uk(ap:Ap q)(b:BQ q H lo ho ow du ks):BQ q (upd H q.kn (.lst (ks'.map V.str))) lo ho ow du ks':=
 ⟨by rw[ak (bQ ap 5 10 rfl rfl 0x5)];exact b.b,b.vl,b.vh,b.vo,b.vd,b.vk,b.vx,by rw[ak (bQ ap 6 10 rfl rfl 0x5)];exact b.l,by rw[ak (bQ ap 7 10 rfl rfl 0x5)];exact b.h,by rw[ak (bQ ap 8 10 rfl rfl 0x5)];exact b.o,by rw[ak (bQ ap 9 10 rfl rfl 0x5)];exact b.d,ao,b.len⟩
def fZ.kl(b:BQ q H lo ho ow du ks):dj H q.B (V.str "lords") (some (.ref q.l)):=gR b.b b.vl
def fZ.kh(b:BQ q H lo ho ow du ks):dj H q.B (V.str "holders") (some (.ref q.h)):=gR b.b b.vh
def fZ.ko(b:BQ q H lo ho ow du ks):dj H q.B (V.str "own") (some (.ref q.o)):=gR b.b b.vo
def fZ.kd(b:BQ q H lo ho ow du ks):dj H q.B (V.str "due") (some (.ref q.d)):=gR b.b b.vd
def fZ.kk(b:BQ q H lo ho ow du ks):dj H q.B (V.str "known") (some (.ref q.kn)):=gR b.b b.vk
end
def dX(q:Ad)(H H':Hp):Prop:=∀c u,c≠q.l->c≠q.h->c≠q.o->c≠q.d->c≠q.kn->H c=some u->H' c=some u
def dX.trans{q:Ad}(a:dX q H H1)(b:dX q H1 H2):dX q H H2:=fun c u h1 h2 h3 h4 h5 e=>b c u h1 h2 h3 h4 h5 (a c u h1 h2 h3 h4 h5 e)
def dX.ul{q:Ad}:dX q H (upd H q.l o):=fun c u h1 h2 h3 h4 h5 e=>by rw[ak h1];exact e
def dX.uh{q:Ad}:dX q H (upd H q.h o):=fun c u h1 h2 h3 h4 h5 e=>by rw[ak h2];exact e
def dX.uo{q:Ad}:dX q H (upd H q.o o):=fun c u h1 h2 h3 h4 h5 e=>by rw[ak h3];exact e
def dX.ud{q:Ad}:dX q H (upd H q.d o):=fun c u h1 h2 h3 h4 h5 e=>by rw[ak h4];exact e
def dX.uk{q:Ad}:dX q H (upd H q.kn o):=fun c u h1 h2 h3 h4 h5 e=>by rw[ak h5];exact e
def dX.same{q:Ad}(s:Same H H'):dX q H H':=fun c u _ _ _ _ _ e=>s c u e
def fM{q:Ad}{lo:List 0x2B}{r:Addr}(b:BQ q H lo ho ow du ks)(o:dX q H H')(h:H r=some 0x23):H' r=some 0x23:=
 o r _ (aO h b.l 0x6) (aO h b.h 0x6) (aO h b.o 0x6) (aO h b.d 0x6) (aO h b.k 0x6) h
inductive TJ(vs:List V)(H:Hp)(Q:VK)(cH:XK):Prop
 |mk(q:Ad)(lo ho ow du:List 0x21)(ks:List Str)(r:Addr)(xs:List V)(e n man lord:Str)(due:Addr)(a own:Int)(_:vs=[.ref q.B,.ref r,.str lord,.ref due])(_:Ap q)(_:BQ q H lo ho ow du ks)(_:H r=some 0x23)(_:xs[2]?=some (.str e))(_:xs[3]?=some (.str n))(_:xs[4]?=some (.str man))(_:xs[5]?=some (.int a))(_:bJ (putK ow 0x15 (.int a)) 0x18=some (.int own))(_:lo.length<=800)(_:ho.length<=800)(_:ow.length<=800)(_:du.length<=800)(_:ks.length<=800)(_:∀H':Hp,BQ q H' (putK lo 0x15 (.str lord)) (putK ho 0x15 (.str man)) (putK (putK ow 0x15 (.int a)) 0x18 (.int (own-a))) (putK du 0x15 (.ref due)) (ks++[n])->dX q H H'->Q .non H'):TJ vs H Q cH
inductive a1r(vs:List V)(H:Hp)(Q:VK)(cH:XK):Prop
 |mk(q:Ad)(es:List aQ)(ks:List Str)(e0:aQ)(p:Str)(_:vs=[.ref q.B,.str e0.n])(_:Ap q)(_:Bk q H es ks)(_:WF es)(_:e0∈es)(_:e0.n≠"")(_:e0.lord=some p)(_:es.length<64)(_:∀H':Hp,Bk q H' 0x22 ks->dX q H H'->Q .non H'):a1r vs H Q cH
def a3l:aP A5k A5k (aJ sNew):=0x0
def a1s(F:fj K "_law_new" "_law_new" sNew f fd):aL P w K mg base bL 1 f fd A5k TJ:=by
 refine F.ok a3l 0x1 0x3;obtain⟨q,lo,ho,ow,du,ks,r,xs,e,n,man,lord,due,a,own,rfl,ap,bk,hx,x2,x3,x4,x5,hown,l1,l2,l3,l4,l5,k⟩:=h;refine⟨_,aq (cQ 0x17 0x1B 0x1A 0x3B rfl)
  (aq (cQ 0x17 0x1B 0x1A 0x1A rfl)
  (aq (cQ 0x17 0x1B 0x1A 0x1A rfl)
  (aq (cQ 0x17 0x1B 0x1A 0x52 rfl)
  (aq (oV 0x17 0x1B 0x1A 0x1A zj (fun _ _ _=>rfl))
  (aG (bM (j8 A0K A0R A0S dw 0x1B 0x82))))))),?_⟩
 refine⟨_,rfl,_,rfl,q.B,_,rfl,bk.kl,_,rfl,r,_,_,_,rfl,rfl,bN.of hx,aH (j:=3) x3,q.l,_,rfl,gK.k (k:=.inr n) bk.l 0x85,?_⟩;have b1:=bk.ul (l':=putK lo 0x15 (.str lord)) ap;have o1:dX q H (upd H q.l (.dK (putK lo 0x15 (.str lord)))):=dX.ul;have hx1:=fM bk o1 hx;generalize upd H q.l (.dK (putK lo 0x15 (.str lord)))=H1 at b1 o1 hx1 ⊢;refine⟨_,rfl,r,_,_,_,rfl,rfl,bN.of hx1,aH (j:=4) x4,_,rfl,q.B,_,rfl,b1.kh,_,rfl,r,_,_,_,rfl,rfl,bN.of hx1,aH (j:=3) x3,q.h,_,rfl,gK.k (k:=.inr n) b1.h 0x85,?_⟩;have b2:=b1.uh (l':=putK ho 0x15 (.str man)) ap;have o2:=o1.trans (dX.uh (H:=H1) (o:=.dK (putK ho 0x15 (.str man))));have hx2:=fM bk o2 hx;generalize upd H1 q.h (.dK (putK ho 0x15 (.str man)))=H2 at b2 o2 hx2 ⊢;refine⟨_,rfl,r,_,_,_,rfl,rfl,bN.of hx2,aH (j:=5) x5,_,rfl,q.B,_,rfl,b2.ko,_,rfl,r,_,_,_,rfl,rfl,bN.of hx2,aH (j:=3) x3,q.o,_,rfl,gK.k (k:=.inr n) b2.o 0x85,?_⟩;have b3:=b2.uo (l':=putK ow 0x15 (.int a)) ap;have o3:=o2.trans (dX.uo (H:=H2) (o:=.dK (putK ow 0x15 (.int a))));have hx3:=fM bk o3 hx;generalize upd H2 q.o (.dK (putK ow 0x15 (.int a)))=H3 at b3 o3 hx3 ⊢;refine⟨_,rfl,_,rfl,q.B,_,rfl,b3.kd,_,rfl,r,_,_,_,rfl,rfl,bN.of hx3,aH (j:=3) x3,q.d,_,rfl,gK.k (k:=.inr n) b3.d 0x85,?_⟩;have b4:=b3.ud (l':=putK du 0x15 (.ref due)) ap;have o4:=o3.trans (dX.ud (H:=H3) (o:=.dK (putK du 0x15 (.ref due))));have hx4:=fM bk o4 hx;generalize upd H3 q.d (.dK (putK du 0x15 (.ref due)))=H4 at b4 o4 hx4 ⊢;have hl3:=cB ow 0x15 (.int a);refine⟨_,rfl,q.B,_,rfl,b4.ko,_,rfl,r,_,_,_,rfl,rfl,bN.of hx4,aH (j:=2) x2,q.o,_,rfl,gR b4.o hown,_,rfl,r,_,_,_,rfl,rfl,bN.of hx4,aH (j:=5) x5,_,_,rfl,rfl,_,gK.k (k:=.inr e) b4.o 0x85,?_⟩;have b5:=b4.uo (l':=putK (putK ow 0x15 (.int a)) 0x18 (.int (own-a))) ap;have o5:=o4.trans (dX.uo (H:=H4) (o:=.dK (putK (putK ow 0x15 (.int a)) 0x18 (.int (own-a)))));have hx5:=fM bk o5 hx;generalize upd H4 q.o (.dK (putK (putK ow 0x15 (.int a)) 0x18 (.int (own-a))))=H5 at b5 o5 hx5 ⊢;refine⟨_,rfl,q.B,_,rfl,b5.kk,.inl ⟨rfl,_,bY.of b5.k⟩,_,rfl,r,_,_,_,rfl,rfl,bN.of hx5,aH (j:=3) x3,q.kn,_,_,rfl,rfl,b5.k,(by rw[cM];exact bO 0x4),?_⟩;have e1:ks.map V.str++[V.str n]=(ks++[n]).map V.str:=by rw[j9];rfl
 rw[e1];exact k _ (b5.uk ap) (o5.trans dX.uk)
def TQ:aP ["_law_book_here","_law_estate","_law_lord","_law_one"] A5e (aJ a1q):=0x0
def Ed(h:H a=none)(h2:H b=some o):a≠b:=fun q=>by rw[q,h2]at h;cases h
def isD(h:H a=some 0x16):IsD H a:=.inl ⟨kvs,.inl h⟩
def a3m(F:fj K "_law_fall" "_law_fall" a1q f fd)(G1:aL P w K mg base bL 1 g1 d1 A5e Kv)(M1:Ms K mg "_law_under" g1 d1 A5e):aL P w K mg base bL 2 f fd A5e a1r:=by
 refine F.ok TQ 0x1 0x3;obtain⟨q,es,ks,e0,p,rfl,ap,bk,W,he,hne,hp,hl,k⟩:=h;refine⟨_,aq (aV (i:=2) TQ.nd rfl 0x8 (qI 0x1B 0xF ⟨rfl,rfl,rfl,rfl⟩))
  (aq (oV 0x17 0x1B 0x3B (qI 0x1B 0xF ⟨rfl,rfl,rfl,rfl⟩) Qs (fun _ _ _=>rfl))
  (aq (bM (qI 0x1B 0xF ⟨rfl,rfl,rfl,rfl⟩))
  (aq (bM (qI 0x1B 0xF ⟨rfl,rfl,rfl,rfl⟩))
  (aG (gF A0Q rfl (fu (bG G1 hr rfl M1.m M1.k M1.b .nil bC (aj 0x32 0x2C))) (bB (i:=3) TQ.nd rfl 0x8) (aG (cQ 0x17 0x1B 0x52 0x3B rfl))))))),?_⟩
 obtain⟨p',hp',hpm,hpn⟩:=W.lord e0 he hne;obtain rfl:p=p':=by rw[hp]at hp';injection hp'
 obtain⟨y0,hy0,wX⟩:=dF hpm;have v1:=dg (f:=fun e=>lU e.lord) W.nd he;rw[hp]at v1;refine⟨_,rfl,q.B,_,rfl,bk.kl,q.l,rfl,isD bk.l,_,rfl,_,.inr e0.n,_,bk.l,rfl,v1,?_⟩;rw[mV];have b1:=fZ.ul (l':=kO 0x10) ap bk;have o1:dX q H (upd H q.l (.dK (kO 0x10))):=dX.ul;generalize upd H q.l (.dK (kO 0x10))=H1 at b1 o1 ⊢;have gp:=ZQ b1.o W.nd hy0;rw[wX]at gp;refine⟨_,rfl,q.B,_,rfl,b1.ko,_,rfl,q.o,_,rfl,gp,_,rfl,q.B,_,rfl,b1.ko,q.o,rfl,isD b1.o,_,rfl,_,.inr e0.n,_,b1.o,rfl,dg W.nd he,?_⟩;rw[mV];have b2:=b1.uo (l':=lV 0x10) ap;have o2:=o1.trans (dX.uo (H:=H1) (o:=.dK (lV 0x10)));generalize upd H1 q.o (.dK (lV 0x10))=H2 at b2 o2 ⊢;have fl:(0x10).length<=es.length:=A0N _ _;refine⟨_,_,rfl,rfl,_,gK.k (k:=.inr p) b2.o (by rw[jx];exact bO 0x4),?_⟩;rw[NZ W.nd hy0 wX hpn];have b3:=b2.uo (l':=lV 0x22) ap;have o3:=o2.trans (dX.uo (H:=H2) (o:=.dK (lV 0x22)));generalize upd H2 q.o (.dK (lV 0x22))=H3 at b3 o3 ⊢;refine⟨_,rfl,q.B,_,rfl,b3.kh,q.h,rfl,isD b3.h,_,rfl,_,.inr e0.n,_,b3.h,rfl,dg W.nd he,?_⟩;rw[mV];have b4:=b3.uh (l':=hoL 0x10) ap;have o4:=o3.trans (dX.uh (H:=H3) (o:=.dK (hoL 0x10)));generalize upd H3 q.h (.dK (hoL 0x10))=H4 at b4 o4 ⊢;refine⟨_,rfl,q.B,_,rfl,b4.kd,q.d,rfl,isD b4.d,_,rfl,_,.inr e0.n,_,b4.d,rfl,dg W.nd he,?_⟩;rw[mV];have b5:=b4.ud (l':=qO 0x10) ap;have o5:=o4.trans (dX.ud (H:=H4) (o:=.dK (qO 0x10)));generalize upd H4 q.d (.dK (qO 0x10))=H5 at b5 o5 ⊢;have nd1:(nms 0x10).Nodup:=(A4f.map _).nodup W.nd;generalize hes1:0x10=es1 at b5 nd1 fl
 let g2:aQ->aQ:=fun y=>{y with own:=if y.n=p then y.own+e0.own else y.own}
 have m1:kO 0x74=kO es1:=jw (g:=g2) fun _=>rfl;have m2:hoL 0x74=hoL es1:=jw (g:=g2) fun _=>rfl;have m3:lV 0x74=lV 0x22:=by
  unfold cO;rw[hes1]
  show kv _ 0x74=kv _ (es1.map _)
  rw[jw (g:=g2) 0xD,jw (g:=DX e0.n p e0.own) 0xD];rfl
 have m4:qO 0x74=qO es1:=jw (g:=g2) fun _=>rfl;have b6:Bk q H5 0x74 ks:=by
  show BQ q H5 (kO 0x74) (hoL 0x74) (lV 0x74) (qO 0x74) ks
  rw[m1,m2,m3,m4];exact b5
 have nd2:(nms 0x74).Nodup:=by
  have:nms 0x74=nms es1:=by
   show(0x74).map _=_
   rw[A0T];rfl
  rw[this];exact nd1
 refine⟨_,rfl,_,rfl,q,es1.map g2,ks,e0.n,rfl,ap,b6,nd2,by rw[cM];lia,fun r ss H6 s6 hr0 hr1 hpp hs=>?_⟩;have hpp1:ss.Perm ((es1.filter fun y=>decide (y.lord=some e0.n)).map (·.n)):=by
  rw[A3s,A0T]at hpp;exact hpp
 have hsl:ss.length<=es1.length:=by
  rw[hpp1.length_eq,cM];exact A0N _ _
 have b7:=b5.same s6;have o6:=o5.trans (dX.same (q:=q) s6);refine⟨r,rfl,⟨_,bY.of hr1⟩,gA (K:=K) (a:=r) (xs:=ss.map V.str) (fun i σ Hx=>(∃u3,σ=[some (.ref q.B),some (.str e0.n),some (.str p),u3])/\Hx r=some 0x35/\BQ q Hx (moved (kO es1) (ss.take i) p) (hoL es1) (lV 0x22) (qO es1) ks/\dX q H Hx/\r≠q.l)
  ⟨⟨none,rfl⟩,hr1,b7,o6,Ed hr0 b5.l⟩ (fun i σ Hx _ h=>bY.of h.2.1) ?_ ?_⟩
 ·rintro i v σ Hx hv ⟨⟨u3,rfl⟩,rx,bx,ox,nr⟩;rw[pF]at hv;obtain⟨n,hn,rfl⟩:=A0J.mp hv;have hml:=yw (kO es1) p (ss.take i);rw[A0H,jx]at hml;refine⟨_,rfl,_,rfl,q.B,_,rfl,bx.kl,_,rfl,q.l,_,rfl,gK.k (k:=.inr n) bx.l 0x85,?_⟩;have em:moved (kO es1) (ss.take (i+1)) p=putK (moved (kO es1) (ss.take i) p) 0x15 (.str p):=by rw[A1e,hn];exact vf _ _ _ _
  refine⟨⟨_,rfl⟩,by rw[ak nr];exact rx,?_,ox.trans dX.ul,nr⟩;rw[em];exact bx.ul ap
 ·rintro σ Hx ⟨⟨u3,rfl⟩,rx,bx,ox,nr⟩;rw[cM,A1f]at bx;subst hes1;rw[NT (a:=e0.own) W.nd hpp1]at bx;refine k Hx ?_ ox;have f1:hoL 0x22=hoL 0x10:=jw (g:=DX e0.n p e0.own) fun _=>rfl;have f2:qO 0x22=qO 0x10:=jw (g:=DX e0.n p e0.own) fun _=>rfl
  show BQ q Hx (kO 0x22) (hoL 0x22) (lV 0x22) (qO 0x22) ks
  rw[f1,f2];exact bx
inductive Rw
 |grant (e n m:Str) (a s:Int)
 |part (e n m:Str) (a:Int)
 |convey (e m:Str)
 |gq (e:Str)
def Rw.vs(dy:Int):Rw->List V
 | .grant e n m a s=>[.str "grant",.int dy,.str e,.str n,.str m,.int a,.int s]
 | .part e n m a=>[.str "part",.int dy,.str e,.str n,.str m,.int a]
 | .convey e m=>[.str "convey",.int dy,.str e,.str m]
 | .gq e=>[.str "surrender",.int dy,.str e]
def Rw.est:Rw->Str
 | .grant e _ _ _ _=>e
 | .part e _ _ _=>e
 | .convey e _=>e
 | .gq e=>e
def Rw.new:Rw->Option Str
 | .grant _ n _ _ _=>some n
 | .part _ n _ _=>some n
 |_=>none
def Rw.acr:Rw->Int
 | .grant _ _ _ a _=>a
 | .part _ _ _ a=>a
 |_=>0
def Rw.Tx:Rw->Prop
 | .grant e n m _ _=>PyData.strOk e=true/\PyData.strOk n=true/\PyData.strOk m=true
 | .part e n m _=>PyData.strOk e=true/\PyData.strOk n=true/\PyData.strOk m=true
 | .convey e m=>PyData.strOk e=true/\PyData.strOk m=true
 | .gq e=>PyData.strOk e=true
def Rw.Ok(ls:List Str):Rw->Prop
 | .grant _ n _ a s=>n∈ls/\1<=a/\a<=9999/\0<=s/\s<=9999
 | .part e n _ a=>n∈ls/\1<=a/\a<=9999/\e≠""
 | .convey e _=>e≠""
 | .gq e=>e≠""
def dR(es:List aQ)(ks:List Str)(y:aQ):Rw->Prop
 | .grant e n _ a _=>y∈es/\y.n=e/\n∉ks/\a<=y.own
 | .part e n _ a=>y∈es/\y.n=e/\n∉ks/\a<=y.own
 | .convey e _=>y∈es/\y.n=e
 | .gq e=>y∈es/\y.n=e
def pH(a:Int)(y:aQ):aQ:={y with own:=y.own-a}
def pI(a:Int)(t b:Addr)(y:aQ):aQ:={y with own:=y.own-a,br:=y.br-a,due:=oY (y.due.1*(y.br-a)) (y.due.2*y.br),ta:=t,tb:=b}
def nG(m:Str)(y:aQ):aQ:={y with man:=m}
def tH(e n m:Str)(a s:Int)(t b:Addr):aQ:=⟨n,some e,m,a,a,(s,1),t,b⟩
def tK(y:aQ)(n m:Str)(a:Int)(t b:Addr):aQ:=⟨n,y.lord,m,a,a,oY (y.due.1*a) (y.due.2*y.br),t,b⟩
def stp(y:aQ)(es:List aQ)(t1 t2 b1 b2:Addr):Rw->List aQ
 | .grant _ n m a s=>mod y.n (pH a) es++[tH y.n n m a s t1 b1]
 | .part _ n m a=>mod y.n (pI a t2 b2) es++[tK y n m a t1 b1]
 | .convey _ m=>mod y.n (nG m) es
 | .gq _=>cO y.n 0x7F y.own es
def stK(ks:List Str):Rw->List Str
 | .grant _ n _ _ _=>ks++[n]
 | .part _ n _ _=>ks++[n]
 |_=>ks
def jF{f:aQ->V}{es:List aQ}{y:aQ}{g:aQ->aQ}(hg:∀e,(g e).n=e.n)(nd:(0x68).Nodup)(hy:y∈es):kv f (mod y.n g es)=putK 0x53 0x50 (f (g y)):=by
 rw[Te hg,vC (A0e.mpr ⟨y,hy,rfl⟩)];refine gG fun e he=>?_
 split
 ·rename_i c
  rw[gC nd he hy c]
 ·rfl
def cX{f:aQ->V}{es:List aQ}{n:Str}{g:aQ->aQ}{x:aQ}(hg:∀e,(g e).n=e.n)(h:x.n∉nms es):kv f (mod n g es++[x])=putK (kv f (mod n g es)) (.inr x.n) (f x):=by
 rw[a1g,Aj (by rw[qQ hg];exact h)]
def vK{f:aQ->V}{es:List aQ}{e n:Str}{u:V}(he:e∈nms es)(hn:n∉nms es):putK (putK 0x53 0x15 v) 0x18 u=putK (putK 0x53 0x18 u) 0x15 v:=by
 have ne:n≠e:=fun z=>hn (z▸ he);rw[Aj hn,vC he,Aj hn];unfold putK;have ha:((kv f es++[(Sum.inr n,v)]).any fun x=>decide (x.1=Sum.inr e))=true:=by
  rw[List.any_append,T9,A0k he];rfl
 rw[A0i ha,j9,A0T]
 congr 1
 ·refine A1p fun y _=>?_
  show(if(Sum.inr y.n:Key)=.inr e then(Sum.inr y.n,u)else(Sum.inr y.n,f y))=(Sum.inr y.n,if y.n=e then u else f y)
  by_cases q:y.n=e
  ·rw[A0i (key_eq.mpr q),A0i q]
  ·rw[A0f (fun z=>q (key_eq.mp z)),A0f q]
 ·show[if(Sum.inr n:Key)=.inr e then(Sum.inr n,u)else(Sum.inr n,v)]=_
  rw[A0f fun z=>ne (key_eq.mp z)]
structure Pu(es:List aQ)(ks ls:List Str)(j:Nat)(wd:Int):Prop where
 W:WF es
 bd:∀e∈es,Bd (10+5*j) e.due
 kn:∀e∈es,e.n≠""->e.n∈ks
 ln:es.length<=1+j
 lk:ks.length<=j
 nl:∀e∈es,e.n=""\/e.n∈ls
 tot:(es.map (·.own)).sum=wd
structure Rel(C:Addr)(q:Ad)(H:Hp)(es:List aQ)(ks:List Str)(ls:List Str)(j:Nat):Prop where
 ap:Ap q
 L:Ln C q H es
 B:Bk q H es ks
 W:WF es
 fr:∀e∈es,je H e.ta e.due.1 e.due.2/\je H e.tb e.due.1 e.due.2/\Bd (10+5*j) e.due
 kn:∀e∈es,e.n≠""->e.n∈ks
 ln:es.length<=1+j
 lk:ks.length<=j
 nl:∀e∈es,e.n=""\/e.n∈ls
 tot:(es.map (·.own)).sum=q.wd
def Pu.new{es:List aQ}(r:Pu es ks ls j wd){n:Str}(h:n∉ks)(h0:n≠""):n∉nms es:=fun c=>by
 obtain⟨y,hy,rfl⟩:=dF c;exact h (r.kn y hy h0)
def a1t{es:List aQ}{cN:Rw}{y:aQ}(r:Pu es ks ls j wd)(hok:cN.Ok ls):∀e∈stp y es t1 t2 b1 b2 cN,e.n=""\/e.n∈ls:=by
 intro z hz;cases cN with
 | grant e n m a s=>
  rcases A0l.mp hz with c|c
  ·obtain⟨z0,h0,rfl⟩:=cI c;have e1:(if z0.n=y.n then pH a z0 else z0).n=z0.n:=by split<;>rfl
   rw[e1];exact r.nl z0 h0
  ·rw[A0b.mp c];exact .inr hok.1
 | part e n m a=>
  rcases A0l.mp hz with c|c
  ·obtain⟨z0,h0,rfl⟩:=cI c;have e1:(if z0.n=y.n then pI a t2 b2 z0 else z0).n=z0.n:=by split<;>rfl
   rw[e1];exact r.nl z0 h0
  ·rw[A0b.mp c];exact .inr hok.1
 | convey e m=>
  obtain⟨z0,h0,rfl⟩:=cI hz;have e1:(if z0.n=y.n then nG m z0 else z0).n=z0.n:=by split<;>rfl
  rw[e1];exact r.nl z0 h0
 | gq e=>
  obtain⟨z0,h0,rfl⟩:=A0e.mp hz;exact r.nl z0 (A0w.mp h0).1
def Al{es:List aQ}{y:aQ}{g:aQ->aQ}(nd:(0x68).Nodup)(hy:y∈es):((mod y.n g es).map (·.own)).sum=(es.map (·.own)).sum-y.own+(g y).own:=by
 unfold mod;rw[A0T,tY (F:=(·.own)) (e0:=y) nd hy fun z _ ne=>?_]
 ·show _-y.own+(if y.n=y.n then g y else y).own=_
  rw[A0i rfl]
 ·show(if z.n=y.n then g z else z).own=z.own
  rw[A0f ne]
def Y6{es:List aQ}{cN:Rw}{y:aQ}(W:WF es)(hst:dR es ks y cN)(hok:cN.Ok ls):((0x42).map (·.own)).sum=(es.map (·.own)).sum:=by
 cases cN with
 | grant e n m a s=>
  obtain⟨hy,rfl,_⟩:=hst
  show((mod y.n (pH a) es++[tH y.n n m a s t1 b1]).map (·.own)).sum=_
  rw[j9,A2W,Al W.nd hy]
  show _-y.own+(y.own-a)+(a+0)=_
  lia
 | part e n m a=>
  obtain⟨hy,rfl,_⟩:=hst
  show((mod y.n (pI a t2 b2) es++[tK y n m a t1 b1]).map (·.own)).sum=_
  rw[j9,A2W,Al W.nd hy]
  show _-y.own+(y.own-a)+(a+0)=_
  lia
 | convey e m=>
  obtain⟨hy,rfl⟩:=hst
  show((0x20).map (·.own)).sum=_
  rw[Al W.nd hy]
  show _-y.own+y.own=_
  lia
 | gq e=>
  obtain⟨hy,rfl⟩:=hst;obtain⟨p,hp,hpm,hpn⟩:=W.lord y hy hok;obtain⟨z,hz,Ht⟩:=dF hpm;have ep:y.lord.getD ""=p:=by rw[hp];rfl
  show((cO y.n 0x7F y.own es).map (·.own)).sum=_
  rw [ep];unfold cO;rw[A0T,vD (F:=(·.own)∘DX y.n p y.own) W.nd hy];have e1:(es.map ((·.own)∘DX y.n p y.own)).sum=(es.map (·.own)).sum-z.own+(z.own+y.own):=by
   rw[tY (F:=(·.own)) (e0:=z) W.nd hz fun u _ ne=>?_]
   ·show _-z.own+(if z.n=p then z.own+y.own else z.own)=_
    rw[A0i Ht]
   ·show(if u.n=p then u.own+y.own else u.own)=u.own
    rw[A0f (by rw[<-Ht];exact ne)]
  rw[e1]
  show _-(if y.n=p then y.own+y.own else y.own)=_
  rw[A0f (A0m hpn)];lia
def a1u{es:List aQ}{cN:Rw}{y:aQ}(r:Pu es ks ls j wd)(hst:dR es ks y cN)(hok:cN.Ok ls)(hls:∀n∈ls,n≠""/\PyData.strOk n=true):
  WF 0x42/\(∀e∈stp y es t1 t2 b1 b2 cN,e.n≠""->e.n∈stK ks cN)/\(0x42).length<=1+(j+1)/\(stK ks cN).length<=j+1:=by
 have lk:=r.lk;have ln:=r.ln;have ml:∀(n:Str)(g:aQ->aQ),(mod n g es).length=es.length:=fun n g=>cM _;cases cN with
 | grant e n m a s=>
  obtain⟨hy,rfl,hn,ha⟩:=hst;obtain⟨h1,h2,h3,h4,h5⟩:=hok;have hx:=r.new hn (hls n h1).1;refine⟨WF.new r.W hy (x:=tH y.n n m a s t1 b1) 0xD 0xD rfl 0x4 ha hx (hls n h1).2 rfl rfl 0x64,fun z hz hne=>?_,?_,?_⟩
  ·rcases A0l.mp hz with c|c
   ·obtain⟨z0,h0,rfl⟩:=cI c;refine A0W _ ?_;have e1:(if z0.n=y.n then pH a z0 else z0).n=z0.n:=by split<;>rfl
    rw[e1]at hne ⊢;exact r.kn z0 h0 hne
   ·rw[A0b.mp c];exact A0G _ (A0b.mpr rfl)
  ·show(mod y.n (pH a) es++[tH y.n n m a s t1 b1]).length<=_
   rw[iD,ml,A0t];lia
  ·show(ks++[n]).length<=_
   rw[iD,A0t];lia
 | part e n m a=>
  obtain⟨hy,rfl,hn,ha⟩:=hst;obtain⟨h1,h2,h3,h4⟩:=hok;have hx:=r.new hn (hls n h1).1;refine⟨WF.new r.W hy (x:=tK y n m a t1 b1) 0xD 0xD rfl 0x4 ha hx (hls n h1).2 rfl rfl (.inr ⟨rfl,h4,rfl⟩),fun z hz hne=>?_,?_,?_⟩
  ·rcases A0l.mp hz with c|c
   ·obtain⟨z0,h0,rfl⟩:=cI c;refine A0W _ ?_;have e1:(if z0.n=y.n then pI a t2 b2 z0 else z0).n=z0.n:=by split<;>rfl
    rw[e1]at hne ⊢;exact r.kn z0 h0 hne
   ·rw[A0b.mp c];exact A0G _ (A0b.mpr rfl)
  ·show(mod y.n (pI a t2 b2) es++[tK y n m a t1 b1]).length<=_
   rw[iD,ml,A0t];lia
  ·show(ks++[n]).length<=_
   rw[iD,A0t];lia
 | convey e m=>
  refine⟨WF.mod r.W 0xD 0xD 0xD fun _=>rfl,fun z hz hne=>?_,?_,?_⟩
  ·obtain⟨z0,h0,rfl⟩:=cI hz;have e1:(if z0.n=y.n then nG m z0 else z0).n=z0.n:=by split<;>rfl
   rw[e1]at hne ⊢;exact r.kn z0 h0 hne
  ·show(0x20).length<=_
   rw[ml];lia
  ·show ks.length<=_
   lia
 | gq e=>
  obtain⟨hy,rfl⟩:=hst;obtain⟨p,hp,_,_⟩:=r.W.lord y hy hok;have ep:y.lord.getD ""=p:=by rw[hp];rfl
  refine⟨?_,fun z hz hne=>?_,?_,?_⟩
  ·show WF (cO y.n 0x7F y.own es)
   rw[ep];exact WF.fall r.W hy hok hp
  ·obtain⟨z0,h0,rfl⟩:=A0e.mp hz;exact r.kn z0 (A0w.mp h0).1 hne
  ·show(cO y.n 0x7F y.own es).length<=_
   unfold cO;rw[cM];have:=A0N (fun x=>decide (x.n≠y.n)) es;lia
  ·show ks.length<=_
   lia
def wY(q:Ad)(H H':Hp):Prop:=∀c u,c≠q.a1->c≠q.a2->c≠q.a3->c≠q.a4->c≠q.a5->H c=some u->H' c=some u
def TX(y:aQ)(t1 t2:Addr)(H:Hp):Rw->Prop
 | .grant _ _ _ _ s=>je H t1 s 1
 | .part _ _ _ a=>je H t1 (oY (y.due.1*a) (y.due.2*y.br)).1 (oY (y.due.1*a) (y.due.2*y.br)).2/\je H t2 (oY (y.due.1*(y.br-a)) (y.due.2*y.br)).1 (oY (y.due.1*(y.br-a)) (y.due.2*y.br)).2
 | .convey _ _=>True
 | .gq _=>True
section
variable{es:List aQ}{cN:Rw}{y:aQ}
def Pu.up{k:Nat}(r:Pu es ks ls j wd)(h:j<=k):Pu es ks ls k wd:=
 ⟨r.W,fun e he=>(r.bd e he).mono 0x4,r.kn,by have:=r.ln;lia,by have:=r.lk;lia,r.nl,r.tot⟩
def Pu.step(R:Pu es ks ls j wd)(hst:dR es ks y cN)(hok:cN.Ok ls)(hls:∀n∈ls,n≠""/\PyData.strOk n=true):Pu 0x42 (stK ks cN) ls (j+1) wd:=by
 obtain⟨w1,w2,w3,w4⟩:=a1u (t1:=t1) (t2:=t2) (b1:=b1) (b2:=b2) R hst hok hls;refine⟨w1,?_,w2,w3,w4,a1t R hok,(Y6 R.W hst hok).trans R.tot⟩;have old:∀y0∈es,Bd (10+5*(j+1)) y0.due:=fun y0 h0=>(R.bd y0 h0).mono 0x4;cases cN with
 | grant e n m a s=>
  obtain⟨hy,rfl,hn,ha⟩:=hst;obtain⟨h1,h2,h3,h4,h5⟩:=hok;intro z hz;rcases A0l.mp hz with c|c
  ·obtain⟨y0,h0,rfl⟩:=cI c;have:=old y0 h0
   split
   ·exact this
   ·exact this
  ·rw [A0b.mp c]
   show Bd _ (s,1)
   have hp:10^5<=10^(10+5*(j+1)):=A2w 0x5 0x4;refine⟨A0q ?_ hp,by show(0:Int)<1;decide,A0q ?_ hp⟩
   ·show s.natAbs<10^5
    lia
   ·show(1:Int).natAbs<10^5
    decide
 | part e n m a=>
  obtain⟨hy,rfl,hn,ha⟩:=hst;obtain⟨h1,h2,h3,h4⟩:=hok;have bd:=R.bd y hy;have bb:=R.W.bnd y hy;have ob:=R.W.vH y hy;have hB0:0<y.due.2*y.br:=A2O bd.2.1 0x4;have e5:10+5*j+5=10+5*(j+1):=by lia
  have m2:=oF (f:=5) bd.2.2 (show y.br.natAbs<10^5 by lia)
  have m1:=oF (f:=5) bd.1 (show a.natAbs<10^5 by lia)
  have m3:=oF (f:=5) bd.1 (show(y.br-a).natAbs<10^5 by lia)
  rw[e5]at m1 m2 m3;intro z hz;rcases A0l.mp hz with c|c
  ·obtain⟨y0,h0,rfl⟩:=cI c
   split
   ·rename_i hc
    obtain rfl:=gC R.W.nd h0 hy hc;exact Hf hB0 m3 m2
   ·exact old y0 h0
  ·rw[A0b.mp c];exact Hf hB0 m1 m2
 | convey e m=>
  intro z hz;obtain⟨y0,h0,rfl⟩:=cI hz;have:=old y0 h0
  split
  ·exact this
  ·exact this
 | gq e=>
  intro z hz;obtain⟨y0,h0,rfl⟩:=A0e.mp hz;exact old y0 (A0w.mp h0).1
def jq(sel:aQ->Addr){u1 u2:Addr}(nd:(0x68).Nodup)(hst:dR es ks y cN)(old:∀e∈es,je H (sel e) e.due.1 e.due.2)(f:TX y u1 u2 H cN)
  (g1:∀a(z:aQ),sel (pH a z)=sel z)(g2:∀a z,sel (pI a t2 b2 z)=u2)(g3:∀m z,sel (nG m z)=sel z)(g4:∀e p a z,sel (DX e p a z)=sel z)(x1:∀e n m a s,sel (tH e n m a s t1 b1)=u1)(x2:∀z n m a,sel (tK z n m a t1 b1)=u1):
  ∀e∈stp y es t1 t2 b1 b2 cN,je H (sel e) e.due.1 e.due.2:=by
 cases cN with
 | grant e n m a s=>
  obtain⟨hy,rfl,hn,ha⟩:=hst;intro z hz;rcases A0l.mp hz with c|c
  ·obtain⟨y0,h0,rfl⟩:=cI c;have:=old y0 h0
   split
   ·rw[g1];exact this
   ·exact this
  ·rw[A0b.mp c,x1];exact f
 | part e n m a=>
  obtain⟨hy,rfl,hn,ha⟩:=hst;obtain⟨fa,fb⟩:=f;intro z hz;rcases A0l.mp hz with c|c
  ·obtain⟨y0,h0,rfl⟩:=cI c
   split
   ·rename_i hc
    obtain rfl:=gC nd h0 hy hc;rw[g2];exact fb
   ·exact old y0 h0
  ·rw[A0b.mp c,x2];exact fa
 | convey e m=>
  intro z hz;obtain⟨y0,h0,rfl⟩:=cI hz;have:=old y0 h0
  split
  ·rw[g3];exact this
  ·exact this
 | gq e=>
  intro z hz;obtain⟨y0,h0,rfl⟩:=A0e.mp hz;rw[g4];exact old y0 (A0w.mp h0).1
end
section
variable{q:Ad}{es:List aQ}{y:aQ}{Q:VK}{E:XK}
def KC(C:Addr)(q:Ad)(H:Hp)(es:List aQ)(y:aQ)(cN:Rw)(Q:VK):Prop:=∀t1 t2 H',(∀b1 b2,Ln C q H' 0x42)->TX y t1 t2 H' cN->wY q H H'->Q .non H'
def TY{e n m:Str}{a s:Int}(R:Pu es ks ls j wd)(L:Ln C q H es)(a5:Rz q.a1 q.a2 q.a3 q.a4 q.a5)(fr:∀e∈es,je H e.ta e.due.1 e.due.2)(hst:dR es ks y (.grant e n m a s))(hok:Rw.Ok ls (.grant e n m a s))(hls:∀n∈ls,n≠""/\PyData.strOk n=true)(hj:j<=60)(k:KC C q H es y (.grant e n m a s) Q):tW C [.ref q.x,.str e,.str n,.str m,.int a,.int s] H Q E:=by
 have W:=R.W;have ln:=R.ln;have kl:∀{f:aQ->V},(0x53).length<=800:=by intro f;rw[jx];lia
 obtain⟨hy,rfl,hn,ha⟩:=hst;obtain⟨h1,h2,h3,h4,h5⟩:=hok;have hnn:=R.new hn (hls n h1).1;refine⟨q.x,q.dx,q.a1,q.a2,q.a3,q.a4,q.a5,_,_,_,_,_,y.n,n,m,a,s,y.own,rfl,L,a5,dg W.nd hy,A0z kl 0x5,A0z kl 0x5,kl,A0z kl 0x5,A0z kl 0x5,fun t ht=>?_⟩;have nt:∀{b:Addr}{u:HO},H b=some u->t≠b:=fun hb z=>by rw[z,hb]at ht;cases ht
 refine k t 0 _ (fun c1 c2=>?_) ?_ ?_
 ·have e1:kO (stp y es t 0 c1 c2 0x51)=putK (kO es) 0x15 (.str y.n):=by
   show kv _ (mod y.n (pH a) es++[tH y.n n m a s t c1])=_
   rw[cX (g:=pH a) (x:=tH y.n n m a s t c1) 0xD hnn,eY (g:=pH a) 0xD 0xD];rfl
  have e2:hoL (stp y es t 0 c1 c2 0x51)=putK (hoL es) 0x15 (.str m):=by
   show kv _ (mod y.n (pH a) es++[tH y.n n m a s t c1])=_
   rw[cX (g:=pH a) (x:=tH y.n n m a s t c1) 0xD hnn,eY (g:=pH a) 0xD 0xD];rfl
  have e3:lV (stp y es t 0 c1 c2 0x51)=putK (putK (lV es) 0x50 (.int (y.own-a))) 0x15 (.int a):=by
   show kv _ (mod y.n (pH a) es++[tH y.n n m a s t c1])=_
   rw[cX (g:=pH a) (x:=tH y.n n m a s t c1) 0xD hnn,jF (g:=pH a) 0xD W.nd hy];rfl
  have e4:T8 (stp y es t 0 c1 c2 0x51)=putK (T8 es) 0x15 0x58:=by
   show kv _ (mod y.n (pH a) es++[tH y.n n m a s t c1])=_
   rw[cX (g:=pH a) (x:=tH y.n n m a s t c1) 0xD hnn,eY (g:=pH a) 0xD 0xD];rfl
  have e5:PB (stp y es t 0 c1 c2 0x51)=putK (PB es) 0x15 (.int a):=by
   show kv _ (mod y.n (pH a) es++[tH y.n n m a s t c1])=_
   rw[cX (g:=pH a) (x:=tH y.n n m a s t c1) 0xD hnn,eY (g:=pH a) 0xD 0xD];rfl
  show cA C _ q.x q.dx q.a1 q.a2 q.a3 q.a4 q.a5 _ _ _ _ _
  rw[e1,e2,e3,e4,e5];have x1:=aO L.o L.l1 0x6;have x2:=aO L.o L.l2 0x6;have x3:=aO L.o L.l3 0x6;have x4:=aO L.o L.l4 0x6;have x5:=aO L.o L.l5 0x6;unfold rK;refine⟨?_,?_,?_,?_,?_,ao⟩
  ·rw[ak x5,ak x4,ak x3,ak x2,ak x1,ak (A0m (nt L.o)),ak x3];exact L.o
  ·rw[ak a5.n15,ak a5.n14,ak a5.n13,ak a5.n12,ao]
  ·rw[ak a5.n25,ak a5.n24,ak a5.n23,ao]
  ·rw[ak a5.n35,ak a5.n34,ao]
  ·rw[ak a5.n45,ao]
 ·show rK _ _ _ _ _ _ _ _ _ _ _ _ _ _ _ _ t=some (.tup [.int s,.int 1])
  unfold rK;rw[ak (nt L.l5),ak (nt L.l4),ak (nt L.l3),ak (nt L.l2),ak (nt L.l1),ao]
 ·intro c u c1 c2 c3 c4 c5 hc;unfold rK;rw[ak c5,ak c4,ak c3,ak c2,ak c1,ak (A0m (nt hc)),ak c3];exact hc
def Y7{e n m:Str}{a:Int}(R:Pu es ks ls j wd)(L:Ln C q H es)(a5:Rz q.a1 q.a2 q.a3 q.a4 q.a5)(fr:∀e∈es,je H e.ta e.due.1 e.due.2)(hst:dR es ks y (.part e n m a))(hok:Rw.Ok ls (.part e n m a))(hls:∀n∈ls,n≠""/\PyData.strOk n=true)(hj:j<=60)(k:KC C q H es y (.part e n m a) Q):oZ C [.ref q.x,.str e,.str n,.str m,.int a] H Q E:=by
 have W:=R.W;have ln:=R.ln;have kl:∀{f:aQ->V},(0x53).length<=800:=by intro f;rw[jx];lia
 obtain⟨hy,rfl,hn,ha⟩:=hst;obtain⟨h1,h2,h3,h4⟩:=hok;have hnn:=R.new hn (hls n h1).1;obtain⟨p,hp,_,_⟩:=W.lord y hy h4;have hfr:=fr y hy;have hbd:=R.bd y hy;have hbb:=W.bnd y hy;have hob:=W.vH y hy;refine⟨q.x,q.dx,q.a1,q.a2,q.a3,q.a4,q.a5,_,_,_,_,_,y.n,n,m,p,y.ta,a,y.own,y.br,y.due,rfl,L,a5,(by rw[dg W.nd hy,hp];rfl),dg W.nd hy,dg W.nd hy,dg W.nd hy,hfr,hbd.mono 0x4,by lia,by lia,by lia,kl,kl,kl,kl,kl,fun g r' H' hg hr0 hgr L' f1 f2 out=>?_⟩;rw[Ny hbd.2.1 0x4]at f2;refine k g r' H' (fun c1 c2=>?_) ⟨f1,f2⟩ out;have e1:kO (stp y es g r' c1 c2 0x69)=putK (kO es) 0x15 (.str p):=by
  show kv _ (mod y.n (pI a r' c2) es++[tK y n m a g c1])=_
  rw[cX (g:=pI a r' c2) (x:=tK y n m a g c1) 0xD hnn,eY (g:=pI a r' c2) 0xD 0xD]
  show putK _ _ (lU y.lord)=_
  rw[hp];rfl
 have e2:hoL (stp y es g r' c1 c2 0x69)=putK (hoL es) 0x15 (.str m):=by
  show kv _ (mod y.n (pI a r' c2) es++[tK y n m a g c1])=_
  rw[cX (g:=pI a r' c2) (x:=tK y n m a g c1) 0xD hnn,eY (g:=pI a r' c2) 0xD 0xD];rfl
 have e3:lV (stp y es g r' c1 c2 0x69)=putK (putK (lV es) 0x50 (.int (y.own-a))) 0x15 (.int a):=by
  show kv _ (mod y.n (pI a r' c2) es++[tK y n m a g c1])=_
  rw[cX (g:=pI a r' c2) (x:=tK y n m a g c1) 0xD hnn,jF (g:=pI a r' c2) 0xD W.nd hy];rfl
 have e4:T8 (stp y es g r' c1 c2 0x69)=putK (putK (T8 es) 0x50 (.ref r')) 0x15 (.ref g):=by
  show kv _ (mod y.n (pI a r' c2) es++[tK y n m a g c1])=_
  rw[cX (g:=pI a r' c2) (x:=tK y n m a g c1) 0xD hnn,jF (g:=pI a r' c2) 0xD W.nd hy];rfl
 have e5:PB (stp y es g r' c1 c2 0x69)=putK (putK (PB es) 0x50 (.int (y.br-a))) 0x15 (.int a):=by
  show kv _ (mod y.n (pI a r' c2) es++[tK y n m a g c1])=_
  rw[cX (g:=pI a r' c2) (x:=tK y n m a g c1) 0xD hnn,jF (g:=pI a r' c2) 0xD W.nd hy];rfl
 show cA C H' q.x q.dx q.a1 q.a2 q.a3 q.a4 q.a5 _ _ _ _ _
 rw[e1,e2,e3,e4,e5];exact L'
def yL{e m:Str}(R:Pu es ks ls j wd)(L:Ln C q H es)(a5:Rz q.a1 q.a2 q.a3 q.a4 q.a5)(fr:∀e∈es,je H e.ta e.due.1 e.due.2)(hst:dR es ks y (.convey e m))(hok:Rw.Ok ls (.convey e m))(hls:∀n∈ls,n≠""/\PyData.strOk n=true)(hj:j<=60)(k:KC C q H es y (.convey e m) Q):oA C [.ref q.x,.str e,.str m] H Q E:=by
 have W:=R.W;have ln:=R.ln;have kl:∀{f:aQ->V},(0x53).length<=800:=by intro f;rw[jx];lia
 obtain⟨hy,rfl⟩:=hst;refine⟨q.x,q.dx,q.a1,q.a2,q.a3,q.a4,q.a5,_,_,_,_,_,y.n,m,rfl,L,A0z kl 0x5,?_⟩;refine k 0 0 _ (fun c1 c2=>?_) True.intro fun c u _ c2 _ _ _ hc=>by rw[ak c2];exact hc
 have e2:hoL 0x20=putK (hoL es) 0x50 (.str m):=jF (g:=nG m) 0xD W.nd hy
 show cA C _ q.x q.dx q.a1 q.a2 q.a3 q.a4 q.a5 (kO 0x20) (hoL 0x20) (lV 0x20) (T8 0x20) (PB 0x20)
 rw[e2];have e1:kO 0x20=kO es:=eY (g:=nG m) 0xD 0xD es;have e3:lV 0x20=lV es:=eY (g:=nG m) 0xD 0xD es;have e4:T8 0x20=T8 es:=eY (g:=nG m) 0xD 0xD es;have e5:PB 0x20=PB es:=eY (g:=nG m) 0xD 0xD es;rw[e1,e3,e4,e5];exact⟨by rw[ak (aO L.o L.l2 0x6)];exact L.o,by rw[ak a5.n12];exact L.l1,ao,by rw[ak (A0m a5.n23)];exact L.l3,by rw[ak (A0m a5.n24)];exact L.l4,by rw[ak (A0m a5.n25)];exact L.l5⟩
def KH{e:Str}(R:Pu es ks ls j wd)(L:Ln C q H es)(a5:Rz q.a1 q.a2 q.a3 q.a4 q.a5)(fr:∀e∈es,je H e.ta e.due.1 e.due.2)(hst:dR es ks y (.gq e))(hok:Rw.Ok ls (.gq e))(hls:∀n∈ls,n≠""/\PyData.strOk n=true)(hj:j<=60)(k:KC C q H es y (.gq e) Q):vm C [.ref q.x,.str e] H Q E:=by
 have W:=R.W;have ln:=R.ln;have kl:∀{f:aQ->V},(0x53).length<=800:=by intro f;rw[jx];lia
 obtain⟨hy,rfl⟩:=hst;obtain⟨p,hp,hpm,hpn⟩:=W.lord y hy hok;obtain⟨z,hz,Ht⟩:=dF hpm;have ep:y.lord.getD ""=p:=by rw[hp];rfl
 have vp:=dg (f:=fun e=>V.int e.own) W.nd hz;rw[Ht]at vp;refine⟨q.x,q.dx,q.a1,q.a2,q.a3,q.a4,q.a5,_,_,_,_,_,y.n,p,y.own,z.own,rfl,L,a5,(by rw[dg W.nd hy,hp];rfl),dg W.nd hy,vp,(by rw[dg W.nd hy];rfl),(by rw[dg W.nd hy];rfl),(by rw[dg W.nd hy];rfl),Tc,a2Y,(by rw[jx];lia),kl,fun ss H' hss _ L' out=>?_⟩;rw[NQ (a:=y.own) W.nd hss,Tr W.nd hz Ht,pZ (p:=p) (a:=y.own) (f:=fun e=>V.str e.man) 0xD,pZ (p:=p) (a:=y.own) (f:=fun e=>V.ref e.ta) 0xD,pZ (p:=p) (a:=y.own) (f:=fun e=>V.int e.br) 0xD]at L';refine k 0 0 H' (fun c1 c2=>?_) True.intro out
 show Ln C q H' (cO y.n 0x7F y.own es)
 rw[ep];exact L'
end
end M
namespace L2
open PySem PySem.Spec PyProof.Rows PySem.W
def wZ(H:Hp):List 0x2B->List (Key×PyData)->Prop:=Paired fun(p:Key×V)(q:Key×PyData)=>p.1=q.1/\cZ H p.2 q.2/\q.2.canLay0=true/\q.2.depth<=8
def atD(ds:List (Key×PyData))(k:Key):Option PyData:=(ds.find? fun q=>decide (q.1=k)).map (·.2)
def O2(bs:List (Key×PyData))(q:Key×PyData):Bool:=match atD bs q.1 with
 |none=>false
 |some d=>PyData.eqv q.2 d
def jf(as bs:List (Key×PyData)):Bool:=(as.length==bs.length)&&as.all (O2 bs)
theorem wZ.at{k:Key}:∀{kb:List 0x2B}{db:List (Key×PyData)},wZ H kb db->(bJ kb k=none/\atD db k=none)\/∃v d,bJ kb k=some v/\atD db k=some d/\cZ H v d/\d.canLay0=true/\d.depth<=8
 |_,_,.nil=>.inl ⟨rfl,rfl⟩
 | p::l1,q::l2,.cons h r=>by
  obtain⟨e,h1,h2,h3⟩:=h
  by_cases hk:p.1=k
  ·refine .inr ⟨p.2,q.2,?_,?_,h1,h2,h3⟩
   ·unfold bJ;rw[A1W (by simpa using hk)];rfl
   ·unfold atD;rw[A1W (by rw[<-e];simpa using hk)];rfl
  ·have e1:bJ (p::l1) k=bJ l1 k:=by unfold bJ;rw[A1X (by simpa using hk)]
   have e2:atD (q::l2) k=atD l2 k:=by unfold atD;rw[A1X (by rw[<-e];simpa using hk)]
   rw[e1,e2];exact wZ.at r
theorem KJ(I:Inv X pins σ H s)(hu:A.units+64<cLine){kb:List 0x2B}{vb:List (Key×Value)}{db:List (Key×PyData)}(rb:KV kb vb)(hb:wZ H kb db):
  ∀{ka:List 0x2B}{va:List (Key×Value)}{da:List (Key×PyData)},KV ka va->wZ H ka da->KeqHits A.in1 s vb va (da.all (O2 db))
 |_,_,_,.nil,h=>by cases h;exact .nil
 | _,_,_,.cons (a:=p) (b:=u) h r,h'=>by
  cases h' with
  | cons g g'=>
   rename_i q qs
   obtain⟨e,rv⟩:=h;obtain⟨e',h1,h2,h3⟩:=g;have rest:=KJ I hu rb hb r g';obtain⟨uk,uv⟩:=u;obtain⟨pk,pv⟩:=p;obtain⟨qk,qv⟩:=q;have e1:pk=uk:=e;have e2:pk=qk:=e';subst e1;subst e2;have rel:=KV.val rb pk;rw[A2j];rcases wZ.at (k:=pk) hb with⟨n1,n2⟩|⟨v,d,n1,n2,m1,m2,m3⟩
   ·have:O2 db (pk,qv)=false:=by unfold O2;rw[n2]
    rw[this,A3H];refine .miss ?_;rw[n1]at rel;exact jz.none_of rel
   ·have:O2 db (pk,qv)=PyData.eqv qv d:=by unfold O2;rw[n2]
    rw[this];rw[n1]at rel;obtain⟨y,hy,ry⟩:=jz.some_of rel;obtain⟨as,ra⟩:=cZ.reads I h1 rv;obtain⟨bs,rb'⟩:=cZ.reads I m1 ry;refine .hit hy (A4M _ _ _ _ _ _ _ _ ra rb' h2 m2 ?_) rest;have:A.in1.units=A.units+1:=rfl;lia
inductive rEqK(x y:V)(H:Hp)(Q:VK):Prop
 |mk(a b:Addr)(ka kb:List 0x21)(da db:List (Prod L2.Key PySem.PyData))(_:x=.ref a)(_:y=.ref b)(_:H a=some (.dK ka))(_:H b=some (.dK kb))(_:wZ H ka da)(_:wZ H kb db)(_:Q (.bl (jf da db)) H):rEqK x y H Q
def Am(hu:X.A.units+64<cLine):lK X (compareOp .Eq) rEqK:=by
 intro pins s σ H x y v u Q I rx ry h;obtain⟨a,b,ka,kb,da,db,rfl,rfl,ha,hb,ga,gb,q⟩:=h;cases rx;cases ry;obtain⟨_,n1,va,r1,d1⟩:=pK I.hok ha;obtain⟨_,n2,vb,r2,d2⟩:=pK I.hok hb;refine keq_eq n1 n2 d1 d2 0x4 (fun _=>KJ I hu r2 gb r1 ga) ⟨.bl _,H,I,?_,q⟩;have l1:va.length=da.length:=by rw[<-KV.length r1];exact A2Y ga
 have l2:vb.length=db.length:=by rw[<-KV.length r2];exact A2Y gb
 show Value.bool _=Value.bool _
 unfold jf;rw[l1,l2]
end L2
namespace M
open PySem L2 PyProof.Rows
def a3n:Option Str->PyData
 |none=>.none
 |some s=>.str s
abbrev kd(f:aQ->PyData)(es:List aQ):List (Key×PyData):=es.map fun e=>(Sum.inr e.n,f e)
abbrev loD(es:List aQ):=kd (fun e=>a3n e.lord) es
abbrev hoD(es:List aQ):=kd (fun e=>.str e.man) es
abbrev owD(es:List aQ):=kd (fun e=>.int e.own) es
abbrev seD(es:List aQ):=kd (fun e=>.tuple [.int e.due.1,.int e.due.2]) es
def KN(es es':List aQ):Bool:=jf (loD es) (loD es')&&(jf (hoD es) (hoD es')&&(jf (owD es) (owD es')&&jf (seD es) (seD es')))
def Ao(es:List aQ)(ks:List Str):Prop:=nms es=("":Str)::ks.filter fun(n:Str)=>decide (n∈nms es)
def O4{es:List aQ}{cN:Rw}{y:aQ}(o:Ao es ks)(R:Pu es ks ls j wd)(hst:dR es ks y cN)(hok:cN.Ok ls)(hls:∀n∈ls,n≠""/\PyData.strOk n=true):Ao 0x42 (stK ks cN):=by
 have new:∀(n:Str)(es2:List aQ)(x:aQ),nms es2=nms es->x.n=n->n∉ks->n≠""->Ao (es2++[x]) (ks++[n]):=fun n es2 x h2 hx hn h0=>by
  have hnn:n∉nms es:=R.new hn h0;unfold Ao at o ⊢;have e1:nms (es2++[x])=nms es++[n]:=by show List.map _ _=_;rw[j9];show nms es2++[x.n]=_;rw[h2,hx]
  rw [e1,A2T];have f1:(ks.filter fun m=>decide (m∈nms es++[n]))=ks.filter fun m=>decide (m∈nms es):=A2x fun m hm=>by
   have:m≠n:=fun z=>hn (z▸ hm);simp[this]
  have f2:([n].filter fun m=>decide (m∈nms es++[n]))=[n]:=by simp
  rw[f1,f2]
  conv=>lhs;rw[o]
  rfl
 have a1v:∀(g:aQ->aQ)(m:Str),(∀z,(g z).n=z.n)->nms (mod m g es)=nms es:=fun g m hg=>by
  show List.map _ (List.map _ es)=_
  rw[A0T];refine A1p fun z _=>?_
  show(if z.n=m then g z else z).n=z.n
  split
  ·exact hg z
  ·rfl
 cases cN with
 |grant e n m a s=>exact new n _ _ (a1v _ _ fun _=>rfl) rfl hst.2.2.1 (hls n hok.1).1
 |part e n m a=>exact new n _ _ (a1v _ _ fun _=>rfl) rfl hst.2.2.1 (hls n hok.1).1
 | convey e m=>
  have:nms (stp y es t1 t2 b1 b2 (.convey e m))=nms es:=a1v _ _ fun _=>rfl;unfold Ao at o ⊢;rw[this];exact o
 | gq e=>
  have e1:nms (stp y es t1 t2 b1 b2 (.gq e))=(0x68).filter fun n=>decide (n≠y.n):=by
   show List.map _ (List.map _ (List.filter _ es))=_
   rw[A0T]
   show List.map (fun z=>(DX y.n 0x7F y.own z).n) _=_
   show List.map (fun z:aQ=>z.n) _=_
   rw[A3s];rfl
  have hy:y.n≠"":=by have h2:=hst.2;rw[h2];exact hok
  unfold Ao at o ⊢;rw[e1]
  conv=>lhs;rw[o]
  rw[A1g (by simpa using A0m hy),List.filter_filter]
  congr 1
  refine A2x fun m _=>?_;rw[A1h,A0Y,A1l,A1l,A1l,A0w,A1l];exact And.comm
abbrev U0:Stmt:=inClass (top 17) 0
abbrev Hv:Stmt:=inClass (top 17) 1
abbrev a1w:Stmt:=inClass (top 17) 2
abbrev Aq:Stmt:=inClass (top 17) 3
abbrev HJ:Stmt:=inClass (top 17) 4
inductive Tk(hv:Str->Option Str)(gv:Str->Bool):List Str->Option Str->Option Str->Prop
 |none {m:List Str}:Tk hv gv m none none
 |met {m:List Str}{h:Str}:h∈m->Tk hv gv m (some h) none
 |alive {m:List Str}{h:Str}:¬h∈m->gv h=false->Tk hv gv m (some h) (some h)
 |step {m:List Str}{h:Str}{r:Option Str}:¬h∈m->gv h=true->Tk hv gv (m++[h]) (hv h) r->Tk hv gv m (some h) r
def Tk.det{gv:Str->Bool}:∀{m:List Str}{c r r':Option Str},Tk hv gv m c r->Tk hv gv m c r'->r=r':=by
 intro m c r r' h
 induction h with
 |none=>intro q;cases q;rfl
 | met h=>intro q;cases q with
  |met _=>rfl
  |alive n _=>exact absurd h n
  |step n _ _=>exact absurd h n
 | alive n g=>intro q;cases q with
  |met h=>exact absurd h n
  |alive _ _=>rfl
  |step _ g' _=>rw[g]at g';cases g'
 | step n g t ih=>intro q;cases q with
  |met h=>exact absurd h n
  |alive _ g'=>rw[g]at g';cases g'
  |step _ _ t'=>exact ih t'
def rP:Option Str->V
 |none=>.non
 |some z=>.str z
def HV(hs:List 0x2B)(hv:Str->Option Str):Prop:=∀m,bJ hs (.inr m)=(hv m).map V.str
def GV(gs:List 0x2B)(gv:Str->Bool):Prop:=∀m,(bJ gs (.inr m)).isSome=gv m
def KQ(h:HV hs hv)(m:Str):(bJ hs (.inr m)).getD .non=rP (hv m):=by
 rw[h m];cases hv m<;>rfl
theorem yM{α:Type}[DecidableEq α]:∀(l k:List α),l.Nodup->(∀x∈l,x∈k)->l.length<=k.length
 |[],_,_,_=>A1j _
 | x::l,k,hn,hs=>by
  have h1:=A0L.mp hn;have hx:=hs x A0o;have ih:=yM l (k.erase x) h1.2 fun y hy=>by
   have hne:y≠x:=fun e=>h1.1 (e▸ hy);exact(List.mem_erase_of_ne hne).mpr (hs y (jK _ hy))
  have hl:=List.length_erase_of_mem hx;have hp:0<k.length:=A3M hx;rw[wO];lia
def Y8{k:Key}(h:(bJ kvs k).isSome=true):k∈kvs.map (·.1):=by
 induction kvs with
 |nil=>cases h
 | cons p r ih=>
  by_cases e:p.1=k
  ·rw[<-e];exact A0o
  ·rw[eO e]at h;exact jK _ (ih h)
def few(h:HV hs hv){l:List Str}(hn:l.Nodup)(ha:∀x∈l,(hv x).isSome=true):l.length<=hs.length:=by
 have h1:=yM (l.map (Sum.inr:Str->Key)) (hs.map (·.1)) (by
  unfold List.Nodup;rw[List.pairwise_map];exact List.Pairwise.imp (fun hab e=>hab (by injection e)) hn) fun k hk=>by
  obtain⟨x,hx,rfl⟩:=A0e.mp hk;refine Y8 ?_;rw[h x];have:=ha x hx;cases e:hv x with
  |none=>rw[e]at this;cases this
  |some z=>rfl
 rw[cM,cM]at h1;exact h1
def vL{l:List Str}{h:Str}(hn:l.Nodup)(hh:¬h∈l):(l++[h]).Nodup:=by
 unfold List.Nodup at hn ⊢;rw[A2z];refine⟨hn,A3y _ _,fun a ha b hb e=>?_⟩;rw[A0b.mp hb]at e;exact hh (e▸ ha)
structure tL(K:PySem.W.Frag)(C:Addr):Prop where
 cl:Cls K C
 n1:dZ K C "heir_of"
 n2:dZ K C "gone"
abbrev F2(a b:Addr):List 0x81:=[("heir_of",.ref a),("gone",.ref b)]
structure pN(C:Addr)(H:Hp)(x dx a b:Addr)(hs gs:List 0x2B):Prop where
 o:H x=some (.ins C dx (F2 a b))
 h:H a=some (.dK hs)
 g:H b=some (.dK gs)
def pN.same{x:Addr}{gs:List 0x2B}(k:pN C H x dx a b hs gs)(s:Same H H'):pN C H' x dx a b hs gs:=⟨s _ _ k.o,s _ _ k.h,s _ _ k.g⟩
inductive HN(C:Addr)(vs:List V)(H:Hp)(Q:VK)(cH:XK):Prop
 |mk(x dx a b:Addr)(hs gs:List 0x21)(man heir:Str)(_:vs=[.ref x,.str man,.str heir])(_:pN C H x dx a b hs gs)(_:man≠"")(_:hs.length<=900)(_:Q .non (upd H a (.dK (putK hs (.inr man) (.str heir))))):HN C vs H Q cH
inductive U3(C:Addr)(vs:List V)(H:Hp)(Q:VK)(cH:XK):Prop
 |mk(x dx a b:Addr)(hs gs:List 0x21)(man:Str)(_:vs=[.ref x,.str man])(_:pN C H x dx a b hs gs)(_:man≠"")(_:gs.length<=900)(_:Q .non (upd H b (.dK (putK gs (.inr man) (.bl true))))):U3 C vs H Q cH
inductive q9(C:Addr)(vs:List V)(H:Hp)(Q:VK)(cH:XK):Prop
 |mk(x dx a b:Addr)(hs gs:List 0x21)(man:Str)(_:vs=[.ref x,.str man])(_:pN C H x dx a b hs gs)(_:Q (.bl (bJ gs (.inr man)).isSome) H):q9 C vs H Q cH
inductive Ar(C:Addr)(vs:List V)(H:Hp)(Q:VK)(cH:XK):Prop
 |mk(x dx a b:Addr)(hs gs:List 0x21)(hv:Str->Option Str)(gv:Str->Bool)(man:Str)(_:vs=[.ref x,.str man])(_:pN C H x dx a b hs gs)(_:HV hs hv)(_:GV gs gv)(_:hs.length<=900)(_:∀r H',Same H H'->Tk hv gv [man] (hv man) r->Q (rP r) H'):Ar C vs H Q cH
def a1x:aP ["self","man","heir"] ["self","man","heir"] (aJ Hv):=0x0
def Y9(T:tL K C){tc:Tok}(mC:mg "CROWN"=some (.str "" tc))(F:fj K "name_heir" "Kin.name_heir" Hv f fd):aL P w K mg base bL 1 f fd ["self","man","heir"] (HN C):=by
 refine F.ok a1x 0x1 0x3;obtain⟨x,dx,a,b,hs,gs,man,heir,rfl,kn,hm,hl,k⟩:=h;refine⟨_,aG (bK (aU nU 0xF 0x41 0x61) (aG (cQ 0x17 0xB 0xF 0x3B rfl)) aR),?_⟩;refine⟨_,rfl,rfl,_,rfl,?_⟩;have hd:(!decide (V.str man=V.str ""))=true:=by
  rw[A0p fun e=>hm (by injection e)];rfl
 rw[hd];refine cW ⟨_,rfl,_,rfl,x,C,dx,_,_,rfl,kn.o,T.cl,T.n1,rfl,_,rfl,a,_,rfl,gK.k (k:=.inr man) kn.h 0x85,k⟩
def a3o:aP A5h A5h (aJ a1w):=0x0
def a1y(T:tL K C){tc:Tok}(mC:mg "CROWN"=some (.str "" tc))(F:fj K "die" "Kin.die" a1w f fd):aL P w K mg base bL 1 f fd A5h (U3 C):=by
 refine F.ok a3o 0x1 0x3;obtain⟨x,dx,a,b,hs,gs,man,rfl,kn,hm,hl,k⟩:=h;refine⟨_,aG (bK (aU nU 0xF 0x41 0x61) (aG (cQ 0x17 0xB 0xF jX rfl)) aR),?_⟩;refine⟨_,rfl,rfl,_,rfl,?_⟩;have hd:(!decide (V.str man=V.str ""))=true:=by
  rw[A0p fun e=>hm (by injection e)];rfl
 rw[hd];refine cW ⟨_,rfl,x,C,dx,_,_,rfl,kn.o,T.cl,T.n2,rfl,_,rfl,b,_,rfl,gK.k (k:=.inr man) kn.g 0x85,k⟩
def a1z:aP A5h A5h (aJ Aq):=0x0
def Yb(T:tL K C)(F:fj K "is_dead" "Kin.is_dead" Aq f fd):aL P w K mg base bL 1 f fd A5h (q9 C):=by
 refine F.ok a1z 0x1 0x3;obtain⟨x,dx,a,b,hs,gs,man,rfl,kn,k⟩:=h;refine⟨_,aG (aZ (Q9 (uY 0x17 0xF 0xB) 0x12)),?_⟩;exact⟨_,rfl,_,rfl,x,C,dx,_,_,rfl,kn.o,T.cl,T.n2,rfl,b,_,rfl,dj.k (k:=.inr man) kn.g,k⟩
def u0:aP ["self","man","met","heir"] A5h (aJ HJ):=0x0
def U4(T:tL K C)(F:fj K "taker" "Kin.taker" HJ f fd)(G1:aL P w K mg base bL 1 g1 d1 A5h (q9 C))(m1:Meth K C "is_dead" g1)(b1:Binds K d1 A5h []):aL P w K mg base bL 2 f fd A5h (Ar C):=by
 refine fj.okC F u0 0x1 (fun cdv A outer s H vs Q E hcd hr h=>?_);obtain⟨x,dx,a,b,hs,gs,hv,gv,man,rfl,kn,hH,hG,hl,k⟩:=h;refine⟨_,aq (aV (i:=2) u0.nd rfl 0x8 (Xh (Rn hcd) 0xF))
  (aq (aV (i:=3) u0.nd rfl 0x8 (Dr 0x17 0xB 0xF ⟨rfl,rfl,rfl,rfl⟩))
  (aq (lH A0Q (PW.pt (lA (aU Wx 0x52 m7 0x61) (ji (aU Nj 0x52 0x3B 0x12))))
   (aq (bK (ig (dJ (bZ 0x32 T.cl m1 G1 hr b1 .nil bC 0x90))) (aG (aZ 0x52)) aR)
   (aq (bM (Xg 0x3B 0x52 ⟨rfl,rfl,rfl,rfl⟩))
   (aG (aV (i:=3) u0.nd rfl 0x8 (Dr 0x17 0xB 0x52 ⟨rfl,rfl,rfl,rfl⟩))))))
  (aG (aZ m7)))),?_⟩
 intro t ht;refine⟨_,rfl,man,rfl,ao,?_⟩;rw[Wu];have s1:Same H (upd H t (SetT P w t (fun k=>decide (k=man)) 1)):=aK ht _;have t1:(upd H t (SetT P w t (fun k=>decide (k=man)) 1)) t=some (SetT P w t (fun k=>decide (k∈[man])) 1):=by
  rw[ao];have:(fun k=>decide (k=man))=fun k:Str=>decide (k∈[man]):=by funext k;simp
  rw[this]
 refine⟨_,rfl,x,C,dx,_,_,rfl,s1 _ _ kn.o,T.cl,T.n1,rfl,a,rfl,.inl ⟨_,.inl (s1 _ _ kn.h)⟩,_,rfl,_,dj.k (k:=.inr man) (s1 _ _ kn.h),?_⟩;rw[KQ hH];refine⟨fun m σ Hx=>∃(l0:List Str)(y:Str),m=hs.length+1-l0.length/\σ=[some (.ref x),some (.str man),some 0x58,some (rP (hv y))]/\Same H Hx/\Hx t=some (SetT P w t (fun k=>decide (k∈l0++[y])) (l0.length+1))/\(l0++[y]).Nodup/\(∀z∈l0,(hv z).isSome=true)/\
   ∀r,Tk hv gv (l0++[y]) (hv y) r->Tk hv gv [man] (hv man) r,⟨_,[],man,rfl,rfl,s1,t1,by simp,(fun z hz=>nomatch hz),fun r h=>h⟩,?_⟩
 rintro m σ Hx ⟨l0,y,rfl,rfl,sx,tx,nd,ha,hk⟩;have knx:=kn.same sx;cases hy:hv y with
 | none=>
  refine⟨_,rfl,rfl,_,rfl,cg (cg ?_)⟩;exact k none Hx sx (hk none (by rw[hy];exact .none))
 | some h=>
  refine⟨_,rfl,rfl,_,rfl,cW ?_⟩;refine⟨_,rfl,_,rfl,h,t,_,_,rfl,rfl,tx,_,rfl,?_⟩
  by_cases hm:h∈l0++[y]
  ·rw[A0k hm];refine cg ?_;exact k none Hx sx (hk none (by rw[hy];exact .met hm))
  ·rw [A0p hm];refine cW ⟨fun σ' H'=>∃(FP:List Str)(y':Str),hs.length+1-FP.length<hs.length+1-l0.length/\σ'=[some (.ref x),some (.str man),some 0x58,some (rP (hv y'))]/\Same H H'/\H' t=some (SetT P w t (fun k=>decide (k∈FP++[y'])) (FP.length+1))/\(FP++[y']).Nodup/\(∀z∈FP,(hv z).isSome=true)/\
     ∀r,Tk hv gv (FP++[y']) (hv y') r->Tk hv gv [man] (hv man) r,fun σ' H' ⟨FP,y',q1,q⟩=>⟨_,q1,FP,y',rfl,q⟩,?_⟩
   refine⟨_,rfl,x,dx,_,rfl,knx.o,rfl,_,rfl,x,dx,a,b,hs,gs,h,rfl,knx,_,rfl,?_⟩;rw[hG h];have all1:∀z∈l0++[y],(hv z).isSome=true:=fun z hz=>by
    rcases A0l.mp hz with q|q
    ·exact ha z q
    ·rw[A0b.mp q,hy];rfl
   have hfew:=few hH nd all1;rw[iD,A0t]at hfew;cases hg:gv h with
   | false=>
    refine cW ⟨_,rfl,?_⟩;exact k (some h) Hx sx (hk (some h) (by rw[hy];exact .alive hm hg))
   | true=>
    refine cg ?_;refine⟨_,rfl,t,_,_,rfl,tx,_,rfl,h,rfl,tx,by lia,?_⟩;have nt:H t=none:=ht;have e1:(fun k=>(fun k=>decide (k∈l0++[y])) k||decide (k=h))=fun k:Str=>decide (k∈l0++[y]++[h]):=by
     funext k
     simp only[A0l,A0b]
     by_cases q1:k∈l0<;>by_cases q2:k=y<;>by_cases q3:k=h<;>simp[q1,q2,q3]
    rw[e1,A0f (by simpa using hm)];have s2:Same H (upd Hx t (SetT P w t (fun k=>decide (k∈l0++[y]++[h])) (l0.length+1+1))):=bU sx nt;have t2:(upd Hx t (SetT P w t (fun k=>decide (k∈l0++[y]++[h])) (l0.length+1+1))) t=some (SetT P w t (fun k=>decide (k∈l0++[y]++[h])) (l0.length+1+1)):=ao;refine⟨_,rfl,x,C,dx,_,_,rfl,s2 _ _ kn.o,T.cl,T.n1,rfl,a,rfl,.inl ⟨_,.inl (s2 _ _ kn.h)⟩,_,rfl,_,dj.k (k:=.inr h) (s2 _ _ kn.h),?_⟩;rw[KQ hH];refine⟨l0++[y],h,by rw[iD,A0t];lia,rfl,s2,by rw[iD,A0t];exact t2,vL nd hm,all1,fun r q=>hk r (by rw[hy];exact .step hm hg q)⟩
def Mn(es:List aQ):Prop:=∀e∈es,PyData.strOk e.man=true
def Mn.step{es:List aQ}{cN:Rw}{y:aQ}(h:Mn es)(hx:cN.Tx):Mn 0x42:=by
 cases cN with
 | grant e n m a s=>
  intro z hz;rcases A0l.mp hz with c|c
  ·obtain⟨y0,h0,rfl⟩:=cI c;have:=h y0 h0
   split<;>exact this
  ·rw[A0b.mp c];exact hx.2.2
 | part e n m a=>
  intro z hz;rcases A0l.mp hz with c|c
  ·obtain⟨y0,h0,rfl⟩:=cI c;have:=h y0 h0
   split<;>exact this
  ·rw[A0b.mp c];exact hx.2.2
 | convey e m=>
  intro z hz;obtain⟨y0,h0,rfl⟩:=cI hz;have:=h y0 h0
  split
  ·exact hx.2
  ·exact this
 | gq e=>
  intro z hz;obtain⟨y0,h0,rfl⟩:=A0e.mp hz;exact h y0 (A0w.mp h0).1
def CrB(es:List aQ)(n:Int):Prop:=∃c∈es,c.n=""/\c.br=n
def CrB.val{es:List aQ}{n:Int}(h:CrB es n)(nd:(0x68).Nodup):bJ (PB es) (.inr "")=some (.int n):=by
 obtain⟨c,hc,h1,h2⟩:=h;have:=dg (f:=fun e=>V.int e.br) nd hc;rw[h1,h2]at this;exact this
def CrB.step{es:List aQ}{n:Int}{cN:Rw}{y:aQ}(h:CrB es n)(hst:dR es ks y cN)(hok:cN.Ok ls):CrB 0x42 n:=by
 obtain⟨c,hc,h1,h2⟩:=h;have md:∀(g:aQ->aQ)(m:Str),(∀z,(g z).n=z.n)->(m=""->∀z,(g z).br=z.br)->∃c'∈mod m g es,c'.n=""/\c'.br=n:=fun g m g1 g2=>by
  refine⟨if c.n=m then g c else c,A0e.mpr ⟨c,hc,rfl⟩,?_⟩
  by_cases e:c.n=m
  ·rw[A0i e];exact⟨(g1 c).trans h1,(g2 (e▸ h1) c).trans h2⟩
  ·rw[A0f e];exact⟨h1,h2⟩
 have app:∀{l:List aQ}{x:aQ},(∃c'∈l,c'.n=""/\c'.br=n)->CrB (l++[x]) n:=fun⟨c',hm,q⟩=>⟨c',A0W _ hm,q⟩;cases cN with
 |grant e k m a s=>exact app (md _ _ 0xD fun _ _=>rfl)
 |part e k m a=>exact app (md _ _ 0xD fun z=>absurd (hst.2.1.symm.trans z) hok.2.2.2)
 |convey e m=>exact md _ _ 0xD fun _ _=>rfl
 |gq e=>exact⟨_,A0e.mpr ⟨c,A0w.mpr ⟨hc,A0k fun z=>hok (hst.2.symm.trans (z.symm.trans h1))⟩,rfl⟩,h1,h2⟩
def Rw.man:Rw->Option Str
 | .grant _ _ m _ _=>some m
 | .part _ _ m _=>some m
 | .convey _ m=>some m
 | .gq _=>none
inductive Ro
 |land (r:Rw)
 |heir (m h:Str)
 |liege (m l:Str)
 |death (m:Str)
def Ro.vs(dy:Int):Ro->List V
 | .land r=>r.vs dy
 | .heir m h=>[.str "heir",.int dy,.str m,.str h]
 | .liege m l=>[.str "liege",.int dy,.str m,.str l]
 | .death m=>[.str "death",.int dy,.str m]
def Ro.Tx:Ro->Prop
 | .land r=>r.Tx
 | .heir m h=>PyData.strOk m=true/\PyData.strOk h=true
 | .liege m l=>PyData.strOk m=true/\PyData.strOk l=true
 | .death m=>PyData.strOk m=true
def Ro.Ok(ls:List Str):Ro->Prop
 | .land r=>r.Ok ls
 | .heir m _=>m≠""
 | .liege m _=>m≠""
 | .death m=>m≠""
structure Wo where
 es:List aQ
 ks:List Str
 hs:List 0x2B
 dd:List (Str×Int)
 lg:List (Str×Int×Str)
def Wo.gone(W:Wo):List Str:=W.dd.map (·.1)
def ZS(hs:List 0x2B)(m:Str):Option Str:=match bJ hs (.inr m)with
 |some (.str z)=>some z
 |_=>none
def vM:Option Str->Str->Rw
 |none,n=>.gq n
 |some h,n=>.convey n h
inductive Fo(r:Option Str)(es:List aQ):List Str->List aQ->Prop
 |nil:Fo r es [] es
 |snoc {ss:List Str}{e1:List aQ}{y:aQ}:Fo r es ss e1->y∈e1->y.n≠""->Fo r es (ss++[y.n]) (stp y e1 0 0 0 0 (vM r y.n))
def vN(es:List aQ)(m:Str)(ss:List Str):Prop:=ss.Perm ((es.filter fun y=>decide (y.man=m)).map (·.n))/\sortedS ss=true
def Bound(es:List aQ)(m l:Str):Prop:=∃y∈es,y.man=m/\y.n≠""/\∃z∈es,y.lord=some z.n/\z.man=l
def dR.est{es:List aQ}{y:aQ}{cN:Rw}(h:dR es ks y cN):y∈es/\y.n=cN.est/\(∀n,cN.new=some n->n∉ks/\cN.acr<=y.own):=by
 cases cN with
 |grant e n m a s=>exact⟨h.1,h.2.1,fun z hz=>by injection hz with hz;subst hz;exact h.2.2⟩
 |part e n m a=>exact⟨h.1,h.2.1,fun z hz=>by injection hz with hz;subst hz;exact h.2.2⟩
 |convey e m=>exact⟨h.1,h.2,fun z hz=>nomatch hz⟩
 |gq e=>exact⟨h.1,h.2,fun z hz=>nomatch hz⟩
inductive Jo(W:Wo)(dy:Int):Ro->Str->Wo->Prop
 |no {r:Rw}:r.est∉nms W.es->Jo W dy (.land r) "nowhere" W
 |tk {r:Rw}{n:Str}:r.new=some n->r.est∈nms W.es->n∈W.ks->Jo W dy (.land r) "taken" W
 |de {r:Rw}{m:Str}:r.man=some m->r.est∈nms W.es->(∀n,r.new=some n->n∉W.ks)->m∈W.gone->Jo W dy (.land r) "dead" W
 |ac {r:Rw}{n:Str}{y:aQ}:r.new=some n->y∈W.es->y.n=r.est->n∉W.ks->(∀m,r.man=some m->m∉W.gone)->y.own<r.acr->Jo W dy (.land r) "acres" W
 |st {r:Rw}{y:aQ} (t1 t2 b1 b2:Addr):dR W.es W.ks y r->(∀m,r.man=some m->m∉W.gone)->Jo W dy (.land r) "stands" {W with es:=stp y W.es t1 t2 b1 b2 r,ks:=stK W.ks r}
 |hd {m h:Str}:m∈W.gone->Jo W dy (.heir m h) "dead" W
 |hr {m h:Str}:m∉W.gone->Jo W dy (.heir m h) "stands" {W with hs:=putK W.hs (.inr m) (.str h)}
 |ld {m l:Str}:m∈W.gone->Jo W dy (.liege m l) "dead" W
 |lb {m l:Str}:m∉W.gone->¬Bound W.es m l->Jo W dy (.liege m l) "nobond" W
 |lr {m l:Str}:m∉W.gone->Bound W.es m l->Jo W dy (.liege m l) "stands" {W with lg:=W.lg++[(m,dy,l)]}
 |dx {m:Str}:m∈W.gone->Jo W dy (.death m) "dead" W
 |di {m:Str}{r:Option Str}{ss:List Str}{es':List aQ}:m∉W.gone->Tk (ZS W.hs) (fun z=>decide (z∈W.gone++[m])) [m] (ZS W.hs m) r->vN W.es m ss->Fo r W.es ss es'->Jo W dy (.death m) "stands" {W with es:=es',dd:=W.dd++[(m,dy)]}
structure Eo(es:List aQ)(ks ls:List Str)(j:Nat)(wd:Int):Prop where
 P:Pu es ks ls j wd
 cr:∀e∈es,e.n=""->e.man=""
 M:Mn es
 O:Ao es ks
 B:CrB es wd
structure Wp(W:Wo)(ls:List Str)(j:Nat)(wd:Int):Prop where
 E:Eo W.es W.ks ls j wd
 hv:∀p∈W.hs,∃k z,p=(Sum.inr k,V.str z)/\PyData.strOk z=true
 hl:W.hs.length<=j
 dl:W.dd.length<=j
 nd:W.gone.Nodup
 gl:W.lg.length<=j
def Eo.up{es:List aQ}{k:Nat}(E:Eo es ks ls j wd)(h:j<=k):Eo es ks ls k wd:=⟨E.P.up h,E.cr,E.M,E.O,E.B⟩
def Yc{es:List aQ}{y:aQ}{cN:Rw}(c:∀e∈es,e.n=""->e.man="")(hst:dR es ks y cN)(hok:cN.Ok ls)(hls:∀n∈ls,n≠""/\PyData.strOk n=true):∀e∈stp y es t1 t2 b1 b2 cN,e.n=""->e.man="":=by
 intro z hz hn;cases cN with
 | grant e n m a s=>
  rcases A0l.mp hz with q|q
  ·obtain⟨y0,h0,rfl⟩:=cI q
   by_cases e1:y0.n=y.n
   ·rw[A0i e1]at hn ⊢;exact c y0 h0 hn
   ·rw[A0f e1]at hn ⊢;exact c y0 h0 hn
  ·rw[A0b.mp q]at hn;exact absurd hn (hls n hok.1).1
 | part e n m a=>
  rcases A0l.mp hz with q|q
  ·obtain⟨y0,h0,rfl⟩:=cI q
   by_cases e1:y0.n=y.n
   ·rw[A0i e1]at hn ⊢;exact c y0 h0 hn
   ·rw[A0f e1]at hn ⊢;exact c y0 h0 hn
  ·rw[A0b.mp q]at hn;exact absurd hn (hls n hok.1).1
 | convey e m=>
  obtain⟨y0,h0,rfl⟩:=cI hz
  by_cases e1:y0.n=y.n
  ·rw[A0i e1]at hn;exact absurd (show e="" by rw[<-hst.2,<-e1];exact hn) hok
  ·rw[A0f e1]at hn ⊢;exact c y0 h0 hn
 | gq e=>
  obtain⟨y0,h0,rfl⟩:=A0e.mp hz;exact c y0 (A0w.mp h0).1 hn
def Eo.step{es:List aQ}{y:aQ}{cN:Rw}(E:Eo es ks ls j wd)(hst:dR es ks y cN)(hok:cN.Ok ls)(tx:cN.Tx)(hls:∀n∈ls,n≠""/\PyData.strOk n=true):Eo 0x42 (stK ks cN) ls (j+1) wd:=
 ⟨E.P.step hst hok hls,Yc E.cr hst hok hls,E.M.step tx,O4 E.O E.P hst hok hls,E.B.step hst hok⟩
def Eo.die{es:List aQ}{y:aQ}(E:Eo es ks ls j wd)(hy:y∈es)(hn:y.n≠"")(tr:∀h,r=some h->PyData.strOk h=true)(hls:∀n∈ls,n≠""/\PyData.strOk n=true):Eo (stp y es 0 0 0 0 (vM r y.n)) ks ls j wd:=by
 have S:dR es ks y (vM r y.n):=by cases r<;>exact⟨hy,rfl⟩
 have O:(vM r y.n).Ok ls:=by cases r<;>exact hn
 have T:(vM r y.n).Tx:=by
  cases r with
  |none=>exact E.P.W.ok y hy
  |some h=>exact⟨E.P.W.ok y hy,tr h rfl⟩
 have E1:=E.step (t1:=0) (t2:=0) (b1:=0) (b2:=0) S O T hls;have ek:stK ks (vM r y.n)=ks:=by cases r<;>rfl
 rw[ek]at E1;refine⟨⟨E1.P.W,fun z hz=>?_,E1.P.kn,?_,E.P.lk,E1.P.nl,E1.P.tot⟩,E1.cr,E1.M,E1.O,E1.B⟩
 ·cases r with
  | none=>
   obtain⟨y0,h0,rfl⟩:=A0e.mp hz;exact E.P.bd y0 (A0w.mp h0).1
  | some h=>
   obtain⟨y0,h0,rfl⟩:=cI hz;have:=E.P.bd y0 h0
   split<;>exact this
 ·have:=E.P.ln;cases r with
  | none=>
   show(List.map _ (List.filter _ es)).length<=_
   rw[cM];exact A0z (A0N _ _) this
  | some h=>
   show(List.map _ es).length<=_
   rw[cM];exact this
def Fo.eo{es es':List aQ}(E:Eo es ks ls j wd)(tr:∀h,r=some h->PyData.strOk h=true)(hls:∀n∈ls,n≠""/\PyData.strOk n=true)(f:Fo r es ss es'):Eo es' ks ls j wd:=by
 induction f with
 |nil=>exact E
 |snoc _ hy hn ih=>exact ih.die hy hn tr hls
def oH{m z:Str}(h:∀p∈hs,∃k z,p=(Sum.inr k,V.str z)/\PyData.strOk z=true)(e:ZS hs m=some z):PyData.strOk z=true:=by
 unfold ZS bJ at e;cases q:hs.find? fun kv=>decide (kv.1=.inr m)with
 |none=>rw[q]at e;cases e
 | some p=>
  obtain⟨k,z',rfl,ok⟩:=h p (A3m q);rw[q]at e;injection e with e;rw[<-e];exact ok
def U5(h:∀p∈hs,∃k z,p=(Sum.inr k,V.str z)/\PyData.strOk z=true):HV hs (ZS hs):=fun m=>by
 unfold ZS bJ;cases q:hs.find? fun kv=>decide (kv.1=.inr m)with
 |none=>rfl
 | some p=>
  obtain⟨k,z',rfl,ok⟩:=h p (A3m q);rfl
def Tk.ok{gv:Str->Bool}{Pr:Str->Prop}(hp:∀m z,hv m=some z->Pr z){l:List Str}{c:Option Str}(t:Tk hv gv l c r):(∀z,c=some z->Pr z)->∀z,r=some z->Pr z:=by
 induction t with
 |none=>intro _ z e;cases e
 |met _=>intro _ z e;cases e
 |alive _ _=>intro h z e;exact h z e
 |step _ _ _ ih=>intro _;exact ih fun z e=>hp _ z e
def Yd{k:Key}{Pr:Key×V->Prop}(h:∀p∈hs,Pr p)(hv:Pr (k,v)):∀p∈putK hs k v,Pr p:=by
 intro p hp;unfold putK at hp
 split at hp
 ·obtain⟨p0,h0,rfl⟩:=A0e.mp hp
  by_cases c:p0.1=k
  ·rw[A0i c,c];exact hv
  ·rw[A0f c];exact h p0 h0
 ·rcases A0l.mp hp with q|q
  ·exact h p q
  ·rw[A0b.mp q];exact hv
def Jo.wp{W W':Wo}{ro:Ro}{w:Str}(J:Jo W dy ro w W')(R:Wp W ls j wd)(ok:ro.Ok ls)(tx:ro.Tx)(hls:∀n∈ls,n≠""/\PyData.strOk n=true):Wp W' ls (j+1) wd:=by
 have up:Wp W ls (j+1) wd:=⟨R.E.up 0x4,R.hv,by have:=R.hl;lia,by have:=R.dl;lia,R.nd,by have:=R.gl;lia⟩;cases J with
 |no _=>exact up
 |tk _ _ _=>exact up
 |de _ _ _ _=>exact up
 |ac _ _ _ _ _ _=>exact up
 |hd _=>exact up
 |ld _=>exact up
 |lb _ _=>exact up
 |lr _ _=>exact⟨up.E,R.hv,up.hl,up.dl,R.nd,by show(W.lg++[_]).length<=_;rw[iD];exact A2K R.gl⟩
 |dx _=>exact up
 |st t1 t2 b1 b2 hs hm=>exact⟨R.E.step hs ok tx hls,R.hv,up.hl,up.dl,R.nd,up.gl⟩
 |hr hm=>exact⟨up.E,Yd R.hv ⟨_,_,rfl,tx.2⟩,A0z (cB _ _ _) (A2K R.hl),up.dl,R.nd,up.gl⟩
 | di hm hk hh hf=>
  refine⟨(hf.eo R.E (fun h e=>Tk.ok (Pr:=fun z=>PyData.strOk z=true) (fun _ _=>oH R.hv) hk (fun z e=>oH R.hv e) h e) hls).up 0x4,R.hv,up.hl,?_,?_,up.gl⟩
  ·rw[iD];have:=R.dl;simp;lia
  ·show((W.dd++[_]).map _).Nodup
   rw[j9];exact vL R.nd hm
end M
namespace L2
open PySem
def pB:bootBuiltins "dict"=some (.type "dict"):=by decide+kernel
end L2
namespace M
open PySem L2 PyProof.Rows
inductive Av(C:Addr)(vs:List V)(H:Hp)(Q:VK)(cH:XK):Prop
 |mk(x dx a1 a2 a3 a4 a5:Addr)(lo ho ow se br:List 0x21)(y dy b1 b2 b3 b4 b5:Addr)(lo' ho' ow' se' br':List 0x21)(D1 D2 D3 D4 E1 E2 E3 E4:List (Prod L2.Key PySem.PyData))(_:vs=[.ref x,.ref y])(_:cA C H x dx a1 a2 a3 a4 a5 lo ho ow se br)(_:cA C H y dy b1 b2 b3 b4 b5 lo' ho' ow' se' br')(_:wZ H lo D1)(_:wZ H ho D2)(_:wZ H ow D3)(_:wZ H se D4)(_:wZ H lo' E1)(_:wZ H ho' E2)(_:wZ H ow' E3)(_:wZ H se' E4)(_:Q (.bl (jf D1 E1&&(jf D2 E2&&(jf D3 E3&&jf D4 E4)))) H):Av C vs H Q cH
inductive qR(C:Addr)(vs:List V)(H:Hp)(Q:VK)(cH:XK):Prop
 |mk(x dx a1 a2 a3 a4 a5:Addr)(lo ho ow se br:List 0x21)(n:Int)(_:vs=[.ref x])(_:cA C H x dx a1 a2 a3 a4 a5 lo ho ow se br)(_:bJ br (.inr "")=some (.int n))(_:1<=n)(_:n<=9999)(_:∀y dy b1 b2 b3 b4 b5 H',Same H H'->cA C H' y dy b1 b2 b3 b4 b5 lo ho ow se br->H y=none->H b1=none->H b2=none->H b3=none->H b4=none->H b5=none->Rz b1 b2 b3 b4 b5->Q (.ref y) H'):qR C vs H Q cH
def u64{k:Nat}(r:cG k A):A.units+64<cLine:=by have:=r.un;lia
def Ye:aP ["self","other"] ["self","other"] (aJ GC):=0x0
def U6(T:fK K C)(F:fj K "same" "Land.same" GC f fd):aL P w K mg base bL 1 f fd ["self","other"] (Av C):=by
 refine F.ok Ye 0x1 0x3;obtain⟨x,dx,a1,a2,a3,a4,a5,lo,ho,ow,se,br,y,dy,b1,b2,b3,b4,b5,lo',ho',ow',se',br',D1,D2,D3,D4,E1,E2,E3,E4,rfl,L,L',d1,d2,d3,d4,e1,e2,e3,e4,k⟩:=h;refine⟨_,aG (aZ (uJ (jA (Am (u64 hr)) 0xB (bf 0xF rfl) 0x61) (uJ (jA (Am (u64 hr)) 0xB (bf 0xF rfl) 0x61) (uJ (jA (Am (u64 hr)) 0xB (bf 0xF rfl) 0x61) (Qa (jA (Am (u64 hr)) 0xB (bf 0xF rfl) 0x61)))))),?_⟩;refine⟨_,rfl,x,C,dx,_,_,rfl,L.o,T.cl,T.n1,rfl,_,rfl,y,C,dy,_,_,rfl,L'.o,T.cl,T.n1,rfl,a1,b1,_,_,D1,E1,rfl,rfl,L.l1,L'.l1,d1,e1,_,rfl,?_⟩;cases h1:jf D1 E1 with
 |false=>rw[h1]at k;exact k
 | true=>
  rw[h1]at k;refine⟨_,rfl,x,C,dx,_,_,rfl,L.o,T.cl,T.n2,rfl,_,rfl,y,C,dy,_,_,rfl,L'.o,T.cl,T.n2,rfl,a2,b2,_,_,D2,E2,rfl,rfl,L.l2,L'.l2,d2,e2,_,rfl,?_⟩;cases h2:jf D2 E2 with
  |false=>rw[h2]at k;exact k
  | true=>
   rw[h2]at k;refine⟨_,rfl,x,C,dx,_,_,rfl,L.o,T.cl,T.n3,rfl,_,rfl,y,C,dy,_,_,rfl,L'.o,T.cl,T.n3,rfl,a3,b3,_,_,D3,E3,rfl,rfl,L.l3,L'.l3,d3,e3,_,rfl,?_⟩;cases h3:jf D3 E3 with
   |false=>rw[h3]at k;exact k
   | true=>
    rw[h3]at k;exact⟨_,rfl,x,C,dx,_,_,rfl,L.o,T.cl,T.n4,rfl,_,rfl,y,C,dy,_,_,rfl,L'.o,T.cl,T.n4,rfl,a4,b4,_,_,D4,E4,rfl,rfl,L.l4,L'.l4,d4,e4,k⟩
def KR:aP ["self","other"] A5z (aJ Rv):=0x0
def U7(T:fK K C)(F:fj K "twin" "Land.twin" Rv f fd)(mo:XD K w.params mg)(md:mg "dict"=none)(G1:aL P w K mg base bL 3 g1 d1 A5s (Af C))(MK1:Mk K C g1)(mR:mg "Land"=some 0x59)(b1:Binds K d1 A5s []):aL P w K mg base bL 5 f fd A5z (qR C):=by
 obtain⟨tc,mC⟩:=mo.crown;refine F.ok KR 0x1 0x3;obtain⟨x,dx,a1,a2,a3,a4,a5,lo,ho,ow,se,br,n,rfl,L,hb,n1,n2,k⟩:=h;have DK:cG 4 _:=hr.mono 0x5;refine⟨_,aq (aV (i:=1) KR.nd rfl 0x8 (zm (CX:=bL) (E:=E0) MK1 G1 DK rfl mR b1 .nil bC (aj (bA 0x17 0xB 0x41 0x2) aC)))
  (aq (eF 0xF (fV jR rfl md pB (aj 0xB aC)) rfl)
  (aq (eF 0xF (fV jR rfl md pB (aj 0xB aC)) rfl)
  (aq (eF 0xF (fV jR rfl md pB (aj 0xB aC)) rfl)
  (aq (eF 0xF (fV jR rfl md pB (aj 0xB aC)) rfl)
  (aq (eF 0xF (fV jR rfl md pB (aj 0xB aC)) rfl)
  (aG (aZ 0xF))))))),?_⟩
 refine⟨_,rfl,x,C,dx,_,_,rfl,L.o,T.cl,T.n5,rfl,a5,_,rfl,gR L.l5 hb,fun y dy hy0 hdy0 hne=>?_⟩;refine⟨y,dy,n,rfl,ao,n1,n2,fun c1 c2 c3 c4 c5 t0 H0 kx LA _ _ _ _ _ _ _ _=>⟨rfl,?_⟩⟩;have s0:Same H H0:=fun c o hc=>kx c o 0x83 (by
  rw[ak 0x83,ak (fun z=>by rw[z,hdy0]at hc;cases hc)];exact hc)
 clear kx;have y0:=LA.o;clear LA;refine⟨_,rfl,x,C,dx,_,_,rfl,(L.same s0).o,T.cl,T.n1,rfl,a1,_,rfl,(L.same s0).l1,fun p1 hp1=>?_⟩;have w1:y≠p1:=au y0 hp1;refine⟨_,rfl,y,C,dy,_,rfl,by rw[ak w1];exact y0,T.cl,T.n1,A0y rfl,?_⟩;have z1:H p1=none:=s0.free hp1;generalize hH:upd _ y _=H1;have y1:H1 y=some (.ins C dy (F5 p1 c2 c3 c4 c5)):=by rw[<-hH,ao];rfl
 have s1:Same H H1:=fun c o hc=>by rw[<-hH,ak 0x83,ak (fun z=>by rw[z,z1]at hc;cases hc)];exact s0 _ _ hc
 have e11:H1 p1=some (.dK lo):=by rw[<-hH,ak (A0m w1),ao]
 clear hH;refine⟨_,rfl,x,C,dx,_,_,rfl,(L.same s1).o,T.cl,T.n2,rfl,a2,_,rfl,(L.same s1).l2,fun p2 hp2=>?_⟩;have w2:y≠p2:=au y1 hp2;refine⟨_,rfl,y,C,dy,_,rfl,by rw[ak w2];exact y1,T.cl,T.n2,A0y rfl,?_⟩;have z2:H p2=none:=s1.free hp2;generalize hH:upd _ y _=H2;have y2:H2 y=some (.ins C dy (F5 p1 p2 c3 c4 c5)):=by rw[<-hH,ao];rfl
 have s2:Same H H2:=fun c o hc=>by rw[<-hH,ak 0x83,ak (fun z=>by rw[z,z2]at hc;cases hc)];exact s1 _ _ hc
 have e22:H2 p2=some (.dK ho):=by rw[<-hH,ak (A0m w2),ao]
 have n12:=au e11 hp2;have e12:H2 p1=some (.dK lo):=by rw[<-hH,ak (A0m w1),ak n12];exact e11
 clear hH;refine⟨_,rfl,x,C,dx,_,_,rfl,(L.same s2).o,T.cl,T.n3,rfl,a3,_,rfl,(L.same s2).l3,fun p3 hp3=>?_⟩;have w3:y≠p3:=au y2 hp3;refine⟨_,rfl,y,C,dy,_,rfl,by rw[ak w3];exact y2,T.cl,T.n3,A0y rfl,?_⟩;have z3:H p3=none:=s2.free hp3;generalize hH:upd _ y _=H3;have y3:H3 y=some (.ins C dy (F5 p1 p2 p3 c4 c5)):=by rw[<-hH,ao];rfl
 have s3:Same H H3:=fun c o hc=>by rw[<-hH,ak 0x83,ak (fun z=>by rw[z,z3]at hc;cases hc)];exact s2 _ _ hc
 have e33:H3 p3=some (.dK ow):=by rw[<-hH,ak (A0m w3),ao]
 have n13:=au e12 hp3;have e13:H3 p1=some (.dK lo):=by rw[<-hH,ak (A0m w1),ak n13];exact e12
 have n23:=au e22 hp3;have e23:H3 p2=some (.dK ho):=by rw[<-hH,ak (A0m w2),ak n23];exact e22
 clear hH;refine⟨_,rfl,x,C,dx,_,_,rfl,(L.same s3).o,T.cl,T.n4,rfl,a4,_,rfl,(L.same s3).l4,fun p4 hp4=>?_⟩;have w4:y≠p4:=au y3 hp4;refine⟨_,rfl,y,C,dy,_,rfl,by rw[ak w4];exact y3,T.cl,T.n4,A0y rfl,?_⟩;have z4:H p4=none:=s3.free hp4;generalize hH:upd _ y _=H4;have y4:H4 y=some (.ins C dy (F5 p1 p2 p3 p4 c5)):=by rw[<-hH,ao];rfl
 have s4:Same H H4:=fun c o hc=>by rw[<-hH,ak 0x83,ak (fun z=>by rw[z,z4]at hc;cases hc)];exact s3 _ _ hc
 have e44:H4 p4=some (.dK se):=by rw[<-hH,ak (A0m w4),ao]
 have n14:=au e13 hp4;have e14:H4 p1=some (.dK lo):=by rw[<-hH,ak (A0m w1),ak n14];exact e13
 have n24:=au e23 hp4;have e24:H4 p2=some (.dK ho):=by rw[<-hH,ak (A0m w2),ak n24];exact e23
 have n34:=au e33 hp4;have e34:H4 p3=some (.dK ow):=by rw[<-hH,ak (A0m w3),ak n34];exact e33
 clear hH;refine⟨_,rfl,x,C,dx,_,_,rfl,(L.same s4).o,T.cl,T.n5,rfl,a5,_,rfl,(L.same s4).l5,fun p5 hp5=>?_⟩;have w5:y≠p5:=au y4 hp5;refine⟨_,rfl,y,C,dy,_,rfl,by rw[ak w5];exact y4,T.cl,T.n5,A0y rfl,?_⟩;have z5:H p5=none:=s4.free hp5;generalize hH:upd _ y _=H5;have y5:H5 y=some (.ins C dy (F5 p1 p2 p3 p4 p5)):=by rw[<-hH,ao];rfl
 have s5:Same H H5:=fun c o hc=>by rw[<-hH,ak 0x83,ak (fun z=>by rw[z,z5]at hc;cases hc)];exact s4 _ _ hc
 have e55:H5 p5=some (.dK br):=by rw[<-hH,ak (A0m w5),ao]
 have n15:=au e14 hp5;have e15:H5 p1=some (.dK lo):=by rw[<-hH,ak (A0m w1),ak n15];exact e14
 have n25:=au e24 hp5;have e25:H5 p2=some (.dK ho):=by rw[<-hH,ak (A0m w2),ak n25];exact e24
 have n35:=au e34 hp5;have e35:H5 p3=some (.dK ow):=by rw[<-hH,ak (A0m w3),ak n35];exact e34
 have n45:=au e44 hp5;have e45:H5 p4=some (.dK se):=by rw[<-hH,ak (A0m w4),ak n45];exact e44
 clear hH;exact⟨_,rfl,k y dy p1 p2 p3 p4 p5 H5 s5 ⟨y5,e15,e25,e35,e45,e55⟩ hy0 z1 z2 z3 z4 z5 ⟨n12,n13,n14,n15,n23,n24,n25,n34,n35,n45⟩⟩
end M
namespace L2
open PySem PySem.Spec PyProof.Rows
inductive Ef(SP:Addr->Sp->Prop)(E:XK)(t:TA)(σ:L2.St)(Q:VK)(v:V)(H1:Hp):Prop
 |mk(f:Addr)(sp:Sp)(_:v=.ref f)(_:SP f sp)(_:t σ H1 fun vs H2=>sp vs H2 Q E):Ef SP E t σ Q v H1
def a1A(SP:Addr->Sp->Prop)(E:XK)(tn:TE)(t:TA):TE:=fun σ H Q=>tn σ H fun v H1=>Ef SP E t σ Q v H1
def Eh{E:XK}{SP:Addr->Sp->Prop}{x:Str}{p:Pos}{tn:TE}{t:TA}(hn:PE X (.Name x p) tn)
  (hS:∀f sp,SP f sp->∃(k:Nat)(fd:FuncData)(ps:List Str),aL X.prog X.w X.K X.mg X.base CX k f fd ps sp/\cG k X.A/\PySem.W.keepIn X.K 0x48=true/\Binds X.K fd ps [])(hx:Passes CX X E)
  (ha:PA X (e::es) t)(he:starEach (e::es) X.env=0x2D::starEach es X.env:=by rfl)(hpl:(0x70).any (·.1)=false:=by rfl):
  PE X (.Call (.Name x p) (e::es) [] pos) (a1A SP E tn t):=by
 intro pins s σ H Q I h;refine A1z (cP (hn pins s σ H _ I h) fun u s0 zq=>?_);obtain⟨v,H0,I0,r0,f,sp,ev,hsp,q0⟩:=zq;subst ev;cases r0;obtain⟨k,fd,ps,F,hr,hk,hb⟩:=hS f sp hsp;refine A2l (h₀:=X.base) I0.ok.mod.kin hk (cP (ha pos pins s0 σ H0 _ I0 q0) fun us s1 ⟨vs,H1,I1,r,q⟩=>⟨I1.lZ,?_⟩) he hpl;refine uO F hr hb .nil hx I1 r ?_;rw[A1t];exact q
inductive Ei(ty tx:TE)(σ:L2.St)(Q:VK)(x:V)(H1:Hp):Prop
 |mk(a:Addr)(_:x=.ref a)(_:IsD H1 a)(_:ty σ H1 fun y H2=>tx σ H2 fun z H3=>∃kvs k,H3 a=some 0x16/\y=kV k/\kvs.length<sizeLine/\(∀v,bJ kvs k=some v->Q v H3)/\(bJ kvs k=none->Q z (upd H3 a (.dK (putK kvs k z))))):Ei ty tx σ Q x H1
def a1B(td ty tx:TE):TE:=fun σ H Q=>td σ H fun x H1=>Ei ty tx σ Q x H1
section
variable{k:Key}
def U8{z:V}{r:Value}(I:Inv X pins σ H s)(e:H a=some 0x16)(ry:RelV (kV k) u)(rz:RelV z r)(lt:kvs.length<sizeLine)
  (h1:∀v w' s',bJ kvs k=some v->Inv X pins σ H s'->RelV v w'->Q w' s')(h2:∀s',bJ kvs k=none->Inv X pins σ (upd H a (.dK (putK kvs k z))) s'->Q r s'):
  wpAny 0x9 A (call (.builtin "dict.setdefault") [.ref a,u,r]) Q E s:=by
 obtain⟨zz,hd,vs,rel,dd⟩:=pK I.hok e;refine A2R A4c dd.typeIs PySem.F.entry_dict_setdefault (PySem.F.args_dict_setdefault_3 _ _ _) (kt_meets_setdefault 0x56 a (oh ry) hd r)
  ⟨vs,dd,by rw[<-rel.length];exact zz,fun w' hw=>?_,fun hn h' sV hs=>?_⟩
 ·have:=rel.val k;rw[hw]at this;cases l:bJ kvs k with
  |none=>rw[l]at this;exact False.elim this
  |some v=>rw[l]at this;exact h1 v w' _ l (I.tok _) this
 ·have:=rel.val k;rw[hn]at this;have l:bJ kvs k=none:=by
   cases l:bJ kvs k with
   |none=>rfl
   |some v=>rw[l]at this;exact False.elim this
  refine h2 _ l ?_;have he:∃q,h'.get? a=some q:=let⟨q,_,_,hq,_⟩:=sV;⟨q,hq⟩
  have hl:(putK kvs k z).length<=sizeLine:=by have:=cB kvs k z;lia
  exact jE I 0x5B hs he (uX hl hd (rel.put k rz) sV)
end
section
variable{o f:Expr}{ty tx:TE}
def Ej(ho:PE X o td)(he:PE X e ty)(hf:PE X f tx)(m:M2 X o "setdefault" apos e f cpos):PE X (.Call (.Attribute o "setdefault" apos) [e,f] [] cpos) (a1B td ty tx):=by
 intro pins s σ H Q I h;refine A3d m.base m.few m.line A2f A4c PySem.F.type_dict_setdefault (cP 0x71 fun u s1 zq=>?_);obtain⟨x,H1,I1,rx,a,ex,d,q1⟩:=zq;subst ex;obtain rfl:u=Value.ref a:=rx;obtain⟨t1,t2,_⟩:=zP I1 d;refine⟨t1,t2,?_⟩;rw[m.trees];refine A1K rfl (A1S (A1Q (cP (he pins s1 σ H1 _ I1 q1) fun iv s2 ⟨y,H2,I2,ry,q2⟩=>
  A1Q (cP (hf pins s2 σ H2 _ I2 q2) fun fv s3 ⟨z,H3,I3,rz,kvs,k,ea,ey,lt,q3,q4⟩=>A2t ?_))))
 subst ey;exact U8 I3 ea ry rz lt (fun v w' s4 l I4 cN=>⟨v,H3,I4,cN,q3 v l⟩) fun s4 l I4=>⟨z,_,I4,rz,q4 l⟩
end
end L2
namespace M
open PySem L2 PyProof.Rows
abbrev Aw:Stmt:=inClass (top 27) 0
abbrev vO:Stmt:=top 28
abbrev sWN:Stmt:=top 29
abbrev sWL:Stmt:=top 32
abbrev sWC:Stmt:=top 30
abbrev sWS:Stmt:=top 31
abbrev sDP:Stmt:=top 37
abbrev sDC:Stmt:=top 38
abbrev sDS:Stmt:=top 40
abbrev a1C:Stmt:=top 33
abbrev a1D:Stmt:=top 34
abbrev a1E:Stmt:=top 39
abbrev sDH:Stmt:=top 35
abbrev sDG:Stmt:=top 36
abbrev sDD:Stmt:=top 41
structure gP(K:PySem.W.Frag)(CR:Addr):Prop where
 cl:Cls K CR
 n1:dZ K CR "ground"
 n2:dZ K CR "kin"
 n3:dZ K CR "used"
 n4:dZ K CR "lieges"
 n5:dZ K CR "deaths"
abbrev FRm(g k u li de:Addr):List 0x81:=[("ground",.ref g),("kin",.ref k),("used",.ref u),("lieges",.ref li),("deaths",.ref de)]
def xg{α:Type}(g:α->Str)(f:α->V)(l:List α):List 0x2B:=l.map fun a=>(Sum.inr (g a),f a)
def HS{α:Type}{g:α->Str}{f:α->V}{n:Str}(l:List α):(bJ (xg g f l) 0x15).isSome=decide (n∈l.map g):=by
 unfold xg bJ
 induction l with
 |nil=>rfl
 | cons a r ih=>
  rw[A0h]
  by_cases h:g a=n
  ·rw[A1W (by simp[h]),<-h];simp
  ·rw[A1X (by simp;exact h),ih];simp[A0m h]
def qT{α:Type}{g:α->Str}{f:α->V}{a:α}{l:List α}(h:g a∉l.map g):putK (xg g f l) (.inr (g a)) (f a)=xg g f (l++[a]):=by
 have hf:(xg g f l).any (fun kv=>decide (kv.1=(Sum.inr (g a):Key)))=false:=by
  rw[A3I];intro kv hkv;obtain⟨b,hb,rfl⟩:=A0e.mp hkv;simp only[A1Y];exact fun z=>h (by injection z with z;rw[<-z];exact A0e.mpr ⟨b,hb,rfl⟩)
 unfold putK;rw[A0f (by rw[hf];exact A0r)];unfold xg;rw[j9];rfl
def qU{α:Type}{g:α->Str}{f:α->V}(l:List α):(xg g f l).length=l.length:=cM ..
abbrev Wr(ks:List Str):=xg id (fun _=>V.bl true) ks
abbrev U9(dd:List (Str×Int)):=xg (·.1) (fun _=>V.bl true) dd
abbrev Yg(dd:List (Str×Int)):=xg (·.1) (fun p=>V.int p.2) dd
def PJ(lg:List (Str×Int×Str)):List 0x2B:=lg.foldl (fun d e=>putK d (.inr e.1) (.str e.2.2)) []
def Ek(lg:List (Str×Int×Str))(e:Str×Int×Str):PJ (lg++[e])=putK (PJ lg) (.inr e.1) (.str e.2.2):=by
 unfold PJ;rw[List.foldl_append];rfl
def a3p{α:Type}{p:List α->Prop}(h0:p [])(hs:∀l x,p l->p (l++[x]))(l:List α):p l:=by
 have:∀r:List α,p r.reverse:=fun r=>by
  induction r with
  |nil=>exact h0
  |cons x r ih=>rw[List.reverse_cons];exact hs _ _ ih
 have:=this l.reverse
 rwa [List.reverse_reverse]at this
def Yh(lg:List (Str×Int×Str)):(PJ lg).length<=lg.length:=by
 refine a3p (p:=fun lg=>(PJ lg).length<=lg.length) 0x33 (fun l x ih=>?_) lg;rw[Ek,iD];exact A0z (cB _ _ _) (A2K ih)
structure Rm where
 z:Addr
 dz:Addr
 k:Addr
 dk:Addr
 hh:Addr
 gg:Addr
 u:Addr
 li:Addr
 de:Addr
def Ua{α:Type}{g:α->Str}{f:α->V}{n:Str}{l:List α}(h:bJ (xg g f l) 0x15=some v):∃a∈l,g a=n/\f a=v:=by
 unfold xg bJ at h;obtain⟨p,hp,rfl⟩:=A0J.mp h;obtain⟨a,ha,rfl⟩:=A0e.mp (A3m hp);have:=List.find?_some hp;simp only[A1Y]at this;injection this with this;exact⟨a,ha,this,rfl⟩
structure a1F(H:Hp)(li:Addr)(lg:List (Str×Int×Str))(gs:List (Str×Addr)):Prop where
 d:H li=some (.dK (xg (·.1) (fun p=>V.ref p.2) gs))
 nm:(gs.map (·.1)).Nodup
 na:(gs.map (·.2)).Nodup
 lt:∀p∈gs,∃ts:List Addr,H p.2=some (.lst (ts.map V.ref))/\Paired (fun t(e:Str×Int×Str)=>H t=some (.tup [.int e.2.1,.str e.2.2])) ts (lg.filter fun e=>decide (e.1=p.1))
 all:∀e∈lg,e.1∈gs.map (·.1)
 ln:gs.length<=lg.length
inductive FQ(H:Hp)(li:Addr)(lg:List (Str×Int×Str)):Prop
 |mk(gs:List (Prod Str Addr))(_:a1F H li lg gs):FQ H li lg
inductive NL(H:Hp)(li c:Addr):Prop
 |mk(kvs:List 0x21)(_:H li=some 0x16)(_:∀k,(k,V.ref c)∉kvs):NL H li c
def FQ.ZV{x:Addr}(a:FQ H li lg)(n:NL H li x)(h0:∀kvs,H li=some 0x16->H' li=some 0x16)(hl:∀c xs,c≠x->H c=some 0x4D->H' c=some 0x4D)(ht:∀c xs,H c=some 0x23->H' c=some 0x23):FQ H' li lg:=by
 obtain⟨gs,G⟩:=a;obtain⟨kvs,n1,n2⟩:=n;rw[G.d]at n1;injection n1 with n1;injection n1 with n1;exact⟨gs,h0 _ G.d,G.nm,G.na,fun p hp=>by obtain⟨ts,h1,h2⟩:=G.lt p hp;exact⟨ts,hl _ _ (fun z=>n2 (.inr p.1) (by rw[<-n1,<-z];exact A0e.mpr ⟨p,hp,rfl⟩)) h1,Paired.imp' (fun t e h=>ht _ _ h) h2⟩,G.all,G.ln⟩
def FQ.keep(a:FQ H li lg)(h0:∀u,H li=some u->H' li=some u)(hl:∀c xs,H c=some 0x4D->H' c=some 0x4D)(ht:∀c xs,H c=some 0x23->H' c=some 0x23):FQ H' li lg:=by
 obtain⟨gs,G⟩:=a;exact⟨gs,h0 _ G.d,G.nm,G.na,fun p hp=>by obtain⟨ts,h1,h2⟩:=G.lt p hp;exact⟨ts,hl _ _ h1,Paired.imp' (fun t e h=>ht _ _ h) h2⟩,G.all,G.ln⟩
def FQ.same(a:FQ H li lg)(s:Same H H'):FQ H' li lg:=a.keep (fun u h=>s _ _ h) (fun c xs h=>s _ _ h) fun c xs h=>s _ _ h
def FQ.dput{kv0:List 0x2B}(a:FQ H li lg)(hc:H c=some (.dK kv0))(ne:li≠c):FQ (upd H c o) li lg:=
 a.keep (fun u h=>by rw[ak ne];exact h) (fun b xs h=>by rw[ak (aO h hc 0x6)];exact h) fun b xs h=>by rw[ak (aO h hc 0x6)];exact h
def NL.same(n:NL H li c)(s:Same H H'):NL H' li c:=by
 obtain⟨kvs,h1,h2⟩:=n;exact⟨kvs,s _ _ h1,h2⟩
def NL.mv(n:NL H li c)(h:∀kvs,H li=some 0x16->H' li=some 0x16):NL H' li c:=by
 obtain⟨kvs,h1,h2⟩:=n;exact⟨kvs,h _ h1,h2⟩
def NL.Yi(n:NL H li c)(h:H a=some 0x4D):NL (upd H a o) li c:=n.mv fun kvs h1=>by rw[ak (aO h1 h 0x6)];exact h1
structure cR(CR CK C:Addr)(H:Hp)(m:Rm)(q:Ad)(W:Wo):Prop where
 o:H m.z=some (.ins CR m.dz (FRm q.x m.k m.u m.li m.de))
 K:pN CK H m.k m.dk m.hh m.gg W.hs (U9 W.dd)
 U:H m.u=some (.dK (Wr W.ks))
 D:H m.de=some (.dK (Yg W.dd))
 G:FQ H m.li W.lg
 L:Ln C q H W.es
def cR.same{CR:Addr}{m:Rm}{q:Ad}{W:Wo}(a:cR CR CK C H m q W)(s:Same H H'):cR CR CK C H' m q W:=⟨s _ _ a.o,a.K.same s,s _ _ a.U,s _ _ a.D,a.G.same s,a.L.same s⟩
def cR.dead{CR:Addr}{m:Rm}{q:Ad}{W:Wo}(a:cR CR CK C H m q W)(z:Str):(bJ (U9 W.dd) (.inr z)).isSome=decide (z∈W.gone):=HS _
def St(W:Wo):Ro->Prop
 | .land r=>∃y,dR W.es W.ks y r/\∀m,r.man=some m->m∉W.gone
 | .heir m _=>m∉W.gone
 | .liege m l=>m∉W.gone/\Bound W.es m l
 | .death m=>m∉W.gone
def Wd2(W:Wo)(dy:Int)(ro:Ro)(w:Str):Prop:=(w≠"stands"/\Jo W dy ro w W)\/(w="stands"/\St W ro)
inductive iR(CR CK C:Addr)(ok:Ro->Bool)(vs:List V)(H:Hp)(Q:VK)(cH:XK):Prop
 |mk(m:Rm)(q:Ad)(W:M.Wo)(r:Addr)(ro:M.Ro)(dy:Int)(_:vs=[.ref m.z,.ref r])(_:cR CR CK C H m q W)(_:(nms W.es).Nodup)(_:H r=some (.tup 0x7A))(_:ok ro=true)(_:∀(w:Str)(H':Hp),Same H H'->Wd2 W dy ro w->Q (.str w) H'):iR CR CK C ok vs H Q cH
def Ub:Ro->Bool
 | .land (.grant ..)=>true
 |_=>false
def Uc:Ro->Bool
 | .land (.part ..)=>true
 |_=>false
def vP:Ro->Bool
 | .land (.convey ..)=>true
 |_=>false
def vQ:Ro->Bool
 | .land (.gq ..)=>true
 |_=>false
def isNew(ro:Ro):Bool:=Ub ro||Uc ro
def O5:Ro->Bool
 | .heir ..=>true
 |_=>false
def Yj:Ro->Bool
 | .liege ..=>true
 |_=>false
def O6:Ro->Bool
 | .death ..=>true
 |_=>false
section
variable{CR:Addr}
def Ud:aP ["realm","row","estate","new","man","acres"] A5b (aJ sWN):=0x0
def a3q(T:fK K C)(TK:tL K CK)(TR:gP K CR)(F:fj K "word_of_new" "word_of_new" sWN f fd)(mS:mg "STANDS"=some (.str "stands" tS)) 
  (G1:aL P w K mg base bL 1 g1 d1 A5c (oW C))(m1:Meth K C "there" g1)(b1:Binds K d1 A5c [])
  (G2:aL P w K mg base bL 1 g2 d2 A5h (q9 CK))(m2:Meth K CK "is_dead" g2)(b2:Binds K d2 A5h [])
  (G3:aL P w K mg base bL 3 g3 d3 A5c (RJ C))(m3:Meth K C "own" g3)(b3:Binds K d3 A5c []):
  aL P w K mg base bL 4 f fd A5b (iR CR CK C isNew):=by
 refine F.ok Ud 0x1 0x3;obtain⟨m,q,W,r,ro,dy,rfl,R,nd,hx,hk,k⟩:=h;have hr1:cG 1 _:=hr.mono 0x5;refine⟨_,aq (nP (eG qK 0xF (cU aA) (cU aA)) (jN rfl (bR (bB (i:=2) Ud.nd rfl 0x8) (bR (bB (i:=3) Ud.nd rfl 0x8) (bR (bB (i:=4) Ud.nd rfl 0x8) (bR (bB (i:=5) Ud.nd rfl 0x8) gJ))))))
  (aq (bK (ig (dJ (bZ (CX:=bL) (E:=E0) 0xB T.cl m1 G1 hr1 b1 .nil bC 0x65))) 0x84 aR)
  (aq (bK (pQ (uY 0x17 0x52 0xB) 0x12) 0x84 aR)
  (aq (bK (dJ (bZ (CX:=bL) (E:=E0) 0xB TK.cl m2 G2 hr1 b2 .nil bC (aj (pv 4) aC))) 0x84 aR)
  (aq (bK (aU ql (bZ (CX:=bL) (E:=E0) 0xB T.cl m3 G3 hr b3 .nil bC 0x65) (pv 5) 0x61) 0x84 aR)
  (aG (aZ (cj rfl mS ⟨_,rfl⟩ (v:=.str "stands")))))))),?_⟩
 obtain⟨rr,e,n,mn,a,rfl,hc,h1,h2,h3,h4,h5⟩:∃(rr:Rw)(e n mn:Str)(a:Int),ro=.land rr/\iG (Ro.vs dy ro) (some 2) (some 6)=[.str e,.str n,.str mn,.int a]/\rr.est=e/\rr.new=some n/\rr.man=some mn/\rr.acr=a/\∀y∈W.es,y.n=e->n∉W.ks->a<=y.own->dR W.es W.ks y rr:=by
  cases ro with
  |heir _ _=>cases hk
  |liege _ _=>cases hk
  |death _=>cases hk
  | land rr=>
   cases rr with
   |grant e n mn a s=>exact⟨_,e,n,mn,a,rfl,rfl,rfl,rfl,rfl,rfl,fun y a b c d=>⟨a,b,c,d⟩⟩
   |part e n mn a=>exact⟨_,e,n,mn,a,rfl,rfl,rfl,rfl,rfl,rfl,fun y a b c d=>⟨a,b,c,d⟩⟩
   |convey _ _=>cases hk
   |gq _=>cases hk
 refine⟨_,rfl,_,rfl,_,rfl,r,_,rfl,bN.of hx,fun p H1 ho=>?_⟩;rw[hc]at ho;obtain⟨hp,s1⟩:=jP ho;refine⟨p,[.str e,.str n,.str mn,.int a],rfl,hp,rfl,_,_,rfl,_,_,rfl,_,_,rfl,_,_,rfl,rfl,?_⟩;have R1:=R.same s1;clear ho hp;refine⟨_,rfl,m.z,CR,m.dz,_,_,rfl,R1.o,TR.cl,TR.n1,rfl,q.x,q.dx,_,rfl,R1.L.o,rfl,_,rfl,?_⟩;refine⟨q.x,q.dx,q.a1,q.a2,q.a3,q.a4,q.a5,_,_,_,_,_,_,rfl,R1.L,?_⟩;rw[gU];refine⟨_,rfl,?_⟩
 by_cases he:e∈nms W.es
 rotate_left
 ·rw[A0p he];exact cW (k _ _ s1 (.inl ⟨by decide+kernel,.no (h1▸ he)⟩))
 rw[A0k he];refine cg ?_;refine⟨_,rfl,_,rfl,m.z,CR,m.dz,_,_,rfl,R1.o,TR.cl,TR.n3,rfl,m.u,_,rfl,dj.k (k:=.inr n) R1.U,_,rfl,?_⟩;rw[HS,A4Y]
 by_cases hn:n∈W.ks
 ·rw[A0k hn];exact cW (k _ _ s1 (.inl ⟨by decide+kernel,.tk h2 (h1▸ he) hn⟩))
 rw[A0p hn];refine cg ?_;refine⟨_,rfl,m.z,CR,m.dz,_,_,rfl,R1.o,TR.cl,TR.n2,rfl,m.k,m.dk,_,rfl,R1.K.o,rfl,_,rfl,m.k,m.dk,m.hh,m.gg,_,_,_,rfl,R1.K,_,rfl,?_⟩;rw[R1.dead];have al:mn∉W.gone->∀z,rr.man=some z->z∉W.gone:=fun h z e=>by rw[h3]at e;injection e with e;rw[<-e];exact h
 by_cases hd:mn∈W.gone
 ·rw[A0k hd];exact cW (k _ _ s1 (.inl ⟨by decide+kernel,.de h3 (h1▸ he) (fun z e=>by rw[h2]at e;injection e with e;rw[<-e];exact hn) hd⟩))
 rw[A0p hd];refine cg ?_;obtain⟨y,hy,wX⟩:=dF he;refine⟨_,rfl,m.z,CR,m.dz,_,_,rfl,R1.o,TR.cl,TR.n1,rfl,q.x,q.dx,_,rfl,R1.L.o,rfl,_,rfl,?_⟩;refine⟨q.x,q.dx,q.a1,q.a2,q.a3,q.a4,q.a5,_,_,_,_,_,_,_,rfl,R1.L,by rw[gU];exact A0k he,by rw[<-wX];exact dg nd hy,_,rfl,_,_,rfl,rfl,_,rfl,iu 0x3C 0x3C⟩
 ·have h:=c;simp only[A1Y]at h;exact k _ _ s1 (.inl ⟨by decide+kernel,.ac h2 hy (wX.trans h1.symm) hn (al hd) (h4▸ h)⟩)
 ·have h:=c;simp only[A1Y]at h;exact k _ _ s1 (.inr ⟨rfl,y,h5 y hy wX hn 0x4,al hd⟩)
def a1G:aP ["realm","row","estate","man"] A5b (aJ sWC):=0x0
def a3r(T:fK K C)(TK:tL K CK)(TR:gP K CR)(F:fj K "word_of_convey" "word_of_convey" sWC f fd)(mS:mg "STANDS"=some (.str "stands" tS)) 
  (G1:aL P w K mg base bL 1 g1 d1 A5c (oW C))(m1:Meth K C "there" g1)(b1:Binds K d1 A5c [])
  (G2:aL P w K mg base bL 1 g2 d2 A5h (q9 CK))(m2:Meth K CK "is_dead" g2)(b2:Binds K d2 A5h []):
  aL P w K mg base bL 4 f fd A5b (iR CR CK C vP):=by
 refine F.ok a1G 0x1 0x3;obtain⟨m,q,W,r,ro,dy,rfl,R,nd,hx,hk,k⟩:=h;have hr1:cG 1 _:=hr.mono 0x5;refine⟨_,aq (nP (eG qK 0xF (cU aA) iI) (jN rfl (bR (bB (i:=2) a1G.nd rfl 0x8) (bR (bB (i:=3) a1G.nd rfl 0x8) gJ))))
  (aq (bK (ig (dJ (bZ (CX:=bL) (E:=E0) 0xB T.cl m1 G1 hr1 b1 .nil bC 0x65))) 0x84 aR)
  (aq (bK (dJ (bZ (CX:=bL) (E:=E0) 0xB TK.cl m2 G2 hr1 b2 .nil bC 0x90)) 0x84 aR)
  (aG (aZ (cj rfl mS ⟨_,rfl⟩ (v:=.str "stands")))))),?_⟩
 obtain⟨e,mn,rfl⟩:∃e mn,ro=.land (.convey e mn):=by
  cases ro with
  |heir _ _=>cases hk
  |liege _ _=>cases hk
  |death _=>cases hk
  | land rr=>
   cases rr with
   |convey e mn=>exact⟨e,mn,rfl⟩
   |_=>cases hk
 refine⟨_,rfl,_,rfl,r,_,rfl,bN.of hx,fun p H1 ho=>?_⟩;obtain⟨hp,s1⟩:=jP ho;refine⟨p,[.str e,.str mn],rfl,hp,rfl,_,_,rfl,_,_,rfl,rfl,?_⟩;have R1:=R.same s1;clear ho hp;refine⟨_,rfl,m.z,CR,m.dz,_,_,rfl,R1.o,TR.cl,TR.n1,rfl,q.x,q.dx,_,rfl,R1.L.o,rfl,_,rfl,?_⟩;refine⟨q.x,q.dx,q.a1,q.a2,q.a3,q.a4,q.a5,_,_,_,_,_,_,rfl,R1.L,?_⟩;rw[gU];refine⟨_,rfl,?_⟩
 by_cases he:e∈nms W.es
 rotate_left
 ·rw[A0p he];exact cW (k _ _ s1 (.inl ⟨by decide+kernel,.no he⟩))
 rw[A0k he];refine cg ?_;refine⟨_,rfl,m.z,CR,m.dz,_,_,rfl,R1.o,TR.cl,TR.n2,rfl,m.k,m.dk,_,rfl,R1.K.o,rfl,_,rfl,m.k,m.dk,m.hh,m.gg,_,_,_,rfl,R1.K,_,rfl,?_⟩;rw[R1.dead]
 by_cases hd:mn∈W.gone
 ·rw[A0k hd];exact cW (k _ _ s1 (.inl ⟨by decide+kernel,.de rfl he (fun z e=>nomatch e) hd⟩))
 rw[A0p hd];obtain⟨y,hy,wX⟩:=dF he;exact cg (k _ _ s1 (.inr ⟨rfl,y,⟨hy,wX⟩,fun z e=>by injection e with e;rw[<-e];exact hd⟩))
def scWS:aP A5b A5b (aJ sWS):=0x0
def a3s(T:fK K C)(TR:gP K CR)(F:fj K "word_of_surrender" "word_of_surrender" sWS f fd)(mS:mg "STANDS"=some (.str "stands" tS)) 
  (G1:aL P w K mg base bL 1 g1 d1 A5c (oW C))(m1:Meth K C "there" g1)(b1:Binds K d1 A5c []):
  aL P w K mg base bL 4 f fd A5b (iR CR CK C vQ):=by
 refine F.ok scWS 0x1 0x3;obtain⟨m,q,W,r,ro,dy,rfl,R,nd,hx,hk,k⟩:=h;have hr1:cG 1 _:=hr.mono 0x5;refine⟨_,aq (bK (ig (dJ (bZ (CX:=bL) (E:=E0) 0xB T.cl m1 G1 hr1 b1 .nil bC 0x82))) 0x84 aR)
  (aG (aZ (cj rfl mS ⟨_,rfl⟩ (v:=.str "stands")))),?_⟩
 obtain⟨e,rfl⟩:∃e,ro=.land (.gq e):=by
  cases ro with
  |heir _ _=>cases hk
  |liege _ _=>cases hk
  |death _=>cases hk
  | land rr=>
   cases rr with
   |gq e=>exact⟨e,rfl⟩
   |_=>cases hk
 refine⟨_,rfl,m.z,CR,m.dz,_,_,rfl,R.o,TR.cl,TR.n1,rfl,q.x,q.dx,_,rfl,R.L.o,rfl,_,rfl,r,_,_,_,rfl,rfl,bN.of hx,aH (j:=2) rfl,?_⟩;refine⟨q.x,q.dx,q.a1,q.a2,q.a3,q.a4,q.a5,_,_,_,_,_,_,rfl,R.L,?_⟩;rw[gU];refine⟨_,rfl,?_⟩
 by_cases he:e∈nms W.es
 rotate_left
 ·rw[A0p he];exact cW (k _ _ 0x6D (.inl ⟨by decide+kernel,.no he⟩))
 rw[A0k he];obtain⟨y,hy,wX⟩:=dF he;exact cg (k _ _ 0x6D (.inr ⟨rfl,y,⟨hy,wX⟩,fun z e=>nomatch e⟩))
def scWL:aP A5b A5b (aJ sWL):=0x0
def a3t(TK:tL K CK)(TR:gP K CR)(F:fj K "word_of_living" "word_of_living" sWL f fd)(mS:mg "STANDS"=some (.str "stands" tS)) 
  (G2:aL P w K mg base bL 1 g2 d2 A5h (q9 CK))(m2:Meth K CK "is_dead" g2)(b2:Binds K d2 A5h []):
  aL P w K mg base bL 4 f fd A5b (iR CR CK C fun ro=>O5 ro||O6 ro):=by
 refine F.ok scWL 0x1 0x3;obtain⟨m,q,W,r,ro,dy,rfl,R,nd,hx,hk,k⟩:=h;have hr1:cG 1 _:=hr.mono 0x5;refine⟨_,aq (bK (dJ (bZ (CX:=bL) (E:=E0) 0xB TK.cl m2 G2 hr1 b2 .nil bC 0x82)) 0x84 aR)
  (aG (aZ (cj rfl mS ⟨_,rfl⟩ (v:=.str "stands")))),?_⟩
 obtain⟨z,hz,hv,hs⟩:∃z,(Ro.vs dy ro)[2]?=some (.str z)/\(z∈W.gone->Jo W dy ro "dead" W)/\(z∉W.gone->St W ro):=by
  cases ro with
  |land rr=>cases rr<;>cases hk
  |liege _ _=>cases hk
  |heir a b=>exact⟨a,rfl,.hd,id⟩
  |death a=>exact⟨a,rfl,.dx,id⟩
 refine⟨_,rfl,m.z,CR,m.dz,_,_,rfl,R.o,TR.cl,TR.n2,rfl,m.k,m.dk,_,rfl,R.K.o,rfl,_,rfl,r,_,_,_,rfl,rfl,bN.of hx,aH (j:=2) hz,m.k,m.dk,m.hh,m.gg,_,_,_,rfl,R.K,_,rfl,?_⟩;rw[R.dead]
 by_cases hd:z∈W.gone
 ·rw[A0k hd];exact cW (k _ _ 0x6D (.inl ⟨by decide+kernel,hv hd⟩))
 ·rw[A0p hd];exact cg (k _ _ 0x6D (.inr ⟨rfl,hs hd⟩))
end
def lF(m:Rm)(q:Ad):List Addr:=[q.a1,q.a2,q.a3,q.a4,q.a5,m.u,m.hh,m.gg,m.de,m.li]
def Sep(m:Rm)(q:Ad):Prop:=(lF m q).Nodup
def gW(m:Rm)(q:Ad)(H H':Hp):Prop:=∀c u,c∉lF m q->NL H m.li c->H c=some u->H' c=some u/\NL H' m.li c
def Sep.a5{m:Rm}{q:Ad}(S:Sep m q):Rz q.a1 q.a2 q.a3 q.a4 q.a5:=⟨bQ S 0 1 rfl rfl 0x5,bQ S 0 2 rfl rfl 0x5,bQ S 0 3 rfl rfl 0x5,bQ S 0 4 rfl rfl 0x5,bQ S 1 2 rfl rfl 0x5,bQ S 1 3 rfl rfl 0x5,bQ S 1 4 rfl rfl 0x5,bQ S 2 3 rfl rfl 0x5,bQ S 2 4 rfl rfl 0x5,bQ S 3 4 rfl rfl 0x5⟩
def gW.trans{m:Rm}{q:Ad}(a:gW m q H H1)(b:gW m q H1 H2):gW m q H H2:=fun c u h n e=>b c u h (a c u h n e).2 (a c u h n e).1
def gW.same{m:Rm}{q:Ad}(s:Same H H'):gW m q H H':=fun c u _ n e=>⟨s c u e,n.same s⟩
def gW.put{m:Rm}{q:Ad}(S:Sep m q)(i:Nat)(hi:(lF m q)[i]?=some a)(h9:i≠9):gW m q H (upd H a o):=fun c u hc n e=>by
 obtain⟨kvs,h1,h2⟩:=n;exact⟨by rw[ak fun z=>hc (by rw[z];exact wU hi)];exact e,kvs,by rw[ak (bQ S 9 i rfl hi (A0m h9))];exact h1,h2⟩
def wY.Ax{m:Rm}{q:Ad}(S:Sep m q)(o:wY q H H'):gW m q H H':=fun c u h n e=>by
 simp only[lF,A0d,A0s,A1d,A4a]at h;obtain⟨kvs,h1,h2⟩:=n;exact⟨o c u h.1 h.2.1 h.2.2.1 h.2.2.2.1 h.2.2.2.2.1 e,kvs,o _ _ (bQ S 9 0 rfl rfl 0x5) (bQ S 9 1 rfl rfl 0x5) (bQ S 9 2 rfl rfl 0x5) (bQ S 9 3 rfl rfl 0x5) (bQ S 9 4 rfl rfl 0x5) h1,h2⟩
def cR.O7{CR:Addr}{m:Rm}{q:Ad}{W:Wo}(a:cR CR CK C H m q W)(o:gW m q H H'){u:HO}(h:c∉lF m q)(hc:H c=some u)(hl:∀xs,u≠.lst xs:=by intro _ z;cases z):H' c=some u:=by
 obtain⟨gs,G⟩:=a.G;refine(o c u h ⟨_,G.d,fun k hk=>?_⟩ hc).1;obtain⟨p,hp,e⟩:=A0e.mp hk;injection e with _ e;injection e with e;obtain⟨ts,h1,_⟩:=G.lt p hp;rw[e,hc]at h1;injection h1 with h1;exact hl _ h1
def cR.out{CR:Addr}{m:Rm}{q:Ad}{W:Wo}(a:cR CR CK C H m q W)(o:gW m q H H'){u:HO}(hn:∀kvs,u≠.dK kvs)(hc:H c=some u)(hl:∀xs,u≠.lst xs:=by intro _ z;cases z):H' c=some u:=by
 have ne:∀{b:Addr}{kvs:List 0x2B},H b=some 0x16->c≠b:=fun hb=>aO hc hb (hn _);obtain⟨gs,G⟩:=a.G;refine a.O7 o ?_ hc hl;simp only[lF,A0d,A0s,A1d,A4a];exact⟨ne a.L.l1,ne a.L.l2,ne a.L.l3,ne a.L.l4,ne a.L.l5,ne a.U,ne a.K.h,ne a.K.g,ne a.D,ne G.d⟩
def cR.noN{CR:Addr}{m:Rm}{q:Ad}{W:Wo}(a:cR CR CK C H m q W)(h:W.lg=[]):NL H m.li c:=by
 obtain⟨gs,G⟩:=a.G;have h1:=G.ln;rw[h]at h1;have h2:gs=[]:=List.eq_nil_of_length_eq_zero (Nat.le_zero.mp h1);refine⟨_,G.d,fun k hk=>?_⟩;rw[h2]at hk;cases hk
def cR.Ue{CR:Addr}{m:Rm}{q:Ad}{W:Wo}(a:cR CR CK C H m q W)(o:gW m q H H')(hc:H c=some 0x4D)(n:NL H m.li c):H' c=some 0x4D/\NL H' m.li c:=by
 have ne:∀{b:Addr}{kvs:List 0x2B},H b=some 0x16->c≠b:=fun hb=>aO hc hb 0x6;obtain⟨gs,G⟩:=a.G;refine o c _ ?_ n hc;simp only[lF,A0d,A0s,A1d,A4a];exact⟨ne a.L.l1,ne a.L.l2,ne a.L.l3,ne a.L.l4,ne a.L.l5,ne a.U,ne a.K.h,ne a.K.g,ne a.D,ne G.d⟩
def cR.newN{CR:Addr}{m:Rm}{q:Ad}{W:Wo}(a:cR CR CK C H m q W)(hc:H c=none):NL H m.li c:=by
 obtain⟨gs,G⟩:=a.G;refine⟨_,G.d,fun k hk=>?_⟩;obtain⟨p,hp,e⟩:=A0e.mp hk;injection e with _ e;injection e with e;obtain⟨ts,h1,_⟩:=G.lt p hp;rw[e,hc]at h1;cases h1
def cR.a1H{CR:Addr}{m:Rm}{q:Ad}{W:Wo}{es':List aQ}(a:cR CR CK C H m q W)(S:Sep m q)(o:wY q H H')(L:Ln C q H' es'):cR CR CK C H' m q {W with es:=es'}:=by
 have i:=fun{c D d:Addr}{fs:List (Str×V)}(h:H c=some (.ins D d fs))=>a.out (o.Ax S) 0x26 h;have g:=fun{c:Addr}{u:HO}(j:Nat)(hj:(lF m q)[j]?=some c)(h5:4<j)(h:H c=some u)=>o c u (bQ S j 0 hj rfl 0x4) (bQ S j 1 hj rfl 0x4) (bQ S j 2 hj rfl 0x4) (bQ S j 3 hj rfl 0x4) (bQ S j 4 hj rfl 0x4) h;exact⟨i a.o,⟨i a.K.o,g 6 rfl 0x5 a.K.h,g 7 rfl 0x5 a.K.g⟩,g 5 rfl 0x5 a.U,g 8 rfl 0x5 a.D,a.G.keep (fun u h=>g 9 rfl 0x5 h) (fun c xs h=>o c _ (aO h a.L.l1 0x6) (aO h a.L.l2 0x6) (aO h a.L.l3 0x6) (aO h a.L.l4 0x6) (aO h a.L.l5 0x6) h) (fun c xs h=>a.out (o.Ax S) 0x26 h),L⟩
section
variable{CR:Addr}{m:Rm}{q:Ad}{W:Wo}
def cR.kept(a:cR CR CK C H m q W)(S:Sep m q)(i:Nat)(hi:(lF m q)[i]?=some c){kv0:List 0x2B}(h0:H c=some (.dK kv0)):(∀{b D d:Addr}{fs:List 0x81},H b=some (.ins D d fs)->(upd H c o) b=some (.ins D d fs))/\∀(j:Nat){b:Addr}{u:HO},(lF m q)[j]?=some b->j≠i->H b=some u->(upd H c o) b=some u:=
 ⟨fun h=>by rw[ak (aO h h0 0x6)];exact h,fun j b u hj hn h=>by rw[ak (bQ S j i hj hi hn)];exact h⟩
def cR.used(a:cR CR CK C H m q W)(S:Sep m q):cR CR CK C (upd H m.u (.dK (Wr ks'))) m q {W with ks:=ks'}:=by
 obtain⟨i,g⟩:=a.kept S (o:=.dK (Wr ks')) 5 rfl a.U;exact⟨i a.o,⟨i a.K.o,g 6 rfl 0x5 a.K.h,g 7 rfl 0x5 a.K.g⟩,ao,g 8 rfl 0x5 a.D,a.G.dput a.U (bQ S 9 5 rfl rfl 0x5),i a.L.o,g 0 rfl 0x5 a.L.l1,g 1 rfl 0x5 a.L.l2,g 2 rfl 0x5 a.L.l3,g 3 rfl 0x5 a.L.l4,g 4 rfl 0x5 a.L.l5⟩
def cR.heirs{hs':List 0x2B}(a:cR CR CK C H m q W)(S:Sep m q):cR CR CK C (upd H m.hh (.dK hs')) m q {W with hs:=hs'}:=by
 obtain⟨i,g⟩:=a.kept S (o:=.dK hs') 6 rfl a.K.h;exact⟨i a.o,⟨i a.K.o,ao,g 7 rfl 0x5 a.K.g⟩,g 5 rfl 0x5 a.U,g 8 rfl 0x5 a.D,a.G.dput a.K.h (bQ S 9 6 rfl rfl 0x5),i a.L.o,g 0 rfl 0x5 a.L.l1,g 1 rfl 0x5 a.L.l2,g 2 rfl 0x5 a.L.l3,g 3 rfl 0x5 a.L.l4,g 4 rfl 0x5 a.L.l5⟩
def cR.died{sV:List (Str×Int)}(a:cR CR CK C H m q W)(S:Sep m q):cR CR CK C (upd (upd H m.gg (.dK (U9 sV))) m.de (.dK (Yg sV))) m q {W with dd:=sV}:=by
 obtain⟨i,g⟩:=a.kept S (o:=.dK (U9 sV)) 7 rfl a.K.g;have n:=fun(j:Nat){b:Addr}(hj:(lF m q)[j]?=some b)(h:j≠8)=>bQ S j 8 hj rfl h;have d0:=g 8 rfl 0x5 a.D;have i2:=fun{b D d:Addr}{fs:List (Str×V)}(h:H b=some (.ins D d fs))=>(show(upd (upd H m.gg (.dK (U9 sV))) m.de (.dK (Yg sV))) b=some (.ins D d fs) by rw[ak (aO (i h) d0 0x6)];exact i h)
 have g2:=fun(j:Nat){b:Addr}{u:HO}(hj:(lF m q)[j]?=some b)(h7:j≠7)(h8:j≠8)(h:H b=some u)=>(show(upd (upd H m.gg (.dK (U9 sV))) m.de (.dK (Yg sV))) b=some u by rw[ak (n j hj h8)];exact g j hj h7 h)
 exact⟨i2 a.o,⟨i2 a.K.o,g2 6 rfl 0x5 0x5 a.K.h,by rw[ak (n 7 rfl 0x5),ao]⟩,g2 5 rfl 0x5 0x5 a.U,ao,(a.G.dput a.K.g (bQ S 9 7 rfl rfl 0x5)).dput d0 (bQ S 9 8 rfl rfl 0x5),i2 a.L.o,g2 0 rfl 0x5 0x5 a.L.l1,g2 1 rfl 0x5 0x5 a.L.l2,g2 2 rfl 0x5 0x5 a.L.l3,g2 3 rfl 0x5 0x5 a.L.l4,g2 4 rfl 0x5 0x5 a.L.l5⟩
end
def cR.liege{CR:Addr}{m:Rm}{q:Ad}{W:Wo}{lg':List (Str×Int×Str)}(a:cR CR CK C H m q W)(S:Sep m q){la:Addr}(hla:H la=none\/∃xs,H la=some 0x4D)(fr:∀c u,c≠la->c≠m.li->H c=some u->H' c=some u)(G':FQ H' m.li lg'):cR CR CK C H' m q {W with lg:=lg'}:=by
 have nl:∀{c:Addr}{u:HO},H c=some u->(∀xs,u≠.lst xs)->c≠la:=fun{c u}h n z=>by
  rw[z]at h;rcases hla with e|⟨xs,e⟩
  ·rw[e]at h;cases h
  ·rw[e]at h;injection h with h;exact n _ h.symm
 obtain⟨gs,G⟩:=a.G;have i:=fun{c D d:Addr}{fs:List (Str×V)}(h:H c=some (.ins D d fs))=>fr c _ (nl h (by intro _ z;cases z)) (aO h G.d 0x6) h;have g:=fun(j:Nat){b:Addr}{kvs:List (Key×V)}(hj:(lF m q)[j]?=some b)(h9:j≠9)(h:H b=some (.dK kvs))=>fr b _ (nl h (by intro _ z;cases z)) (bQ S j 9 hj rfl h9) h;exact⟨i a.o,⟨i a.K.o,g 6 rfl 0x5 a.K.h,g 7 rfl 0x5 a.K.g⟩,g 5 rfl 0x5 a.U,g 8 rfl 0x5 a.D,G',i a.L.o,g 0 rfl 0x5 a.L.l1,g 1 rfl 0x5 a.L.l2,g 2 rfl 0x5 a.L.l3,g 3 rfl 0x5 a.L.l4,g 4 rfl 0x5 a.L.l5⟩
def Ug(CR CK C:Addr)(m:Rm)(q:Ad)(H:Hp)(W:Wo)(dy:Int)(ro:Ro)(Q:VK):Prop:=
 ∀W' H',Jo W dy ro "stands" W'->cR CR CK C H' m q W'->(∀e∈W'.es,je H' e.ta e.due.1 e.due.2)->gW m q H H'->Q .non H'
inductive eV(CR CK C:Addr)(ok:Ro->Bool)(vs:List V)(H:Hp)(Q:VK)(cH:XK):Prop
 |mk(m:Rm)(q:Ad)(W:M.Wo)(ls:List Str)(j:Nat)(r:Addr)(ro:M.Ro)(dy wd:Int)(_:vs=[.ref m.z,.ref r])(_:cR CR CK C H m q W)(_:Sep m q)(_:Wp W ls j wd)(_:(∀e∈W.es,je H e.ta e.due.1 e.due.2))(_:St W ro)(_:Ro.Ok ls ro)(_:Ro.Tx ro)(_:0x62)(_:j<=60)(_:H r=some (.tup 0x7A))(_:ok ro=true)(_:Ug CR CK C m q H W dy ro Q):eV CR CK C ok vs H Q cH
def TX.keep{y:aQ}{cN:Rw}(f:TX y t1 t2 H cN)(k:∀c xs,H c=some 0x23->H' c=some 0x23):TX y t1 t2 H' cN:=by
 cases cN with
 |grant e n m a s=>exact k _ _ f
 |part e n m a=>exact⟨k _ _ f.1,k _ _ f.2⟩
 |convey e m=>exact True.intro
 |gq e=>exact True.intro
def KY{CR:Addr}{m:Rm}{q:Ad}{W:Wo}{y:aQ}{rr:Rw}{n:Str}{Q:VK}(R:cR CR CK C H m q W)(R1:cR CR CK C H1 m q W)(S:Sep m q)(s1:Same H H1)(nd:(nms W.es).Nodup)(fr:∀e∈W.es,je H e.ta e.due.1 e.due.2)(hs:dR W.es W.ks y rr)(hm:∀z,rr.man=some z->z∉W.gone)(hn:rr.new=some n)
  (hL:∀b1 b2,Ln C q H2 (stp y W.es t1 t2 b1 b2 rr))(fN:TX y t1 t2 H2 rr)(o:wY q H1 H2)(k:Ug CR CK C m q H W dy (.land rr) Q):H2 m.u=some (.dK (Wr W.ks))/\H2 m.z=some (.ins CR m.dz (FRm q.x m.k m.u m.li m.de))/\Q .non (upd H2 m.u (.dK (Wr (W.ks++[n])))):=by
 have R2:=R1.a1H S o (hL 0 0);have o2:=(gW.same s1).trans ((wY.Ax (m:=m) S o).trans (gW.put (a:=m.u) (o:=.dK (Wr (W.ks++[n]))) S 5 rfl 0x5));have ek:stK W.ks rr=W.ks++[n]:=by cases rr<;>first|(injection hn with hn;rw[<-hn];rfl)|cases hn
 have Rf:=R2.used (ks':=W.ks++[n]) S;rw[<-ek]at Rf;refine⟨R2.U,R2.o,?_⟩;rw[<-ek]at o2 ⊢;refine k _ _ (.st t1 t2 0 0 hs hm) Rf ?_ o2;exact jq (u1:=t1) (u2:=t2) (·.ta) nd hs (fun e he=>R.out o2 0x26 0x86) (fN.keep fun c xs h=>R2.out (gW.put S 5 rfl 0x5) 0x26 h) 0x2 0x2 0x2 0x47 (fun _ _ _ _ _=>rfl) 0x47
def KZ{CR:Addr}{m:Rm}{q:Ad}{W:Wo}{y:aQ}{rr:Rw}{Q:VK}(R:cR CR CK C H m q W)(S:Sep m q)(nd:(nms W.es).Nodup)(fr:∀e∈W.es,je H e.ta e.due.1 e.due.2)(hs:dR W.es W.ks y rr)(hm:∀z,rr.man=some z->z∉W.gone)(hn:rr.new=none)
  (hL:∀b1 b2,Ln C q H2 (stp y W.es t1 t2 b1 b2 rr))(fN:TX y t1 t2 H2 rr)(o:wY q H H2)(k:Ug CR CK C m q H W dy (.land rr) Q):Q .non H2:=by
 have R2:=R.a1H S o (hL 0 0);have ek:stK W.ks rr=W.ks:=by cases rr<;>first|rfl|cases hn
 have J:Jo W dy (.land rr) "stands" {W with es:=stp y W.es t1 t2 0 0 rr,ks:=stK W.ks rr}:=.st t1 t2 0 0 hs hm;rw[ek]at J;refine k _ _ J R2 ?_ (wY.Ax S o);exact jq (u1:=t1) (u2:=t2) (·.ta) nd hs (fun e he=>R.out (wY.Ax S o) 0x26 0x86) fN 0x2 0x2 0x2 0x47 (fun _ _ _ _ _=>rfl) 0x47
def a3u{ro:Ro}(h:Ub ro=true):∃e n m a s,ro=.land (.grant e n m a s):=by
 cases ro with
 | land rr=>cases rr with
  |grant e n m a s=>exact⟨_,_,_,_,_,rfl⟩
  |_=>cases h
 |_=>cases h
def a3v{ro:Ro}(h:Uc ro=true):∃e n m a,ro=.land (.part e n m a):=by
 cases ro with
 | land rr=>cases rr with
  |part e n m a=>exact⟨_,_,_,_,rfl⟩
  |_=>cases h
 |_=>cases h
def a1I{ro:Ro}(h:vP ro=true):∃e m,ro=.land (.convey e m):=by
 cases ro with
 | land rr=>cases rr with
  |convey e m=>exact⟨_,_,rfl⟩
  |_=>cases h
 |_=>cases h
def a1J{ro:Ro}(h:vQ ro=true):∃e,ro=.land (.gq e):=by
 cases ro with
 | land rr=>cases rr with
  |gq e=>exact⟨_,rfl⟩
  |_=>cases h
 |_=>cases h
section
variable{CR:Addr}
def O8:aP ["realm","row","estate","new","man","acres","service"] A5b (aJ sDG):=0x0
def a3w(T:fK K C)(TR:gP K CR)(F:fj K "do_grant" "do_grant" sDG f fd) 
  (G1:aL P w K mg base bL 4 g1 d1 A5m (tW C))(m1:Meth K C "grant" g1)(b1:Binds K d1 A5m []):
  aL P w K mg base bL 5 f fd A5b (eV CR CK C Ub):=by
 refine F.ok O8 0x1 0x3;obtain⟨m,q,W,ls,j,r,ro,dy,wd,rfl,R,S,WP,fr,hst,hok,htx,hls,hj,hx,hk,k⟩:=h;refine⟨_,aq (nP (eG qK 0xF (cU aA) iI) (jN rfl (bR (bB (i:=2) O8.nd rfl 0x8) (bR (bB (i:=3) O8.nd rfl 0x8) (bR (bB (i:=4) O8.nd rfl 0x8) (bR (bB (i:=5) O8.nd rfl 0x8) (bR (bB (i:=6) O8.nd rfl 0x8) gJ)))))))
  (aq (bM (bZ (CX:=bL) (E:=E0) 0xB T.cl m1 G1 hr b1 .nil bC (aj 0x3B (aj 0x52 (aj (pv 4) (aj (pv 5) (aj (pv 6) aC)))))))
  (aG (cQ 0x17 0xB 0x52 jX rfl))),?_⟩
 obtain⟨e,n,mn,a,s,rfl⟩:=a3u hk;obtain⟨y,hs,hm⟩:=hst;have PU:=WP.E.P;refine⟨_,rfl,_,rfl,r,_,rfl,bN.of hx,fun p H1 ho=>?_⟩;obtain⟨hp,s1⟩:=jP ho;refine⟨p,[.str e,.str n,.str mn,.int a,.int s],rfl,hp,rfl,_,_,rfl,_,_,rfl,_,_,rfl,_,_,rfl,_,_,rfl,rfl,?_⟩;have R1:=R.same s1;clear ho hp;refine⟨_,rfl,m.z,CR,m.dz,_,_,rfl,R1.o,TR.cl,TR.n1,rfl,q.x,q.dx,_,rfl,R1.L.o,rfl,_,rfl,_,rfl,_,rfl,_,rfl,_,rfl,?_⟩;dsimp only[lC,List.cons_append,List.nil_append];refine TY (E:=E0) PU R1.L S.a5 (fun e he=>s1 _ _ 0x86) hs hok hls hj fun t1 t2 H2 hL fN o=>?_;obtain⟨hU,hz,fin⟩:=KY R R1 S s1 PU.W.nd fr hs hm rfl hL fN o k;have eU:putK (Wr W.ks) 0x15 (.bl true)=Wr (W.ks++[n]):=qT (g:=id) (a:=n) (by rw[A4Y];exact(hs.est.2.2 _ rfl).1);refine⟨_,rfl,m.z,CR,m.dz,_,_,rfl,hz,TR.cl,TR.n3,rfl,_,rfl,m.u,_,rfl,gK.k (k:=.inr n) hU (bO (by rw[qU];have:=PU.lk;lia)),?_⟩;rw[eU];exact fin
def Uh:aP ["realm","row","estate","new","man","acres"] A5b (aJ sDP):=0x0
def a3x(T:fK K C)(TR:gP K CR)(F:fj K "do_part" "do_part" sDP f fd) 
  (G1:aL P w K mg base bL 4 g1 d1 A5v (oZ C))(m1:Meth K C "part_off" g1)(b1:Binds K d1 A5v []):
  aL P w K mg base bL 5 f fd A5b (eV CR CK C Uc):=by
 refine F.ok Uh 0x1 0x3;obtain⟨m,q,W,ls,j,r,ro,dy,wd,rfl,R,S,WP,fr,hst,hok,htx,hls,hj,hx,hk,k⟩:=h;refine⟨_,aq (nP (eG qK 0xF (cU aA) iI) (jN rfl (bR (bB (i:=2) Uh.nd rfl 0x8) (bR (bB (i:=3) Uh.nd rfl 0x8) (bR (bB (i:=4) Uh.nd rfl 0x8) (bR (bB (i:=5) Uh.nd rfl 0x8) gJ))))))
  (aq (bM (bZ (CX:=bL) (E:=E0) 0xB T.cl m1 G1 hr b1 .nil bC (aj 0x3B (aj 0x52 (aj (pv 4) (aj (pv 5) aC))))))
  (aG (cQ 0x17 0xB 0x52 jX rfl))),?_⟩
 obtain⟨e,n,mn,a,rfl⟩:=a3v hk;obtain⟨y,hs,hm⟩:=hst;have PU:=WP.E.P;refine⟨_,rfl,_,rfl,r,_,rfl,bN.of hx,fun p H1 ho=>?_⟩;obtain⟨hp,s1⟩:=jP ho;refine⟨p,[.str e,.str n,.str mn,.int a],rfl,hp,rfl,_,_,rfl,_,_,rfl,_,_,rfl,_,_,rfl,rfl,?_⟩;have R1:=R.same s1;clear ho hp;refine⟨_,rfl,m.z,CR,m.dz,_,_,rfl,R1.o,TR.cl,TR.n1,rfl,q.x,q.dx,_,rfl,R1.L.o,rfl,_,rfl,_,rfl,_,rfl,_,rfl,?_⟩;dsimp only[lC,List.cons_append,List.nil_append];refine Y7 (E:=E0) PU R1.L S.a5 (fun e he=>s1 _ _ 0x86) hs hok hls hj fun t1 t2 H2 hL fN o=>?_;obtain⟨hU,hz,fin⟩:=KY R R1 S s1 PU.W.nd fr hs hm rfl hL fN o k;have eU:putK (Wr W.ks) 0x15 (.bl true)=Wr (W.ks++[n]):=qT (g:=id) (a:=n) (by rw[A4Y];exact(hs.est.2.2 _ rfl).1);refine⟨_,rfl,m.z,CR,m.dz,_,_,rfl,hz,TR.cl,TR.n3,rfl,_,rfl,m.u,_,rfl,gK.k (k:=.inr n) hU (bO (by rw[qU];have:=PU.lk;lia)),?_⟩;rw[eU];exact fin
def scDC:aP A5b A5b (aJ sDC):=0x0
def a3y(T:fK K C)(TR:gP K CR)(F:fj K "do_convey" "do_convey" sDC f fd) 
  (G1:aL P w K mg base bL 4 g1 d1 A5y (oA C))(m1:Meth K C "convey" g1)(b1:Binds K d1 A5y []):
  aL P w K mg base bL 5 f fd A5b (eV CR CK C vP):=by
 refine F.ok scDC 0x1 0x3;obtain⟨m,q,W,ls,j,r,ro,dy,wd,rfl,R,S,WP,fr,hst,hok,htx,hls,hj,hx,hk,k⟩:=h;refine⟨_,aG (bM (bZ (CX:=bL) (E:=E0) 0xB T.cl m1 G1 hr b1 .nil bC (aj 0x1A 0x82))),?_⟩;obtain⟨e,mn,rfl⟩:=a1I hk;obtain⟨y,hs,hm⟩:=hst;have PU:=WP.E.P;refine⟨_,rfl,m.z,CR,m.dz,_,_,rfl,R.o,TR.cl,TR.n1,rfl,q.x,q.dx,_,rfl,R.L.o,rfl,_,rfl,r,_,_,_,rfl,rfl,bN.of hx,aH (j:=2) rfl,_,rfl,r,_,_,_,rfl,rfl,bN.of hx,aH (j:=3) rfl,?_⟩;dsimp only[lC,List.cons_append,List.nil_append];exact yL (E:=E0) PU R.L S.a5 fr hs hok hls hj fun t1 t2 H2 hL fN o=>KZ R S PU.W.nd fr hs hm rfl hL fN o k
def scDS:aP A5b A5b (aJ sDS):=0x0
def a3z(T:fK K C)(TR:gP K CR)(F:fj K "do_surrender" "do_surrender" sDS f fd) 
  (G1:aL P w K mg base bL 4 g1 d1 A5c (vm C))(m1:Meth K C "fall_back" g1)(b1:Binds K d1 A5c []):
  aL P w K mg base bL 5 f fd A5b (eV CR CK C vQ):=by
 refine F.ok scDS 0x1 0x3;obtain⟨m,q,W,ls,j,r,ro,dy,wd,rfl,R,S,WP,fr,hst,hok,htx,hls,hj,hx,hk,k⟩:=h;refine⟨_,aG (bM (bZ (CX:=bL) (E:=E0) 0xB T.cl m1 G1 hr b1 .nil bC 0x82)),?_⟩;obtain⟨e,rfl⟩:=a1J hk;obtain⟨y,hs,hm⟩:=hst;have PU:=WP.E.P;refine⟨_,rfl,m.z,CR,m.dz,_,_,rfl,R.o,TR.cl,TR.n1,rfl,q.x,q.dx,_,rfl,R.L.o,rfl,_,rfl,r,_,_,_,rfl,rfl,bN.of hx,aH (j:=2) rfl,?_⟩;dsimp only[lC,List.cons_append,List.nil_append];exact KH (E:=E0) PU R.L S.a5 fr hs hok hls hj fun t1 t2 H2 hL fN o=>KZ R S PU.W.nd fr hs hm rfl hL fN o k
def scDH:aP A5b A5b (aJ sDH):=0x0
def a3A(TK:tL K CK)(TR:gP K CR)(F:fj K "do_heir" "do_heir" sDH f fd) 
  (G1:aL P w K mg base bL 4 g1 d1 ["self","man","heir"] (HN CK))(m1:Meth K CK "name_heir" g1)(b1:Binds K d1 ["self","man","heir"] []):
  aL P w K mg base bL 5 f fd A5b (eV CR CK C O5):=by
 refine F.ok scDH 0x1 0x3;obtain⟨m,q,W,ls,j,r,ro,dy,wd,rfl,R,S,WP,fr,hst,hok,htx,hls,hj,hx,hk,k⟩:=h;refine⟨_,aG (bM (bZ (CX:=bL) (E:=E0) 0xB TK.cl m1 G1 hr b1 .nil bC (aj 0x1A 0x82))),?_⟩;cases ro with
 |land rr=>cases rr<;>cases hk
 |liege _ _=>cases hk
 |death _=>cases hk
 |heir a b=>
 have o2:gW m q H (upd H m.hh (.dK (putK W.hs (.inr a) (.str b)))):=gW.put S 6 rfl 0x5;exact⟨_,rfl,m.z,CR,m.dz,_,_,rfl,R.o,TR.cl,TR.n2,rfl,m.k,m.dk,_,rfl,R.K.o,rfl,_,rfl,r,_,_,_,rfl,rfl,bN.of hx,aH (j:=2) rfl,_,rfl,r,_,_,_,rfl,rfl,bN.of hx,aH (j:=3) rfl,m.k,m.dk,m.hh,m.gg,_,_,a,b,rfl,R.K,hok,by have:=WP.hl;lia,k _ _ (.hr hst) (R.heirs S) (fun e he=>R.out o2 0x26 0x86) o2⟩
def Fo.keep{es e1:List aQ}{n:Str}(f:Fo r es ss e1)(h:n∈nms es):n∉ss->n∈nms e1:=by
 induction f with
 |nil=>intro _;exact h
 | @snoc ss e1 y f hy hn ih=>
  intro hs;obtain⟨x,hx,hxn⟩:=dF (ih fun z=>hs (A0W _ z));have ne:x.n≠y.n:=fun z=>hs (A0G _ (by rw[<-hxn,z];exact A0b.mpr rfl));cases r with
  |none=>exact A0e.mpr ⟨_,A0e.mpr ⟨x,A0w.mpr ⟨hx,A0k ne⟩,rfl⟩,hxn⟩
  | some h=>
   show n∈nms (mod y.n (nG h) e1)
   rw[qQ (g:=nG h) 0xD];exact A0e.mpr ⟨x,hx,hxn⟩
def HX{es:List aQ}{m:Str}(hb:vN es m ss)(nd:(0x68).Nodup):ss.Nodup/\∀n∈ss,∃y∈es,y.n=n/\y.man=m:=
 ⟨hb.1.nodup_iff.mpr ((A4f.map _).nodup nd),fun n hn=>by
  obtain⟨y,hy,rfl⟩:=A0e.mp (hb.1.mem_iff.mp hn);exact⟨y,(A0w.mp hy).1,rfl,qg (A0w.mp hy).2⟩⟩
def Fo.next{es e1:List aQ}{m n:Str}(hb:vN es m ss)(nd:(0x68).Nodup)(cr:∀e∈es,e.n=""->e.man="")(hm:m≠"")(f:Fo r es (ss.take i) e1)(hi:ss[i]?=some n):n≠""/\∃y∈e1,y.n=n:=by
 obtain⟨nds,hall⟩:=HX hb nd;obtain⟨y0,h0,hn0,hm0⟩:=hall n (wU hi);refine⟨fun z=>hm (by rw[<-hm0];exact cr y0 h0 (hn0.trans z)),?_⟩;have hnot:n∉ss.take i:=fun hq=>by
  obtain⟨k,hk⟩:=A3O.mp hq;have hki:k<i:=by
   have:=(A0j.mp hk).1;rw[A0H]at this;lia
  rw[List.getElem?_take_of_lt hki]at hk;have:=(List.getElem?_inj (A0j.mp hk).1 nds).mp (hk.trans hi.symm);lia
 exact dF (f.keep (by rw[<-hn0];exact A0e.mpr ⟨y0,h0,rfl⟩) hnot)
def TX.die{y:aQ}{n:Str}:TX y 0 0 H (vM r n):=by cases r<;>exact True.intro
def La{es:List aQ}{y:aQ}(hy:y∈es):dR es ks y (vM r y.n):=by cases r<;>exact⟨hy,rfl⟩
def El(r:Option Str):decide (rP r=V.non)=r.isNone:=by cases r<;>rfl
def Yk:aP ["realm","row","man","heir","estate"] A5b (aJ sDD):=0x0
def a3B(T:fK K C)(TK:tL K CK)(TR:gP K CR)(F:fj K "do_death" "do_death" sDD f fd) 
  (G1:aL P w K mg base bL 1 g1 d1 A5h (U3 CK))(m1:Meth K CK "die" g1)(b1:Binds K d1 A5h [])
  (G2:aL P w K mg base bL 2 g2 d2 A5h (Ar CK))(m2:Meth K CK "taker" g2)(b2:Binds K d2 A5h [])
  (G3:aL P w K mg base bL 1 g3 d3 A5h (zX C))(m3:Meth K C "held" g3)(b3:Binds K d3 A5h [])
  (G4:aL P w K mg base bL 4 g4 d4 A5c (vm C))(m4:Meth K C "fall_back" g4)(b4:Binds K d4 A5c [])
  (G5:aL P w K mg base bL 4 g5 d5 A5y (oA C))(m5:Meth K C "convey" g5)(b5:Binds K d5 A5y []):
  aL P w K mg base bL 5 f fd A5b (eV CR CK C O6):=by
 refine F.ok Yk 0x1 0x3;obtain⟨m,q,W,ls,j,r,ro,dy,wd,rfl,R,S,WP,fr,hst,hok,htx,hls,hj,hx,hk,k⟩:=h;have hr1:cG 1 _:=hr.mono 0x5;have hr2:cG 2 _:=hr.mono 0x5;refine⟨_,aq (aV (i:=2) Yk.nd rfl 0x8 0x1A)
  (aq (bM (bZ (CX:=bL) (E:=E0) 0xB TK.cl m1 G1 hr1 b1 .nil bC 0x65))
  (aq (cQ 0x17 0xB 0x3B 0x1A rfl)
  (aq (aV (i:=3) Yk.nd rfl 0x8 (bZ (CX:=bL) (E:=E0) 0xB TK.cl m2 G2 hr2 b2 .nil bC 0x65))
  (aG (gF A0Q rfl (fu (bZ (CX:=bL) (E:=E0) 0xB T.cl m3 G3 hr1 b3 .nil bC 0x65)) (bB (i:=4) Yk.nd rfl 0x8)
   (aG (bK (aU Ql 0x52 m7 0x61) (aG (bM (bZ (CX:=bL) (E:=E0) 0xB T.cl m4 G4 hr b4 .nil bC (aj (pv 4) aC)))) (aG (bM (bZ (CX:=bL) (E:=E0) 0xB T.cl m5 G5 hr b5 .nil bC (aj (pv 4) 0x90))))))))))),?_⟩
 cases ro with
 |land _=>cases hk
 |heir _ _=>cases hk
 |liege _ _=>cases hk
 |death a=>
 have dl:=WP.dl;refine⟨_,rfl,r,_,_,_,rfl,rfl,bN.of hx,aH (j:=2) rfl,?_⟩;refine⟨_,rfl,m.z,CR,m.dz,_,_,rfl,R.o,TR.cl,TR.n2,rfl,m.k,m.dk,_,rfl,R.K.o,rfl,_,rfl,m.k,m.dk,m.hh,m.gg,_,_,a,rfl,R.K,hok,by rw[qU];lia,?_⟩;have eg:putK (U9 W.dd) (.inr a) (.bl true)=U9 0x6A:=qT (g:=fun p:Str×Int=>p.1) (f:=fun _=>V.bl true) (a:=(a,dy)) hst;have ed:putK (Yg W.dd) (.inr a) (.int dy)=Yg 0x6A:=qT (g:=fun p:Str×Int=>p.1) (f:=fun p=>V.int p.2) (a:=(a,dy)) hst;rw[eg];have o1:gW m q H (upd H m.gg (.dK (U9 0x6A))):=gW.put S 7 rfl 0x5;have z1:=R.out o1 0x26 R.o;have x1:=R.out o1 0x26 hx;have D1:(upd H m.gg (.dK (U9 0x6A))) m.de=some (.dK (Yg W.dd)):=by rw[ak (bQ S 8 7 rfl rfl 0x5)];exact R.D
 refine⟨_,rfl,r,_,_,_,rfl,rfl,bN.of x1,aH (j:=1) rfl,_,rfl,m.z,CR,m.dz,_,_,rfl,z1,TR.cl,TR.n5,rfl,_,rfl,m.de,_,rfl,gK.k (k:=.inr a) D1 (bO (by rw[qU];lia)),?_⟩;rw[ed];have R2:=R.died (sV:=W.dd++[(a,dy)]) S;have o2:gW m q H _:=o1.trans (gW.put (a:=m.de) (o:=.dK (Yg 0x6A)) S 8 rfl 0x5);clear z1 x1 D1 eg ed o1;generalize upd (upd H m.gg (.dK (U9 0x6A))) m.de (.dK (Yg 0x6A))=H2 at R2 o2 ⊢;refine⟨_,rfl,m.z,CR,m.dz,_,_,rfl,R2.o,TR.cl,TR.n2,rfl,m.k,m.dk,_,rfl,R2.K.o,rfl,_,rfl,m.k,m.dk,m.hh,m.gg,_,_,ZS W.hs,(fun z=>decide (z∈W.gone++[a])),a,rfl,R2.K,U5 WP.hv,(fun z=>?_),by have:=WP.hl;show W.hs.length<=900;lia,fun t H3 s3 tk=>?_⟩
 ·rw[R2.dead]
  show decide (z∈(0x6A).map _)=_
  rw[j9];rfl
 have R3:=R2.same s3;have W0:=WP.E.P.W;have ln:=WP.E.P.ln;refine⟨_,rfl,m.z,CR,m.dz,_,_,rfl,R3.o,TR.cl,TR.n1,rfl,q.x,q.dx,_,rfl,R3.L.o,rfl,_,rfl,q.x,q.dx,q.a1,q.a2,q.a3,q.a4,q.a5,_,_,_,_,_,a,rfl,R3.L,Tc,ZM,by rw[jx];show W.es.length<64;lia,fun D ss H4 s4 sX hD hp hs=>?_⟩
 have hb:vN W.es a ss:=by
  refine⟨?_,hs⟩;rw[Ak]at hp;have ef:(W.es.filter fun e=>decide (V.str e.man=V.str a))=W.es.filter fun y=>decide (y.man=a):=A2x fun y _=>gZ;rw[<-ef];exact hp
 have s34:=s3.trans s4;have tr:∀h,t=some h->PyData.strOk h=true:=fun h e=>Tk.ok (Pr:=fun z=>PyData.strOk z=true) (fun _ _=>oH WP.hv) tk (fun z e=>oH WP.hv e) h e;refine⟨D,rfl,⟨_,bY.of hD⟩,gA (K:=K) (a:=D) (xs:=ss.map V.str) (fun i σ Hx=>∃(u4:Option V)(e1:List aQ),σ=[some (.ref m.z),some 0x60,some (.str a),some (rP t),u4]/\Hx D=some 0x35/\cR CR CK C Hx m q ⟨e1,W.ks,W.hs,W.dd++[(a,dy)],W.lg⟩/\Fo t W.es (ss.take i) e1/\(∀e∈e1,je Hx e.ta e.due.1 e.due.2)/\gW m q H Hx)
  ⟨none,W.es,rfl,hD,R3.same s4,.nil,fun e he=>s34 _ _ (R.out o2 0x26 0x86),o2.trans (gW.same s34)⟩ (fun i σ Hx _ h=>by obtain⟨_,_,_,h,_⟩:=h;exact bY.of h) ?_ ?_⟩
 ·rintro i v σ Hx hv ⟨u4,e1,rfl,uc,Rx,fo,fx,ox⟩;rw[pF]at hv;obtain⟨n,hn,rfl⟩:=A0J.mp hv;obtain⟨hne,y,hy,rfl⟩:=Fo.next hb W0.nd WP.E.cr hok fo hn;have PU:=(fo.eo WP.E tr hls).P;have tk':ss.take (i+1)=ss.take i++[y.n]:=by rw[A1e,hn];rfl
  have fin:∀H',Ln C q H' (stp y e1 0 0 0 0 (vM t y.n))->wY q Hx H'->∃(u4:Option V)(e2:List aQ),[some (.ref m.z),some 0x60,some (.str a),some (rP t),some (V.str y.n)]=[some (V.ref m.z),some 0x60,some (.str a),some (rP t),u4]/\H' D=some 0x35/\cR CR CK C H' m q ⟨e2,W.ks,W.hs,W.dd++[(a,dy)],W.lg⟩/\Fo t W.es (ss.take (i+1)) e2/\(∀e∈e2,je H' e.ta e.due.1 e.due.2)/\gW m q H H':=fun H' L' o'=>by
   refine⟨_,_,rfl,o' D _ (aO uc Rx.L.l1 0x6) (aO uc Rx.L.l2 0x6) (aO uc Rx.L.l3 0x6) (aO uc Rx.L.l4 0x6) (aO uc Rx.L.l5 0x6) uc,Rx.a1H S o' L',by rw[tk'];exact .snoc fo hy hne,?_,ox.trans (o'.Ax S)⟩;exact jq (u1:=0) (u2:=0) (·.ta) PU.W.nd (La (ks:=W.ks) hy) (fun e he=>Rx.out (o'.Ax S) 0x26 (fx e he)) TX.die 0x2 0x2 0x2 0x47 (fun _ _ _ _ _=>by cases t<;>rfl) (fun _ _ _ _=>by cases t<;>rfl)
  refine⟨_,rfl,rfl,_,rfl,?_⟩;rw[El];cases t with
  | none=>
   refine cW ?_;refine⟨_,rfl,m.z,CR,m.dz,_,_,rfl,Rx.o,TR.cl,TR.n1,rfl,q.x,q.dx,_,rfl,Rx.L.o,rfl,_,rfl,?_⟩;dsimp only[lC,List.cons_append,List.nil_append];refine KH (E:=E0) PU Rx.L S.a5 fx ⟨hy,rfl⟩ hne hls hj fun t1 t2 H' hL _ o'=>?_;exact fin H' (hL 0 0) o'
  | some h=>
   refine cg ?_;refine⟨_,rfl,m.z,CR,m.dz,_,_,rfl,Rx.o,TR.cl,TR.n1,rfl,q.x,q.dx,_,rfl,Rx.L.o,rfl,_,rfl,_,rfl,?_⟩;dsimp only[lC,List.cons_append,List.nil_append,rP];refine yL (E:=E0) PU Rx.L S.a5 fx ⟨hy,rfl⟩ hne hls hj fun t1 t2 H' hL _ o'=>?_;exact fin H' (hL 0 0) o'
 ·rintro σ Hx ⟨u4,e1,rfl,uc,Rx,fo,fx,ox⟩;rw[cM,A1f]at fo;exact k _ _ (.di hst tk hb fo) Rx fx ox
theorem Ia{α β:Type}{f:α->β}:∀{l:List α}{a b:α},(l.map f).Nodup->a∈l->b∈l->f a=f b->a=b
 | x::r,a,b,nd,ha,hb,e=>by
  rw[A0h,A0L]at nd;rcases A0d.mp ha with h1|h1<;>rcases A0d.mp hb with h2|h2
  ·rw[h1,h2]
  ·exact absurd (by rw[<-h1,e];exact A0e.mpr ⟨b,h2,rfl⟩) nd.1
  ·exact absurd (by rw[<-h2,<-e];exact A0e.mpr ⟨a,h1,rfl⟩) nd.1
  ·exact Ia nd.2 h1 h2 e
def ZW{α:Type}{l:List α}{h:α}(hn:l.Nodup)(hh:h∉l):(l++[h]).Nodup:=by
 rw[A2y];exact⟨hn,by simp,fun a ha b hb z=>hh (by rw[A0b]at hb;rw[<-hb,<-z];exact ha)⟩
inductive Ui(C:Addr)(vs:List V)(H:Hp)(Q:VK)(cH:XK):Prop
 |mk(q:Ad)(es:List aQ)(m l:Str)(_:vs=[.ref q.x,.str m,.str l])(_:Ln C q H es)(_:WF es)(_:es.length<64)(_:m≠"")(_:(∀e∈es,e.n=""->e.man=""))(_:∀(b:Bool)(H':Hp),Same H H'->(b=true↔Bound es m l)->Q (.bl b) H'):Ui C vs H Q cH
def ZX:aP ["ground","man","lord","estate"] ["ground","man","lord"] (aJ a1D):=0x0
def a1K(T:fK K C)(F:fj K "is_bound" "is_bound" a1D f fd) 
  (G1:aL P w K mg base bL 1 g1 d1 A5h (zX C))(m1:Meth K C "held" g1)(b1:Binds K d1 A5h [])
  (G2:aL P w K mg base bL 3 g2 d2 A5c (v9 C))(m2:Meth K C "holder" g2)(b2:Binds K d2 A5c [])
  (G3:aL P w K mg base bL 3 g3 d3 A5c (GJ C))(m3:Meth K C "lord" g3)(b3:Binds K d3 A5c []):
  aL P w K mg base bL 4 f fd ["ground","man","lord"] (Ui C):=by
 refine F.ok ZX 0x1 0x3;obtain⟨q,es,m,l,rfl,L,W,h64,hm,hcr,k⟩:=h;have hr1:cG 1 _:=hr.mono 0x5;refine⟨_,aq (gF A0Q rfl (fu (bZ (CX:=bL) (E:=E0) 0x32 T.cl m1 G1 hr1 b1 .nil bC 0x2C)) (bB (i:=3) ZX.nd rfl 0x8)
   (aG (bK (aU fJ (bZ (CX:=bL) (E:=E0) 0x32 T.cl m2 G2 hr b2 .nil bC (aj (bZ (CX:=bL) (E:=E0) 0x32 T.cl m3 G3 hr b3 .nil bC 0x90) aC)) 0x3B 0x61) (aG (aZ jX)) aR)))
  (aG (aZ jX)),?_⟩
 refine⟨_,rfl,q.x,q.dx,_,rfl,L.o,rfl,_,rfl,q.x,q.dx,q.a1,q.a2,q.a3,q.a4,q.a5,_,_,_,_,_,m,rfl,L,Tc,ZM,by rw[jx];exact h64,fun D ss H1 s1 sX hD hp hs=>?_⟩;rw[Ak]at hp;have ef:(es.filter fun e=>decide (V.str e.man=V.str m))=es.filter fun y=>decide (y.man=m):=A2x fun y _=>gZ;rw[ef]at hp;refine⟨D,rfl,⟨_,bY.of hD⟩,gA (K:=K) (a:=D) (xs:=ss.map V.str) (fun i σ Hx=>∃(u3:Option V),σ=[some (.ref q.x),some (.str m),some (.str l),u3]/\Hx=H1/\∀n∈ss.take i,∀y∈es,y.n=n->∀z∈es,y.lord=some z.n->z.man≠l)
  ⟨none,rfl,rfl,fun n hn=>by rw[List.take_zero]at hn;cases hn⟩ (fun i σ Hx _ h=>by obtain⟨_,_,h,_⟩:=h;rw[h];exact bY.of hD) ?_ ?_⟩
 ·rintro i v σ Hx hv ⟨u3,rfl,rfl,inv⟩;rw[pF]at hv;obtain⟨n,hn,rfl⟩:=A0J.mp hv;obtain⟨y,hy,rfl⟩:=A0e.mp (hp.mem_iff.mp (wU hn));have hy:=A0w.mp hy;have ym:y.man=m:=qg hy.2;have hne:y.n≠"":=fun z=>hm (ym.symm.trans (hcr y hy.1 z));obtain⟨p,hp1,hp2,_⟩:=W.lord y hy.1 hne;obtain⟨z,hz,Ht⟩:=dF hp2;have L1:=L.same s1;have v1:=dg (f:=fun e=>lU e.lord) W.nd hy.1;rw[hp1]at v1;have v2:=dg (f:=fun e=>V.str e.man) W.nd hz;rw[Ht]at v2;have tk':ss.take (i+1)=ss.take i++[y.n]:=by rw[A1e,hn];rfl
  refine⟨_,rfl,q.x,q.dx,_,rfl,L1.o,rfl,_,rfl,q.x,q.dx,_,rfl,L1.o,rfl,_,rfl,q.x,q.dx,q.a1,q.a2,q.a3,q.a4,q.a5,_,_,_,_,_,y.n,_,rfl,L1,by rw[gU];exact A0k (A0e.mpr ⟨y,hy.1,rfl⟩),v1,q.x,q.dx,q.a1,q.a2,q.a3,q.a4,q.a5,_,_,_,_,_,p,_,rfl,L1,by rw[gU];exact A0k hp2,v2,_,rfl,rfl,_,rfl,?_⟩;rw[gZ];refine iu 0x3C 0x3C
  ·have e:=qg c;exact k true _ s1 ⟨fun _=>⟨y,hy.1,ym,hne,z,hz,by rw[hp1,Ht],e⟩,fun _=>rfl⟩
  ·have ne:z.man≠l:=fun e=>c (A0k e);refine⟨_,rfl,rfl,fun n' hn' y' hy' e1 z' hz' e2=>?_⟩;rw[tk']at hn';rcases A0l.mp hn' with a|a
   ·exact inv n' a y' hy' e1 z' hz' e2
   ·rw[A0b.mp a]at e1;have:=gC W.nd hy' hy.1 e1;subst this;rw[hp1]at e2;injection e2 with e2;have:=gC W.nd hz' hz (e2.symm.trans Ht.symm);subst this;exact ne
 ·rintro σ Hx ⟨u3,rfl,rfl,inv⟩;rw[cM,A1f]at inv;refine k false _ s1 ⟨fun e=>(by cases e),fun⟨y,hy,h1,h2,z,hz,h3,h4⟩=>absurd h4 (inv y.n ?_ y hy rfl z hz h3)⟩;exact hp.mem_iff.mpr (A0e.mpr ⟨y,A0w.mpr ⟨hy,A0k h1⟩,rfl⟩)
def Uj:aP ["realm","row","man","lord"] A5b (aJ a1C):=0x0
inductive uf(CR CK C:Addr)(vs:List V)(H:Hp)(Q:VK)(cH:XK):Prop
 |mk(m:Rm)(q:Ad)(W:M.Wo)(r:Addr)(ls:List Str)(j:Nat)(wd:Int)(ro:M.Ro)(dy:Int)(_:vs=[.ref m.z,.ref r])(_:cR CR CK C H m q W)(_:Wp W ls j wd)(_:j<=60)(_:H r=some (.tup 0x7A))(_:Yj ro=true)(_:Ro.Ok ls ro)(_:∀(w:Str)(H':Hp),Same H H'->Wd2 W dy ro w->Q (.str w) H'):uf CR CK C vs H Q cH
def a1L(TK:tL K CK)(T:fK K C)(TR:gP K CR)(F:fj K "word_of_liege" "word_of_liege" a1C f fd)(mS:mg "STANDS"=some (.str "stands" tS)) 
  (G1:aL P w K mg base bL 4 g1 d1 ["ground","man","lord"] (Ui C))(M1:Ms K mg "is_bound" g1 d1 ["ground","man","lord"])
  (G2:aL P w K mg base bL 1 g2 d2 A5h (q9 CK))(m2:Meth K CK "is_dead" g2)(b2:Binds K d2 A5h []):
  aL P w K mg base bL 5 f fd A5b (uf CR CK C):=by
 refine F.ok Uj 0x1 0x3;obtain⟨m,q,W,r,ls,j,wd,ro,dy,rfl,R,WP,hj,hx,hk,hok,k⟩:=h;have hr1:cG 1 _:=hr.mono 0x5;refine⟨_,aq (nP (eG qK 0xF (cU aA) iI) (jN rfl (bR (bB (i:=2) Uj.nd rfl 0x8) (bR (bB (i:=3) Uj.nd rfl 0x8) gJ))))
  (aq (bK (dJ (bZ (CX:=bL) (E:=E0) 0xB TK.cl m2 G2 hr1 b2 .nil bC 0x65)) 0x84 aR)
  (aq (bK (ig (dJ (bG G1 hr rfl M1.m M1.k M1.b .nil bC (aj 0xB (aj 0x3B 0x90))))) 0x84 aR)
  (aG (aZ (cj rfl mS ⟨_,rfl⟩ (v:=.str "stands")))))),?_⟩
 cases ro with
 |land _=>cases hk
 |heir _ _=>cases hk
 |death _=>cases hk
 |liege a b=>
 refine⟨_,rfl,_,rfl,r,_,rfl,bN.of hx,fun p H1 ho=>?_⟩;obtain⟨hp,s1⟩:=jP ho;refine⟨p,[.str a,.str b],rfl,hp,rfl,_,_,rfl,_,_,rfl,rfl,?_⟩;have R1:=R.same s1;clear ho hp;refine⟨_,rfl,m.z,CR,m.dz,_,_,rfl,R1.o,TR.cl,TR.n2,rfl,m.k,m.dk,_,rfl,R1.K.o,rfl,_,rfl,m.k,m.dk,m.hh,m.gg,_,_,_,rfl,R1.K,_,rfl,?_⟩;rw[R1.dead]
 by_cases hd:a∈W.gone
 ·rw[A0k hd];exact cW (k _ _ s1 (.inl ⟨by decide+kernel,.ld hd⟩))
 rw[A0p hd];refine cg ?_;have ln:=WP.E.P.ln;refine⟨_,rfl,m.z,CR,m.dz,_,_,rfl,R1.o,TR.cl,TR.n1,rfl,_,rfl,_,rfl,q,W.es,a,b,rfl,R1.L,WP.E.P.W,by lia,hok,WP.E.cr,fun v H2 s2 hv=>⟨_,rfl,?_⟩⟩;cases v with
 |false=>exact cW (k _ _ (s1.trans s2) (.inl ⟨by decide+kernel,.lb hd fun c=>by have:=hv.mpr c;cases this⟩))
 |true=>exact cg (k _ _ (s1.trans s2) (.inr ⟨rfl,hd,hv.mp rfl⟩))
def a3C:aP A5b A5b (aJ a1E):=0x0
def a3D(TR:gP K CR)(F:fj K "do_liege" "do_liege" a1E f fd):aL P w K mg base bL 5 f fd A5b (eV CR CK C Yj):=by
 refine F.ok a3C 0x1 0x3;obtain⟨m,q,W,ls,j,r,ro,dy,wd,rfl,R,S,WP,fr,hst,hok,htx,hls,hj,hx,hk,k⟩:=h;refine⟨_,aG (bM (j8 A0K A0R A0S dw (Ej 0xB 0x1A (cL aC) ⟨rfl,rfl,rfl,rfl⟩)
  (aj (cu (aj 0x1A 0x82)) aC))),?_⟩
 cases ro with
 |land _=>cases hk
 |heir _ _=>cases hk
 |death _=>cases hk
 |liege a b=>
 obtain⟨gs,G⟩:=R.G;have gl:=WP.gl;refine⟨_,rfl,m.z,CR,m.dz,_,_,rfl,R.o,TR.cl,TR.n4,rfl,m.li,rfl,.inl ⟨_,.inl G.d⟩,_,rfl,r,_,_,_,rfl,rfl,bN.of hx,aH (j:=2) rfl,small 0xA,fun e he=>?_⟩
 apply 0o1 H e he se e1 H1
 have flt:∀{n:Str},(W.lg++[(a,dy,b)]).filter (fun e=>decide (e.1=n))=W.lg.filter (fun e=>decide (e.1=n))++if a=n then[(a,dy,b)]else[]:=fun{n}=>by
  rw[A2T]
  congr 1
  by_cases c:a=n
  ·rw[A0i c];simp[c]
  ·rw[A0f c];simp[c]
 refine⟨_,.inr a,se _ _ G.d,rfl,bO (by rw[qU];have:=G.ln;lia),fun v hv=>?_,fun hn=>?_⟩
 ·obtain⟨p,hp,hpa,rfl⟩:=Ua hv;obtain⟨ts,hl,hpr⟩:=G.lt p hp;have hl1:=se _ _ hl;refine⟨.inl ⟨rfl,_,bY.of hl1⟩,_,rfl,r,_,_,_,rfl,rfl,bN.of (se _ _ hx),aH (j:=1) rfl,_,rfl,r,_,_,_,rfl,rfl,bN.of (se _ _ hx),aH (j:=3) rfl,small 0xA,fun t ht=>?_⟩
  apply 0o1 H1 t ht st t1 H2
  have s2:=se.trans st;have hl2:=s2 _ _ hl;have tl:ts.length<=W.lg.length:=by rw[A2Y hpr];exact A0N _ _
  refine⟨p.2,_,_,rfl,rfl,hl2,bO (by rw[cM];lia),?_⟩;have el:ts.map V.ref++[V.ref t]=(ts++[t]).map V.ref:=by rw[j9];rfl
  rw[el];have tk:∀{c:Addr}{xs:List V},H c=some 0x23->(upd H2 p.2 (.lst ((ts++[t]).map V.ref))) c=some 0x23:=fun h=>by rw[ak (aO (s2 _ _ h) hl2 0x6)];exact s2 _ _ h
  have nd:m.li≠p.2:=aO (s2 _ _ G.d) hl2 0x6;have fx:∀c u,c≠p.2->c≠m.li->H c=some u->(upd H2 p.2 (.lst ((ts++[t]).map V.ref))) c=some u:=fun c u h1 _ h=>by rw[ak h1];exact s2 _ _ h
  have G':a1F (upd H2 p.2 (.lst ((ts++[t]).map V.ref))) m.li (W.lg++[(a,dy,b)]) gs:=by
   refine⟨by rw[ak nd];exact s2 _ _ G.d,G.nm,G.na,fun p' hp'=>?_,fun e' he'=>?_,by rw[iD];have:=G.ln;lia⟩
   ·rw[flt]
    by_cases c:p'=p
    ·subst c;rw[A0i hpa.symm];exact⟨_,ao,A4w (Paired.imp' (fun t e h=>tk h) hpr) (by rw[ak (aO t1 hl2 0x6)];exact t1)⟩
    ·have c1:a≠p'.1:=fun z=>c (Ia G.nm hp' hp (by rw[<-z,hpa]));have c2:p'.2≠p.2:=fun z=>c (Ia G.na hp' hp z);rw[A0f c1,A1t];obtain⟨ts',h1,h2⟩:=G.lt p' hp';exact⟨ts',by rw[ak c2];exact s2 _ _ h1,Paired.imp' (fun t e h=>tk h) h2⟩
   ·rcases A0l.mp he' with c|c
    ·exact G.all e' c
    ·rw[A0b.mp c,<-hpa];exact A0e.mpr ⟨p,hp,rfl⟩
  have o2:gW m q H (upd H2 p.2 (.lst ((ts++[t]).map V.ref))):=fun c u hc n e=>by
   obtain⟨kvs,n1,n2⟩:=n;have ne:c≠p.2:=fun z=>by
    rw[G.d]at n1;injection n1 with n1;injection n1 with n1;refine n2 (.inr p.1) ?_;rw[<-n1,z];exact A0e.mpr ⟨p,hp,rfl⟩
   exact⟨by rw[ak ne];exact s2 _ _ e,kvs,by rw[ak nd];exact s2 _ _ n1,n2⟩
  exact k _ _ (.lr hst.1 hst.2) (R.liege S (.inr ⟨_,hl⟩) fx ⟨gs,G'⟩) (fun e he=>R.out o2 0x26 0x86) o2
 ·have hna:a∉gs.map (·.1):=fun c=>by
   have:=HS (g:=fun p:Str×Addr=>p.1) (f:=fun p=>V.ref p.2) (n:=a) gs;rw[hn,A0k c]at this;cases this
  have ep:putK (xg (·.1) 0x8C gs) (.inr a) (.ref e)=xg (·.1) 0x8C (gs++[(a,e)]):=qT (g:=fun p:Str×Addr=>p.1) (f:=fun p=>V.ref p.2) (a:=(a,e)) hna;rw[ep];have nd:e≠m.li:=A0m (au G.d he);have d1:(upd H1 m.li (.dK (xg (·.1) 0x8C (gs++[(a,e)])))) m.li=some (.dK (xg (·.1) 0x8C (gs++[(a,e)]))):=ao;have k1:∀c u,c≠m.li->H1 c=some u->(upd H1 m.li (.dK (xg (·.1) 0x8C (gs++[(a,e)])))) c=some u:=fun c u h1 h=>by rw[ak h1];exact h
  generalize upd H1 m.li (.dK (xg (·.1) 0x8C (gs++[(a,e)])))=H2 at d1 k1 ⊢;have e2:=k1 _ _ nd e1;have x2:=k1 _ _ (aO hx G.d 0x6) (se _ _ hx);refine⟨.inl ⟨rfl,_,bY.of e2⟩,_,rfl,r,_,_,_,rfl,rfl,bN.of x2,aH (j:=1) rfl,_,rfl,r,_,_,_,rfl,rfl,bN.of x2,aH (j:=3) rfl,small 0xA,fun t ht=>?_⟩
  apply 0o1 H2 t ht st t1 H3
  have e3:=st _ _ e2;refine⟨e,_,_,rfl,rfl,e3,bO 0x5,?_⟩;have fx:∀c u,c≠e->c≠m.li->H c=some u->(upd H3 e (.lst ([t].map V.ref))) c=some u:=fun c u h1 h2 h=>by rw[ak h1];exact st _ _ (k1 _ _ h2 (se _ _ h))
  have tk:∀{c:Addr}{xs:List V},H c=some 0x23->(upd H3 e (.lst ([t].map V.ref))) c=some 0x23:=fun h=>fx _ _ (au h he) (aO h G.d 0x6) h;have d3:(upd H3 e (.lst ([t].map V.ref))) m.li=some (.dK (xg (·.1) 0x8C (gs++[(a,e)]))):=by rw[ak (A0m nd)];exact st _ _ d1
  have ge:∀p∈gs,p.2≠e:=fun p hp z=>by
   obtain⟨ts,h1,_⟩:=G.lt p hp;rw[z,he]at h1;cases h1
  have G':a1F (upd H3 e (.lst ([t].map V.ref))) m.li (W.lg++[(a,dy,b)]) (gs++[(a,e)]):=by
   refine⟨d3,by rw[j9];exact ZW G.nm hna,by rw[j9];exact ZW G.na (fun c=>by obtain⟨p,hp,z⟩:=A0e.mp c;exact ge p hp z),fun p' hp'=>?_,fun e' he'=>?_,by rw[iD,iD];exact A2K G.ln⟩
   ·rw[flt];rcases A0l.mp hp' with c|c
    ·have c1:a≠p'.1:=fun z=>hna (z▸ A0e.mpr ⟨p',c,rfl⟩);rw[A0f c1,A1t];obtain⟨ts',h1,h2⟩:=G.lt p' c;exact⟨ts',fx _ _ (ge p' c) (aO h1 G.d 0x6) h1,Paired.imp' (fun t e h=>tk h) h2⟩
    ·rw[A0b.mp c,A0i rfl];have:W.lg.filter (fun e=>decide (e.1=a))=[]:=List.filter_eq_nil_iff.mpr fun x hx z=>hna (by rw[<-qg z];exact G.all x hx);rw[this];exact⟨[t],ao,.cons (by rw[ak (aO t1 e3 0x6)];exact t1) .nil⟩
   ·rcases A0l.mp he' with c|c
    ·rw[j9];exact A0W _ (G.all e' c)
    ·rw[A0b.mp c,j9];exact A0G _ (A0b.mpr rfl)
  have o2:gW m q H (upd H3 e (.lst ([t].map V.ref))):=fun c u hc n hcu=>by
   obtain⟨kvs,n1,n2⟩:=n;have nm:c≠m.li:=fun z=>hc (by rw[z];simp[lF]);have ne:c≠e:=au hcu he;refine⟨fx _ _ ne nm hcu,_,d3,fun k' hk'=>?_⟩;rw[G.d]at n1;injection n1 with n1;injection n1 with n1;unfold xg at hk';rw[j9]at hk';rcases A0l.mp hk' with c'|c'
   ·exact n2 k' (n1▸ c')
   ·have:=A0b.mp c';injection this with _ z;injection z with z;exact ne z
  exact k _ _ (.lr hst.1 hst.2) (R.liege S (.inl he) fx ⟨_,G'⟩) (fun e he=>R.out o2 0x26 0x86) o2
inductive Ay(CR CK C:Addr)(vs:List V)(H:Hp)(Q:VK)(cH:XK):Prop
 |mk(m:Rm)(q:Ad)(W:M.Wo)(ls:List Str)(j:Nat)(r:Addr)(ro:M.Ro)(dy wd:Int)(_:vs=[.ref m.z,.ref r])(_:cR CR CK C H m q W)(_:Sep m q)(_:Wp W ls j wd)(_:(∀e∈W.es,je H e.ta e.due.1 e.due.2))(_:Ro.Ok ls ro)(_:Ro.Tx ro)(_:0x62)(_:j<=60)(_:H r=some (.tup 0x7A))(_:∀w W' H',Jo W dy ro w W'->cR CR CK C H' m q W'->(∀e∈W'.es,je H' e.ta e.due.1 e.due.2)->gW m q H H'->Q (.str w) H'):Ay CR CK C vs H Q cH
def SPw(CR CK C fN fL fB fC fS:Addr)(f:Addr)(sp:Sp):Prop:=(f=fN/\sp=iR CR CK C isNew)\/(f=fL/\sp=iR CR CK C fun ro=>O5 ro||O6 ro)\/(f=fB/\sp=uf CR CK C)\/(f=fC/\sp=iR CR CK C vP)\/(f=fS/\sp=iR CR CK C vQ)
def SPd(CR CK C fG fH fD fB fP fC fS:Addr)(f:Addr)(sp:Sp):Prop:=(f=fG/\sp=eV CR CK C Ub)\/(f=fH/\sp=eV CR CK C O5)\/(f=fD/\sp=eV CR CK C O6)\/(f=fB/\sp=eV CR CK C Yj)\/(f=fP/\sp=eV CR CK C Uc)\/(f=fC/\sp=eV CR CK C vP)\/(f=fS/\sp=eV CR CK C vQ)
def Lb{h:Str}{A:Prop}(h1:h=l->A)(h2:h≠l->B):if decide (V.str h=V.str l)=true then A else B:=by
 refine iu (fun c=>h1 ?_) fun c=>h2 fun z=>c (A0k (by rw[z]));have:=qg c;injection this
def ug:aP ["realm","row","asked","word","deed"] A5b (aJ vO):=0x0
structure Tabs(K:PySem.W.Frag)(P:Params)(mg:Str->Option Value)(wN wL wB wC wS dG dH dD dB dP dC dS:Addr):Prop where
 words:∃a,mg "WORDS"=some 0x4E/\KD K P a [("heir",.ref wL),("grant",.ref wN),("part",.ref wN),("convey",.ref wC),("liege",.ref wB),("surrender",.ref wS),("death",.ref wL)]
 a3E:∃a,mg "DEEDS"=some 0x4E/\KD K P a [("heir",.ref dH),("grant",.ref dG),("part",.ref dP),("convey",.ref dC),("liege",.ref dB),("surrender",.ref dS),("death",.ref dD)]
def Uk{f0:Addr}(F:fj K "judge" "judge" vO f0 fd)(mS:mg "STANDS"=some (.str "stands" tS)){h1 h2 h3 h4 h5 h6 h7:Addr}{e1 e2 e3 e4 e5 e6 e7:FuncData}(TB:Tabs K w.params mg g1 g2 g3 g4 g5 h1 h2 h3 h4 h5 h6 h7)
  (G1:aL P w K mg base bL 4 g1 d1 A5b (iR CR CK C isNew))(M1:Ms K mg "word_of_new" g1 d1 A5b)
  (G2:aL P w K mg base bL 4 g2 d2 A5b (iR CR CK C fun ro=>O5 ro||O6 ro))(M2:Ms K mg "word_of_living" g2 d2 A5b)
  (G3:aL P w K mg base bL 5 g3 d3 A5b (uf CR CK C))(M3:Ms K mg "word_of_liege" g3 d3 A5b)
  (G4:aL P w K mg base bL 4 g4 d4 A5b (iR CR CK C vP))(M4:Ms K mg "word_of_convey" g4 d4 A5b)
  (G5:aL P w K mg base bL 4 g5 d5 A5b (iR CR CK C vQ))(M5:Ms K mg "word_of_surrender" g5 d5 A5b)
  (D1:aL P w K mg base bL 5 h1 e1 A5b (eV CR CK C Ub))(N1:Ms K mg "do_grant" h1 e1 A5b)
  (D2:aL P w K mg base bL 5 h2 e2 A5b (eV CR CK C O5))(N2:Ms K mg "do_heir" h2 e2 A5b)
  (D3:aL P w K mg base bL 5 h3 e3 A5b (eV CR CK C O6))(N3:Ms K mg "do_death" h3 e3 A5b)
  (D4:aL P w K mg base bL 5 h4 e4 A5b (eV CR CK C Yj))(N4:Ms K mg "do_liege" h4 e4 A5b)
  (D5:aL P w K mg base bL 5 h5 e5 A5b (eV CR CK C Uc))(N5:Ms K mg "do_part" h5 e5 A5b)
  (D6:aL P w K mg base bL 5 h6 e6 A5b (eV CR CK C vP))(N6:Ms K mg "do_convey" h6 e6 A5b)
  (D7:aL P w K mg base bL 5 h7 e7 A5b (eV CR CK C vQ))(N7:Ms K mg "do_surrender" h7 e7 A5b):
  aL P w K mg base bL 6 f0 fd A5b (Ay CR CK C):=by
 obtain⟨aW,mW,kW⟩:=TB.words;obtain⟨aD,mD,kD⟩:=TB.a3E;refine F.ok ug 0x1 0x3;obtain⟨m,q0,W,ls,j,r,ro,dy,wd,rfl,R,S,WP,fr,hok,htx,hls,hj,hx,k⟩:=h;have DK:cG 4 _:=hr.mono 0x5;have hS1:∀f sp,SPw CR CK C g1 g2 g3 g4 g5 f sp->∃(k:Nat)(fd:FuncData)(ps:List Str),aL P w K mg base bL k f fd ps sp/\cG k (A.deeper (envOfC "judge" (aJ vO) s.heap.objs.size f0 cdv))/\PySem.W.keepIn K 0x48=true/\L2.Binds K fd ps []:=by
  rintro f sp (⟨rfl,rfl⟩|⟨rfl,rfl⟩|⟨rfl,rfl⟩|⟨rfl,rfl⟩|⟨rfl,rfl⟩)
  ·exact⟨4,d1,_,G1,DK,M1.k,M1.b⟩
  ·exact⟨4,d2,_,G2,DK,M2.k,M2.b⟩
  ·exact⟨5,d3,_,G3,hr,M3.k,M3.b⟩
  ·exact⟨4,d4,_,G4,DK,M4.k,M4.b⟩
  ·exact⟨4,d5,_,G5,DK,M5.k,M5.b⟩
 have hS2:∀f sp,SPd CR CK C h1 h2 h3 h4 h5 h6 h7 f sp->∃(k:Nat)(fd:FuncData)(ps:List Str),aL P w K mg base bL k f fd ps sp/\cG k (A.deeper (envOfC "judge" (aJ vO) s.heap.objs.size f0 cdv))/\PySem.W.keepIn K 0x48=true/\L2.Binds K fd ps []:=by
  rintro f sp (⟨rfl,rfl⟩|⟨rfl,rfl⟩|⟨rfl,rfl⟩|⟨rfl,rfl⟩|⟨rfl,rfl⟩|⟨rfl,rfl⟩|⟨rfl,rfl⟩)
  ·exact⟨5,e1,_,D1,hr,N1.k,N1.b⟩
  ·exact⟨5,e2,_,D2,hr,N2.k,N2.b⟩
  ·exact⟨5,e3,_,D3,hr,N3.k,N3.b⟩
  ·exact⟨5,e4,_,D4,hr,N4.k,N4.b⟩
  ·exact⟨5,e5,_,D5,hr,N5.k,N5.b⟩
  ·exact⟨5,e6,_,D6,hr,N6.k,N6.b⟩
  ·exact⟨5,e7,_,D7,hr,N7.k,N7.b⟩
 refine⟨_,aq (aV (i:=2) ug.nd rfl 0x8 (aN K8 (cj rfl mW rfl (v:=.ref aW)) 0x1A 0x2))
  (aq (aV (i:=3) ug.nd rfl 0x8 (Eh (CX:=bL) (E:=E0) 0x3B hS1 bC (aj 0x32 0x2C)))
  (aq (bK (aU fJ 0x52 (cj rfl mS ⟨_,rfl⟩ (v:=.str "stands")) 0x61)
   (aq (aV (i:=4) ug.nd rfl 0x8 (aN K8 (cj rfl mD rfl (v:=.ref aD)) 0x1A 0x2))
   (aG (bM (Eh (CX:=bL) (E:=E0) (pv 4) hS2 bC (aj 0x32 0x2C))))) aR)
  (aG (aZ 0x52)))),?_⟩
 obtain⟨key,fw,fe,spw,okd,h0,lw,sw,o1,le,sd,o2⟩:∃(key:Str)(fw fe:Addr)(spw:Sp)(okd:Ro->Bool),(Ro.vs dy ro)[0]?=some (.str key)/\List.lookup key [(("heir":Str),V.ref g2),("grant",.ref g1),("part",.ref g1),("convey",.ref g4),("liege",.ref g3),("surrender",.ref g5),("death",.ref g2)]=some (.ref fw)/\SPw CR CK C g1 g2 g3 g4 g5 fw spw/\(∀(us:List V)(Q:VK)(E:XK),us=[.ref m.z,.ref r]->(∀(z:Str)(H1:Hp),Same H H1->Wd2 W dy ro z->Q (.str z) H1)->spw us H Q E)/\
   List.lookup key [(("heir":Str),V.ref h2),("grant",.ref h1),("part",.ref h5),("convey",.ref h6),("liege",.ref h4),("surrender",.ref h7),("death",.ref h3)]=some (.ref fe)/\SPd CR CK C h1 h2 h3 h4 h5 h6 h7 fe (eV CR CK C okd)/\okd ro=true:=by
  have wd1:∀{ok:Ro->Bool},ok ro=true->∀(us:List V)(Q:VK)(E:XK),us=[.ref m.z,.ref r]->(∀(z:Str)(H1:Hp),Same H H1->Wd2 W dy ro z->Q (.str z) H1)->iR CR CK C ok us H Q E:=fun h us Q E e q=>⟨m,q0,W,r,ro,dy,e,R,WP.E.P.W.nd,hx,h,q⟩;cases ro with
  | land rr=>
   cases rr with
   |grant e n mn a s=>exact⟨_,_,_,_,_,rfl,rfl,.inl ⟨rfl,rfl⟩,wd1 rfl,rfl,.inl ⟨rfl,rfl⟩,rfl⟩
   |part e n mn a=>exact⟨_,_,_,_,_,rfl,rfl,.inl ⟨rfl,rfl⟩,wd1 rfl,rfl,.inr (.inr (.inr (.inr 0x64))),rfl⟩
   |convey e mn=>exact⟨_,_,_,_,_,rfl,rfl,.inr (.inr (.inr 0x64)),wd1 rfl,rfl,.inr (.inr (.inr (.inr (.inr 0x64)))),rfl⟩
   |gq e=>exact⟨_,_,_,_,_,rfl,rfl,.inr (.inr (.inr (.inr ⟨rfl,rfl⟩))),wd1 rfl,rfl,.inr (.inr (.inr (.inr (.inr (.inr ⟨rfl,rfl⟩))))),rfl⟩
  |heir a b=>exact⟨_,_,_,_,_,rfl,rfl,.inr 0x64,wd1 rfl,rfl,.inr 0x64,rfl⟩
  |liege a b=>exact⟨_,_,_,_,_,rfl,rfl,.inr (.inr 0x64),(fun us Q E e q=>⟨m,q0,W,r,ls,j,wd,_,dy,e,R,WP,hj,hx,rfl,hok,q⟩),rfl,.inr (.inr (.inr 0x64)),rfl⟩
  |death a=>exact⟨_,_,_,_,_,rfl,rfl,.inr 0x64,wd1 rfl,rfl,.inr (.inr 0x64),rfl⟩
 refine⟨_,rfl,r,_,_,_,rfl,rfl,bN.of hx,aH (j:=0) h0,aW,_,_,_,rfl,rfl,kW,lw,?_⟩;refine⟨_,rfl,fw,_,rfl,sw,_,rfl,_,rfl,o1 _ _ _ rfl fun z H1 s1 hw=>?_⟩;have R1:=R.same s1;refine⟨_,rfl,rfl,_,rfl,Lb (fun e=>?_) (fun ne=>⟨_,rfl,?_⟩)⟩
 rotate_left
 ·rcases hw with⟨_,hw⟩|⟨e,_⟩
  ·exact k _ _ _ hw R1 (fun e he=>s1 _ _ 0x86) (gW.same s1)
  ·exact absurd e ne
 subst e;rcases hw with⟨ne,_⟩|⟨_,hst⟩
 ·exact absurd rfl ne
 refine⟨_,rfl,r,_,_,_,rfl,rfl,bN.of (s1 _ _ hx),aH (j:=0) h0,aD,_,_,_,rfl,rfl,kD,le,?_⟩;exact⟨_,rfl,fe,_,rfl,sd,_,rfl,_,rfl,m,q0,W,ls,j,r,ro,dy,wd,rfl,R1,S,WP,fun e he=>s1 _ _ 0x86,hst,hok,htx,hls,hj,s1 _ _ hx,o2,fun W' H2 J R2 f2 o=>⟨_,rfl,k _ _ _ J R2 f2 ((gW.same s1).trans o)⟩⟩
inductive Ib(CK:Addr)(vs:List V)(H:Hp)(Q:VK)(cH:XK):Prop
 |mk(k dk:Addr)(_:vs=[.ref k])(_:H k=some (.ins CK dk []))(_:∀hh gg H',(∀c o,c≠k->H c=some o->H' c=some o)->pN CK H' k dk hh gg [] []->H hh=none->H gg=none->hh≠gg->Q .non H'):Ib CK vs H Q cH
def Ie(n:Int)(t:Addr):aQ:=⟨"",none,"",n,n,(0,1),t,0⟩
def adL(x dx a1 a2 a3 a4 a5:Addr)(n:Int):Ad:=⟨x,dx,a1,a2,a3,a4,a5,0,0,0,0,0,0,0,0,0,[],n⟩
def W0(e:aQ):Wo:=⟨[e],[],[],[],[]⟩
inductive vR(CR CK C:Addr)(vs:List V)(H:Hp)(Q:VK)(cH:XK):Prop
 |mk(z dz:Addr)(n:Int)(_:vs=[.ref z,.int n])(_:H z=some (.ins CR dz []))(_:1<=n)(_:n<=9999)(_:∀(m:Rm)(q:Ad)(t:Addr)(H':Hp),m.z=z->m.dz=dz->q.wd=n->(∀c o,c≠z->H c=some o->H' c=some o)->cR CR CK C H' m q (W0 (Ie n t))->Sep m q->(∀a∈q.x::m.k::lF m q,H a=none)->je H' t 0 1->Q .non H'):vR CR CK C vs H Q cH
def Yl{x:Addr}{o1 o2:HO}(h:(upd (upd H dx o1) x o2) c=none):H c=none:=by
 by_cases h1:c=x
 ·rw[h1,ao]at h;cases h
 by_cases h2:c=dx
 ·rw[ak h1,h2,ao]at h;cases h
 rw[ak h1,ak h2]at h;exact h
def back{u:HO}(s:∀c o,c≠z->H c=some o->H1 c=some o)(hz:H1 z=some u)(h:H1 c=none):H c=none:=by
 cases hq:H c with
 |none=>rfl
 | some o=>
  by_cases e:c=z
  ·rw[e,hz]at h;cases h
  ·rw[s c o e hq]at h;cases h
def a1M:aP A5z A5z (aJ U0):=0x0
def Ym(T:tL K CK)(F:fj K "__init__" "Kin.__init__" U0 f fd):aL P w K mg base bL 1 f fd A5z (Ib CK):=by
 refine F.ok a1M 0x1 0x3;obtain⟨k,dk,rfl,hk,q⟩:=h;refine⟨_,aq (eF 0x32 jm rfl) (aG (eF 0x32 jm rfl)),?_⟩;intro hh e1;have n1:k≠hh:=au hk e1;refine⟨_,rfl,k,CK,dk,_,rfl,by rw[ak n1];exact hk,T.cl,T.n1,A0y rfl,?_⟩;generalize hH1:upd _ k _=H1;have x1:H1 k=some (.ins CK dk [("heir_of",.ref hh)]):=by rw[<-hH1,ao];rfl
 have p1:H1 hh=some (.dK []):=by rw[<-hH1,ak (A0m n1),ao]
 have f1:∀c o,c≠k->H c=some o->H1 c=some o:=fun c o hc ho=>by rw[<-hH1,ak hc,ak (au ho e1)];exact ho
 have b1:∀c,H1 c=none->H c=none:=fun c hc=>by
  cases hq:H c with
  |none=>rfl
  | some o=>
   by_cases z:c=k
   ·rw[z,x1]at hc;cases hc
   ·rw[f1 c o z hq]at hc;cases hc
 clear hH1;intro gg e2;have n2:k≠gg:=au x1 e2;have n3:hh≠gg:=au p1 e2;refine⟨_,rfl,k,CK,dk,_,rfl,by rw[ak n2];exact x1,T.cl,T.n2,A0y rfl,?_⟩;refine q hh gg _ (fun c o hc ho=>?_) ⟨by rw[ao];rfl,by rw[ak (A0m n1),ak n3];exact p1,by rw[ak (A0m n2),ao]⟩ e1 (b1 _ e2) n3;rw[ak hc,ak (au (f1 c o hc ho) e2)];exact f1 c o hc ho
def Ul:aP A5s A5s (aJ Aw):=0x0
def O9(T:fK K C)(TR:gP K CR)(F:fj K "__init__" "Realm.__init__" Aw f fd) 
  (G1:aL P w K mg base bL 3 g1 d1 A5s (Af C))(MK1:Mk K C g1)(mL:mg "Land"=some 0x59)(b1:Binds K d1 A5s [])
  (G2:aL P w K mg base bL 1 g2 d2 A5z (Ib CK))(MK2:Mk K CK g2)(mK:mg "Kin"=some (.ref CK))(b2:Binds K d2 A5z []):
  aL P w K mg base bL 5 f fd A5s (vR CR CK C):=by
 refine F.ok Ul 0x1 0x3;obtain⟨z,dz,n,rfl,hz,n1,n2,q⟩:=h;have DK:cG 4 _:=hr.mono 0x5;have hr2:cG 2 _:=hr.mono 0x5;refine⟨_,aq (eF 0x32 (zm (CX:=bL) (E:=E0) MK1 G1 DK rfl mL b1 .nil bC 0x2C) rfl)
  (aq (eF 0x32 (Qt (CX:=bL) (E:=E0) MK2 G2 hr2 rfl mK b2 .nil bC) rfl)
  (aq (eF 0x32 jm rfl) (aq (eF 0x32 jm rfl) (aG (eF 0x32 jm rfl))))),?_⟩
 refine⟨_,rfl,fun x dx hx0 hdx0 hne=>?_⟩;refine⟨x,dx,n,rfl,ao,n1,n2,fun a1 a2 a3 a4 a5 t H0 kx LA ap e1 e2 e3 e4 e5 et fr=>⟨rfl,?_⟩⟩;have s0:Same H H0:=fun c o hc=>kx c o (au hc hx0) (by rw[ak (au hc hx0),ak (au hc hdx0)];exact hc);have nz:∀{c:Addr},H c=none->c≠z:=fun h e=>by rw[e,hz]at h;cases h
 replace e1:=Yl e1
 replace e2:=Yl e2
 replace e3:=Yl e3
 replace e4:=Yl e4
 replace e5:=Yl e5
 replace et:=Yl et
 clear kx;refine⟨_,rfl,z,CR,dz,_,rfl,s0 _ _ hz,TR.cl,TR.n1,A0y rfl,?_⟩;generalize hH1:upd _ z _=H1;have z1:H1 z=some (.ins CR dz [("ground",.ref x)]):=by rw[<-hH1,ao];rfl
 have o1:∀c o,c≠z->H0 c=some o->H1 c=some o:=fun c o h1 h2=>by rw[<-hH1,ak h1];exact h2
 have L1:cA C H1 x dx a1 a2 a3 a4 a5 _ _ _ _ _:=⟨o1 _ _ (nz hx0) LA.o,o1 _ _ (nz e1) LA.l1,o1 _ _ (nz e2) LA.l2,o1 _ _ (nz e3) LA.l3,o1 _ _ (nz e4) LA.l4,o1 _ _ (nz e5) LA.l5⟩;have t1:je H1 t 0 1:=o1 _ _ (nz et) fr;have s1:∀c o,c≠z->H c=some o->H1 c=some o:=fun c o h1 h2=>o1 c o h1 (s0 c o h2);clear hH1 o1 LA fr s0;refine fun k dk hk0 hdk0 hnk=>⟨k,dk,rfl,ao,fun hh gg H2 kx2 KA eh eg nhg=>⟨rfl,?_⟩⟩;have s2:Same H1 H2:=fun c o hc=>kx2 c o (au hc hk0) (by rw[ak (au hc hk0),ak (au hc hdk0)];exact hc)
 replace eh:=Yl eh
 replace eg:=Yl eg
 clear kx2;have nz2:∀{c:Addr},H1 c=none->c≠z:=fun h e=>by rw[e,z1]at h;cases h
 refine⟨_,rfl,z,CR,dz,_,rfl,s2 _ _ z1,TR.cl,TR.n2,A0y rfl,?_⟩;generalize Pz:upd _ z _=H3;have z3:H3 z=some (.ins CR dz [("ground",.ref x),("kin",.ref k)]):=by rw[<-Pz,ao];rfl
 have o3:∀c o,c≠z->H2 c=some o->H3 c=some o:=fun c o h1 h2=>by rw[<-Pz,ak h1];exact h2
 have s3:∀c o,c≠z->H1 c=some o->H3 c=some o:=fun c o h1 h2=>o3 c o h1 (s2 c o h2);have K3:pN CK H3 k dk hh gg [] []:=⟨o3 _ _ (nz2 hk0) KA.o,o3 _ _ (nz2 eh) KA.h,o3 _ _ (nz2 eg) KA.g⟩;clear Pz o3 KA;intro u eu;have wu:z≠u:=au z3 eu;refine⟨_,rfl,z,CR,dz,_,rfl,by rw[ak wu];exact z3,TR.cl,TR.n3,A0y rfl,?_⟩;generalize yC:upd _ z _=H4;have z4:H4 z=some (.ins CR dz [("ground",.ref x),("kin",.ref k),("used",.ref u)]):=by rw[<-yC,ao];rfl
 have s4:∀c o,c≠z->H3 c=some o->H4 c=some o:=fun c o h1 h2=>by rw[<-yC,ak h1,ak (au h2 eu)];exact h2
 have u4:H4 u=some (.dK []):=by rw[<-yC,ak (A0m wu),ao]
 clear yC;intro li eli;have wli:z≠li:=au z4 eli;refine⟨_,rfl,z,CR,dz,_,rfl,by rw[ak wli];exact z4,TR.cl,TR.n4,A0y rfl,?_⟩;generalize XH:upd _ z _=H5;have z5:H5 z=some (.ins CR dz [("ground",.ref x),("kin",.ref k),("used",.ref u),("lieges",.ref li)]):=by rw[<-XH,ao];rfl
 have s5:∀c o,c≠z->H4 c=some o->H5 c=some o:=fun c o h1 h2=>by rw[<-XH,ak h1,ak (au h2 eli)];exact h2
 have g5:H5 li=some (.dK []):=by rw[<-XH,ak (A0m wli),ao]
 clear XH;intro de ede;have wde:z≠de:=au z5 ede;refine⟨_,rfl,z,CR,dz,_,rfl,by rw[ak wde];exact z5,TR.cl,TR.n5,A0y rfl,?_⟩;generalize Yn:upd _ z _=H6;have z6:H6 z=some (.ins CR dz [("ground",.ref x),("kin",.ref k),("used",.ref u),("lieges",.ref li),("deaths",.ref de)]):=by rw[<-Yn,ao];rfl
 have d6:H6 de=some (.dK []):=by rw[<-Yn,ak (A0m wde),ao]
 have s6:∀c o,c≠z->H5 c=some o->H6 c=some o:=fun c o h1 h2=>by rw[<-Yn,ak h1,ak (au h2 ede)];exact h2
 clear Yn;have Em:∀c o,c≠z->H1 c=some o->H6 c=some o:=fun c o h1 h2=>s6 c o h1 (s5 c o h1 (s4 c o h1 (s3 c o h1 h2)));have s36:∀c o,c≠z->H3 c=some o->H6 c=some o:=fun c o h1 h2=>s6 c o h1 (s5 c o h1 (s4 c o h1 h2));have s35:∀c o,c≠z->H3 c=some o->H5 c=some o:=fun c o h1 h2=>s5 c o h1 (s4 c o h1 h2);have c1:=s3 _ _ (nz e1) L1.l1;have c2:=s3 _ _ (nz e2) L1.l2;have c3:=s3 _ _ (nz e3) L1.l3;have c4:=s3 _ _ (nz e4) L1.l4;have c5:=s3 _ _ (nz e5) L1.l5;have nh:=nz2 eh;have ng:=nz2 eg;have lu:=fun{c:Addr}{o:HO}(h:H3 c=some o)=>au h eu;have ld:=fun{c:Addr}{o:HO}(hz:c≠z)(h:H3 c=some o)=>au (s35 c o hz h) ede;have lg:=fun{c:Addr}{o:HO}(hz:c≠z)(h:H3 c=some o)=>au (s4 c o hz h) eli;have l1:=fun{c d:Addr}{o:HO}(h1:H1 d=none)(h2:H1 c=some o)=>au h2 h1;refine q ⟨z,dz,k,dk,hh,gg,u,li,de⟩ (adL x dx a1 a2 a3 a4 a5 n) t H6 rfl rfl rfl (fun c o h1 h2=>Em c o h1 (s1 c o h1 h2)) ⟨z6,⟨s36 _ _ (nz2 hk0) K3.o,s36 _ _ nh K3.h,s36 _ _ ng K3.g⟩,s6 _ _ (A0m wu) (s5 _ _ (A0m wu) u4),d6,⟨[],s6 _ _ (A0m wli) g5,.nil,.nil,(fun p hp=>nomatch hp),(fun e he=>nomatch he),A0g _⟩,
  ⟨Em _ _ (nz hx0) L1.o,Em _ _ (nz e1) L1.l1,Em _ _ (nz e2) L1.l2,Em _ _ (nz e3) L1.l3,Em _ _ (nz e4) L1.l4,Em _ _ (nz e5) L1.l5⟩⟩ ?_ ?_ (Em _ _ (nz et) t1)
 ·show[a1,a2,a3,a4,a5,u,hh,gg,de,li].Nodup
  simp only[A0L,A0d,A0s,A1d,A4a,A3L,and_true,A4y];exact⟨⟨ap.n12,ap.n13,ap.n14,ap.n15,lu c1,l1 eh L1.l1,l1 eg L1.l1,ld (nz e1) c1,lg (nz e1) c1⟩,⟨ap.n23,ap.n24,ap.n25,lu c2,l1 eh L1.l2,l1 eg L1.l2,ld (nz e2) c2,lg (nz e2) c2⟩,⟨ap.n34,ap.n35,lu c3,l1 eh L1.l3,l1 eg L1.l3,ld (nz e3) c3,lg (nz e3) c3⟩,⟨ap.n45,lu c4,l1 eh L1.l4,l1 eg L1.l4,ld (nz e4) c4,lg (nz e4) c4⟩,⟨lu c5,l1 eh L1.l5,l1 eg L1.l5,ld (nz e5) c5,lg (nz e5) c5⟩,⟨A0m (lu K3.h),A0m (lu K3.g),au (s5 _ _ (A0m wu) u4) ede,au u4 eli⟩,⟨nhg,ld nh K3.h,lg nh K3.h⟩,⟨ld ng K3.g,lg ng K3.g⟩,A0m (au g5 ede)⟩
 ·intro a ha;simp only[lF,adL,A0d,A0s,A1d]at ha;have b1:=fun{c:Addr}(h:H1 c=none)=>back s1 z1 h;have b3:=fun{c:Addr}(h:H3 c=none)=>b1 (back s3 z3 h);have b5:=fun{c:Addr}(h:H5 c=none)=>b3 (back s35 z5 h);rcases ha with h|h|h|h|h|h|h|h|h|h|h|h<;>rw[h]
  ·exact hx0
  ·exact b1 hk0
  ·exact e1
  ·exact e2
  ·exact e3
  ·exact e4
  ·exact e5
  ·exact b3 eu
  ·exact b1 eh
  ·exact b1 eg
  ·exact b5 ede
  ·exact b3 (back s4 z4 eli)
end
end M
namespace L2
open PySem
open AutoSeq1 (wpAny_loadPart')
open PySem.Spec PyProof.Rows PySem.W
section
variable{M:Model}
end
inductive Um(xs:List V)(H:Hp)(Q:VK):Prop
 |mk(a:Addr)(lo hi:Int)(_:xs=[.ref a])(_:H a=some (.rng lo hi))(_:-(2^62)<=lo)(_:lo<=hi)(_:hi<2^62)(_:hi-lo<=1000)(_:∀p,H p=none->Q 0x46 (upd H p (.lst ((List.range (hi-lo).toNat).map fun i=>V.int (lo+(i:Nat)))))):Um xs H Q
theorem vU:∀(n:Nat)(lo:Int)(us:List Value),us.length=n->(∀(j:Nat)(v:Value),us[j]?=some v->∃t,v=.int (lo+j) t)->Vals ((List.range n).map fun i=>V.int (lo+(i:Nat))) us
 |0,_,[],_,_=>.nil
 | n+1,lo,us,hl,h=>by
  have hlt:n<us.length:=by lia
  have e:us=us.take n++[us[n]]:=by
   rw[List.take_append_getElem hlt,A2h 0x4]
  rw[List.range_succ,j9,e];refine Vals.append (vU n lo (us.take n) (by rw[A0H];lia) fun j v hj=>?_) ?_
  ·rw[List.getElem?_take]at hj
   split at hj
   ·exact h j v hj
   ·cases hj
  ·obtain⟨t,ht⟩:=h n us[n] (lG hlt);exact .cons ⟨t,ht⟩ .nil
def Ig(hin:X.A.handled=none):gO X (.type "list") Um:=by
 intro pins s σ H xs us Q I r h;obtain⟨a,lo,hi,rfl,ha,l1,l2,l3,l4,q⟩:=h;obtain⟨u,rfl,ru⟩:=vals1 r;cases ru;obtain⟨t,t',t'',e⟩:=I.hok _ _ ha;refine call_list_range (n:=(hi-lo).toNat) hin e (small_one l1 0x4 0x4 l3) (by rw[rangeSize_one];split<;>lia) 0x4 fun h' tk acc c hk hS hI=>?_;have hv:=vU (hi-lo).toNat lo acc.toList (by rw[A1o];exact hI.1) fun j v hj=>by
  obtain⟨t,ht⟩:=hI.2 j v (by simpa using hj);exact⟨t,by rw[ht,Int.mul_one]⟩
 exact⟨.ref s.heap.objs.size,_,I.laid (o:=.lst _) (t':=tk) hk 0x33 ⟨by rw[cM,List.length_range,A1v];lia,acc.toList,c,hv,hS⟩,rfl,q _ 0x4B⟩
def eZ:V->Bool
 | .int _=>true
 | .str x=>PyData.strOk x
 |_=>false
def iH:V->PyData
 | .int i=>.int i
 | .str x=>.str x
 |_=>.none
theorem lW:∀xs:List V,xs.all eZ=true->dN H xs (xs.map iH)
 |[],_=>.nil
 | x::xs,h=>by
  rw[A2j,A0Y]at h;refine .cons ?_ (lW xs h.2);cases x with
  |int i=>exact .int i
  |str z=>exact .str z
  |_=>cases h.1
def Uo{a b:V}(ha:eZ a=true)(hb:eZ b=true):PyData.eqv (iH a) (iH b)=decide (a=b):=by
 cases a with
 | int i=>
  cases b with
  | int j=>
   show(i==j)=decide (V.int i=V.int j)
   rw[A1h];simp
  |str z=>exact(A0p (show ¬V.int i=V.str z from fun e=>by cases e)).symm
  |_=>cases hb
 | str x=>
  cases b with
  |int j=>exact(A0p (show ¬V.str x=V.int j from fun e=>by cases e)).symm
  | str z=>
   show(x==z)=decide (V.str x=V.str z)
   rw[A1h];simp
  |_=>cases hb
 |_=>cases ha
theorem kY:∀xs ys:List V,xs.all eZ=true->ys.all eZ=true->PyData.eqvAll (xs.map iH) (ys.map iH)=decide (xs=ys)
 |[],[],_,_=>rfl
 |[],_::_,_,_=>(A0p (fun e=>by cases e)).symm
 |_::_,[],_,_=>(A0p (fun e=>by cases e)).symm
 | x::xs,y::ys,hx,hy=>by
  rw[A2j,A0Y]at hx hy
  show(PyData.eqv (iH x) (iH y)&&PyData.eqvAll (xs.map iH) (ys.map iH))=_
  rw[Uo hx.1 hy.1,kY xs ys hx.2 hy.2,A1h];simp
theorem jT:∀xs:List V,xs.all eZ=true->PyData.canLayAll0 (xs.map iH)=true
 |[],_=>rfl
 | x::xs,h=>by
  rw[A2j,A0Y]at h;rw[A0h,PyData.canLayAll0,jT xs h.2];cases x with
  |int i=>rfl
  | str z=>
   show(PyData.strOk z&&true)=true
   rw[show PyData.strOk z=true from h.1];rfl
  |_=>cases h.1
theorem qW:∀xs:List V,PyData.depthAll (xs.map iH)<=1
 |[]=>by decide
 | x::xs=>by
  rw[A0h,PyData.depthAll];have:=qW xs;have e:PyData.depth (iH x)<=1:=by cases x<;>exact A0V rfl
  lia
def iT(H:Hp):List Addr->List (List V)->Prop:=Paired fun a r=>H a=some (.tup r)
theorem um:∀{as:List Addr}{us:List Value},Vals (as.map V.ref) us->us=as.map Value.ref
 |[],_,r=>by cases r;rfl
 | a::as,_,r=>by
  rw[A0h]at r;cases r with
  |cons r1 r2=>cases r1;rw[um r2];rfl
theorem any_rows{r:List V}:∀{as:List Addr}{rows:List (List V)},iT H as rows->(as.map Value.ref).any (fun u=>match u with| .ref a=>(match H a with|some (.tup q)=>decide (q=r)|_=>false)|_=>false)=rows.any fun q=>decide (q=r)
 |_,_,.nil=>rfl
 | a::as,q::rows,.cons h t=>by
  rw[A0h,A2k,A2k,any_rows t]
  show((match H a with|some (.tup q)=>decide (q=r)|_=>false)||_)=_
  rw[h]
theorem vV:∀{as:List Addr}{rows:List (List V)},iT H as rows->∀a∈as,∃q∈rows,H a=some (.tup q)
 |_,_,.nil,a,h=>nomatch h
 | _::_,q::_,.cons h t,a,ha=>by
  rcases A0d.mp ha with rfl|ha
  ·exact⟨q,A0o,h⟩
  ·obtain⟨q',m,e⟩:=vV t a ha;exact⟨q',jK _ m,e⟩
theorem Le{M:Model}{body:Value->PUnit->Sem (ForInStep PUnit)}(J:List Value->Shared->Prop)(hb:∀x r s,J (x::r) s->wpAny M A (body x ⟨⟩) (fun q s'=>q=.yield ⟨⟩/\J r s') E s):
  ∀(r:List Value)(s:Shared),J r s->wpAny M A (forIn r PUnit.unit body) (fun _ s'=>J [] s') E s
 |[],s,h=>by rw[List.forIn_nil];exact A0n h
 | x::r,s,h=>by
  rw[A3Y];refine A0a (A1i (hb x r s h) (fun q s' hq=>?_) fun _ _ x=>x);obtain⟨rfl,h2⟩:=hq
  show wpAny M A (forIn r PUnit.unit body) _ E s'
  exact Le J hb r s' h2
def qb(H:Hp)(kd:Addr->List V)(ks ps:List Addr):Prop:=ks.length=ps.length/\∀(i:Nat)(q p:Addr),ks[i]?=some q->ps[i]?=some p->H q=some (.tup (kd p))
def qb.snoc{kd:Addr->List V}{ks ps:List Addr}{q p:Addr}(h:qb H kd ks ps)(s:Same H H')(hq:H' q=some (.tup (kd p))):qb H' kd (ks++[q]) (ps++[p]):=by
 refine⟨by rw[iD,iD,h.1];rfl,fun i a b ha hb=>?_⟩
 by_cases hi:i<ks.length
 ·rw[A1k hi]at ha;rw[A1k (by rw[<-h.1];exact hi)]at hb;exact s _ _ (h.2 i a b ha hb)
 ·have hl:i<(ks++[q]).length:=(A0j.mp ha).1;have e:i=ks.length:=by rw[iD,A0t]at hl;lia
  subst e;rw[A0X 0x33,A3l]at ha;rw[h.1,A0X 0x33,A3l]at hb;have ea:q=a:=by simpa using ha
  have eb:p=b:=by simpa using hb
  subst ea eb;exact hq
def Yo{k:Nat}{vs:List V}{Q:VK}{E:XK}(F:aL X.prog X.w X.K X.mg X.base bL k f fd ps sp)(hr:cG (k+2) X.A)(hb:Binds X.K fd ps [])(I:Inv X pins σ H s)(r:Vals vs us)(h:sp vs H Q E):
  wpAny 0x9 X.A.in1.in1 (call 0x48 us) 0x37 (fun _ _=>False) s:=by
 have r2:Vals vs (us++[]):=by rw[A1t];exact r
 have hl:(us++[]).length=ps.length:=by rw[<-r2.length];exact F.len _ _ _ _ h
 have hr2:cG k X.A.in1.in1:=cG.in1 (cG.in1 hr);refine A3R (A2Q (F.run X.A.in1.in1 X.stack s H ⟨us,[]⟩ (us++[]) vs Q E hr2 I.env0.in1.in1 (hb s us I.lZ hl) r2 h) fun r s' hq=>?_);cases r with
 |error e=>exact hq.elim
 | ok fl=>
  cases fl with
  |ret u=>exact I.after hq
  |next=>exact False.elim hq
  |brk=>exact False.elim hq
  |cont=>exact False.elim hq
def rQ(as:List Addr)(i:Nat)(hi:i<as.length):(as.map Value.ref).getD i Value.none=Value.ref as[i]:=by
 rw[wR,pF,lG hi];rfl
def Ih{k:Nat}{n0:Nat}{all:List Addr}{kd:Addr->List V}{lt:Nat->Nat->Bool}{κ:SortKind}{P:PySem.Fin->Shared->Prop}
  (F:aL X.prog X.w X.K X.mg X.base bL k f fd ps sp)(hr:cG (k+2) X.A)(hb:Binds X.K fd ps [])(I:Inv X pins σ H s)(fa:jO X pins H a)(ho:s.heap.get? a=some (seqObj "list" (0x29).toArray n0))(h64:all.length<64)(O:Ord all.length lt)
  (hcall:∀p∈all,∀H',Same H H'->∀Q:VK,(∀q PL,Same H' PL->PL q=some (.tup (kd p))->Q (.ref q) PL)->sp [.ref p] H' Q (fun _ _ _=>False))
  (hk:2<=all.length->∀ks H'(s':Shared)(Q:SortKind->Shared->Prop),m6 X.prog X.w H' s'.heap->Same H H'->qb H' kd ks all->Q κ s'->wpAny 0x9 X.A.in1.in1 (keyKind' (0x43).toArray) Q (fun _ _=>False) s')
  (hl:∀ks H'(s':Shared)(i j:Nat)(C:Bool->Shared->Prop),Inv X pins σ H' s'->Same H H'->qb H' kd ks all->i<all.length->j<all.length->i≠j->(∀tk,C (lt i j) {s' with toks:=tk})->
   wpAny 0x9 X.A.in1.in1 (keyLt' κ ((0x43).getD i Value.none) ((0x43).getD j Value.none)) C (fun _ _=>False) s')
  (h:∀(p:Array Nat)(s':Shared)(H':Hp)(e:Nat),Pm all.length p->Up lt p all.length->Inv X pins σ H' s'->jO X pins H' a->Same H H'->s'.heap.get? a=some (seqObj "list" (p.toList.map fun i=>(all.map Value.ref).getD i Value.none).toArray e)->P (.done (.ret .none)) s'):
  wpAny 0x9 X.A.in1.in1 (ksk_tree a 0x48 false) P E s:=by
 have ha:a<s.heap.objs.size:=A0v ho;have zl:(0x29).toArray.size=all.length:=by simp
 obtain⟨e1,ho1⟩:∃e1,(s.heap.update a (Obj.mapSeq fun _=>(#[]:Array Value))).get? a=some (seqObj "list" #[] e1):=⟨_,A4S ho fun _=>#[]⟩;have hkS:((s.heap.update a (Obj.mapSeq fun _=>(#[]:Array Value))).push (seqObj "tuple" (0x29).toArray 0)).objs.size=s.heap.objs.size+1:=by rw[size_push',Heap.size_update]
 unfold ksk_tree;refine A0a (listItems_at ho rfl ?_);refine A0a (A4I ho rfl ?_ (by rw[zl,A1v];lia) (A1j _));refine A0a (seqEpoch_at ho1 rfl ?_);refine A0a (wpAny_newTuple ?_ (by show(0x29).length<=_;rw[cM,A1v];lia))
 refine A0a (wpAny_newList ?_ (A1j _));refine A1U ?_;generalize hs1:(({s with heap:=((s.heap.update a (Obj.mapSeq fun _=>(#[]:Array Value))).push (seqObj "tuple" (0x29).toArray 0)).push (seqObj "list" #[] 0)}:Shared))=s1;have I1:Inv X pins σ H s1:=by
  rw[<-hs1];refine I.tR (fp:=[a]) (t':=s.toks) (fun b hb'=>by rw[A0b.mp hb'];exact fa) fun b o hb' q=>?_;have hne:b≠a:=fun z=>hb' (by simp[z]);exact A0c _ (A0c _ ((A1Z _ _ _ _ hne).trans q))
 have a1:s1.heap.get? a=some (seqObj "list" #[] e1):=by rw[<-hs1];exact A0c _ (A0c _ ho1)
 have k1:s1.heap.get? 0x11=some (seqObj "list" #[] 0):=by rw[<-hs1,<-hkS];exact A0x _ rfl
 have fk:jO X pins H 0x11:=I.zc (A2i _) (I.hok.fresh (A2i _));have nak:a≠s.heap.objs.size+1:=A0M (A4t ha);rw[hkS];generalize s.heap.objs.size+1=kS at k1 fk nak ⊢;clear hs1 ho1 hkS ha ho I;unfold ksk_rest;refine A0a (A3P ?_);rw[List.forIn_toArray];refine A0a (A1i (Le (fun r s'=>∃(done rest ks:List Addr)(H':Hp)(e:Nat),done++rest=all/\r=rest.map Value.ref/\Inv X pins σ H' s'/\Same H H'/\qb H' kd ks done/\(∀b∈[a,kS],jO X pins H' b)/\
   s'.heap.get? a=some (seqObj "list" #[] e1)/\s'.heap.get? kS=some (seqObj "list" (0x43).toArray e)) ?_ 0x29 s1 ⟨[],all,[],H,0,rfl,rfl,I1,Same.refl _,⟨rfl,fun i q p z=>by simp at z⟩,fun b hb'=>?_,a1,k1⟩) (fun _ s' hJ=>?_) fun _ _ x=>x)
 ·rintro x r s' ⟨done,rest,ks,H',e,hd,hx,I',sm,KA,hf,ga,gk⟩;cases rest with
  |nil=>simp at hx
  | cons p rest'=>
   rw[A0h]at hx;obtain⟨rfl,rfl⟩:=List.cons.inj hx;have hp:p∈all:=by rw[<-hd];simp
   have hkl:ks.length<64:=by
    have h1:(done++p::rest').length=all.length:=by rw[hd]
    rw[iD,wO]at h1;rw[KA.1];lia
   have I2:=I'.pinned hf fun b hb'=>by
    simp only[A0d,A0s,A1d]at hb';rcases hb' with rfl|rfl
    ·exact⟨_,ga,fun v z=>by cases z⟩
    ·exact⟨_,gk,fun v z=>by cases z⟩
   refine A0a (A3o (A1i (Yo F hr hb I2 (us:=[.ref p]) (vs:=[.ref p]) (.cons rfl .nil) (hcall p hp H' sm (fun v PL=>∃q,v=.ref q/\Same H' PL/\PL q=some (.tup (kd p))) fun q PL s2 hq=>⟨q,rfl,s2,hq⟩)) (fun kv s'' hk'=>?_) fun _ _ hF=>hF.elim));obtain⟨v,PL,I3,rv,q,rfl,s2,hq⟩:=hk';cases rv;have pa:=I3.pin (a,_) (A0G _ (A0G _ (jc 0xA ga)));have pk:=I3.pin (kS,_) (A0G _ (A0G _ (jc 0xA gk)));have hf'':∀b∈[a,kS],jO X pins PL b:=fun b hb'=>by
    obtain⟨_,f2,f3,f4,f5,f6⟩:=hf b hb';simp only[A0d,A0s,A1d]at hb';rcases hb' with rfl|rfl
    ·exact⟨pa.2.1,f2,f3,f4,f5,f6⟩
    ·exact⟨pk.2.1,f2,f3,f4,f5,f6⟩
   have ea:(0x43).toArray.push (.ref q)=((ks++[q]).map Value.ref).toArray:=by simp
   obtain⟨c2,hc2⟩:∃c2,(s''.heap.update kS (Obj.mapSeq (·.push (.ref q)))).get? kS=some (seqObj "list" ((ks++[q]).map Value.ref).toArray c2):=⟨_,by rw[<-ea];exact A4S pk.1 (·.push (.ref q))⟩;dsimp only;refine A0a (A4I pk.1 rfl ?_ (by simp;rw[A1v];lia) (by simp;rw[A1v];lia));refine A0n ⟨rfl,done++[p],rest',ks++[q],PL,c2,by rw[A3c];exact hd,rfl,?_,sm.trans s2,KA.snoc s2 hq,hf'',?_,hc2⟩
   ·exact I3.nQ.tR (t':=s''.toks) hf'' fun b o hb' g=>by
     rw[A1Z _ _ _ _ (fun z=>hb' (by simp[z]))];exact g
   ·show(s''.heap.update kS _).get? a=_
    rw[A1Z _ _ _ _ nak];exact pa.1
 ·simp only[A0d,A0s,A1d]at hb';rcases hb' with rfl|rfl
  ·exact fa
  ·exact fk
 obtain⟨done,rest,ks,H',e,hd,hx,I',sm,KA,hf,ga,gk⟩:=hJ;obtain rfl:rest=[]:=by cases rest with
  |nil=>rfl
  |cons _ _=>simp at hx
 rw [A1t]at hd;subst hd;refine A0a (listItems_at gk rfl ?_);have tail:∀(st:SortSt)(p:Array Nat)(tk:Nat),Pm done.length p->Up lt p done.length->(arrOf st).map (·.2)=(p.toList.map fun i=>(done.map Value.ref).getD i Value.none).toArray->failedOf st=none->
   wpAny 0x9 X.A.in1.in1 (ksk_tail a false e1 (.ref kS) st) P E {s' with toks:=tk}:=fun st p tk hP hU hout hfl=>by
  have lp:p.toList.length=done.length:=by rw[A1o];exact hP.size
  have ga2:(s'.heap.update kS (Obj.mapSeq fun _=>(#[]:Array Value))).get? a=some (seqObj "list" #[] e1):=by rw[A1Z _ _ _ _ nak];exact ga
  obtain⟨c3,hc3⟩:∃c3,((s'.heap.update kS (Obj.mapSeq fun _=>(#[]:Array Value))).update a (Obj.mapSeq fun _=>(p.toList.map fun i=>(done.map Value.ref).getD i Value.none).toArray)).get? a=some (seqObj "list" (p.toList.map fun i=>(done.map Value.ref).getD i Value.none).toArray c3):=⟨_,A4S ga2 fun _=>_⟩;unfold ksk_tail;dsimp only;simp only[A2c,A3f];rw[hout];refine A0a (A4I gk rfl ?_ (by simp;rw[KA.1,A1v];lia) (A1j _));refine A0a (A4W ?_);refine A0a (seqEpoch_at ga2 rfl ?_);refine A0a (A4I ga2 rfl ?_ (A1j _) (by rw[A0u,cM,lp,A1v];lia));rw[hfl];simp only[bne_self_eq_false,A2c,A3f];refine A0n (h p _ H' c3 hP hU ?_ (hf a 0xA) sm hc3);exact I'.tR (t':=tk) hf fun b o hb' g=>by
   have n1:b≠a:=fun z=>hb' (by simp[z]);have n2:b≠kS:=fun z=>hb' (by simp[z]);rw[A1Z _ _ _ _ n1,A1Z _ _ _ _ n2];exact g
 have lk:(0x43).length=(done.map Value.ref).length:=by rw[cM,cM,KA.1]
 unfold ksk_end;dsimp only;simp only[A2c,A3f]
 by_cases h2:(done.map Value.ref).toArray.size<2
 ·rw [A0i h2,A0i h2];refine A0a (A0n ?_);rw[StateT.run_pure];refine A0a (A0n ?_);dsimp only;refine tail _ (List.range done.length).toArray s'.toks (Array.Perm.refl _) (fun i j hij hj=>by rw[zl]at h2;lia) ?_ rfl;have eo:(arrOf (SortSt.mk' general' ((0x43).toArray.zip (done.map Value.ref).toArray) #[] 7 none)).map (·.2)=(done.map Value.ref).toArray:=
   Array.map_snd_zip (as:=(0x43).toArray) (bs:=(done.map Value.ref).toArray) (by simp;exact Nat.le_of_eq KA.1.symm)
  rw[eo];have ro:=Nx (done.map Value.ref);rw[cM]at ro;rw[ro]
 ·rw [A0f h2,A0f h2];have h2':2<=done.length:=by rw[zl]at h2;lia
  refine A0a (A1i (hk h2' ks H' s' (fun κ' s2=>κ'=κ/\s2=s') I'.hok sm KA ⟨rfl,rfl⟩) (fun κ' s2 hκ=>?_) fun _ _ x=>x.elim);obtain⟨rfl,rfl⟩:=hκ;refine A0a (A1i (kat_run (κ:=κ') (ks:=ks.map Value.ref) (vs:=done.map Value.ref) (Q:=fun st' s3=>∃(p:Array Nat)(tk:Nat),Pm done.length p/\Up lt p done.length/\arrOf st'=p.map (kas_item ((0x43).toArray.zip (done.map Value.ref).toArray))/\failedOf st'=none/\s3={s2 with toks:=tk})
   (G:=fun p s3=>∃tk:Nat,Pm done.length p/\Up lt p done.length/\s3={s2 with toks:=tk})
   lk (by rw[cM];exact h2') (by rw[cM];exact h64) (fun p st' s3 _ b2 b3 ⟨tk,c1,c2,c3⟩=>⟨p,tk,c1,c2,b2,b3,c3⟩) ?_) ?_ fun _ _ e=>e)
  ·rw[cM];refine XQ (J:=fun s3=>∃tk:Nat,s3={s2 with toks:=tk}) O (fun i j C s3 hi hj hij hJ hC=>?_) h2' ⟨s2.toks,rfl⟩ fun p' s3 hP hU ⟨tk,e⟩=>⟨tk,hP,hU,e⟩;obtain⟨tk,rfl⟩:=hJ;exact hl ks H' _ i j C (I'.tok tk) sm KA hi hj hij fun tk'=>hC _ ⟨tk',rfl⟩
  ·rintro⟨⟨⟩,st'⟩ s3 ⟨p,tk,hP,hU,har,hfl,rfl⟩;dsimp only;exact tail st' p tk hP hU (kat_snds lk har) hfl
end L2
namespace PySem.SeqAt
open PySem PySem.MeetsSeq PySem.Calls PyProof.Rows
def Ii(l b:Addr)(items items2:Array Value)(n n2:Nat)(dd dd2:Option Addr)(sl sl2:Array (Option Value))(e:Nat->Bool)(r:Bool)(j:Nat)(g1:j<items.size)(g2:j<items2.size)(hit:e j=false)(pre:∀i,i<j->e i=true):
  Meets (Builtin.«tuple.__lt__» ⟨[.ref l,.ref b],[]⟩)
   (fun A R s=>s.heap.get? l=some {cls:=.type "tuple",dict:=dd,data:=.seq items n,slots:=sl}/\s.heap.get? b=some {cls:=.type "tuple",dict:=dd2,data:=.seq items2 n2,slots:=sl2}/\
    (∀j(h1:j<items.size)(h2:j<items2.size),EqAt A.in1 s items[j] items2[j] (e j))/\(∀(prog:Program)(w:World)(E:Value->Shared->Prop)(Q:Value->Shared->Prop),Q (.bool r) s->wpAny 0x13 A.in1 (richCompare .Lt items[j] items2[j]) Q E s)/\
    R (.ok (.ret (.bool r))) s):=
 .of_wp fun prog w A R s h=>by
  obtain⟨hp,g,d,tk,os⟩:=s;obtain⟨hl,hb,he,hc,h⟩:=h;have f2:=AutoSeq1.sub_tuple_tuple;have hZ:(items.toList.zip items2.toList).length=min items.size items2.size:=by simp
  wp_walk using A3X hl,A3X hb,wpAny_forIn_list _ (fun rest b s'=>b.1=none/\s'=⟨hp,g,d,tk,os⟩/\∃i,i<=j/\rest=(items.toList.zip items2.toList).drop i) _
  case turn=>
   rintro⟨y,x⟩ rest b s' ⟨hb',rfl,i,hij,hz⟩;have hlt:i<(items.toList.zip items2.toList).length:=by
    rcases Nat.lt_or_ge i (items.toList.zip items2.toList).length with h'|h'
    ·exact h'
    ·rw[List.drop_of_length_le h']at hz;cases hz
   have hm:i<min items.size items2.size:=hZ▸ hlt;have h1:i<items.size:=A0q hm (Nat.min_le_left _ _);have h2:i<items2.size:=A0q hm (Nat.min_le_right _ _);rw[A3n hlt]at hz;injection hz with hyx hrest;have hy:y=items[i]:=by have:=A1R Prod.fst hyx;simpa using this
   have hx:x=items2[i]:=by have:=A1R Prod.snd hyx;simpa using this
   subst hy hx;refine A0a (he i h1 h2 prog w _ _ ?_)
   by_cases hi:i=j
   ·subst hi;rw[hit]
    wp_walk using hc prog w
    exact⟨_,rfl,h⟩
   ·rw[pre i 0x4]
    wp_walk
    exact⟨rfl,rfl,i+1,by lia,hrest⟩
  case fin=>
   rintro⟨b1,b2⟩ s' ⟨hb',rfl,i,hij,hz⟩
   exfalso
   rcases Nat.lt_or_ge i (items.toList.zip items2.toList).length with h'|h'
   ·rw[A3n h']at hz;cases hz
   ·rw[hZ]at h';lia
  case h=>
   exact⟨rfl,rfl,0,A1j _,rfl⟩
end PySem.SeqAt
namespace L2
open PySem PySem.Spec PyProof.Rows PySem.W
def Inv.track{D:Addr}(I:Inv X pins σ H s)(hf:jO X pins H D)(new:dW X.prog X.w (upd H D o) s.heap D o):Inv X pins σ (upd H D o) s:=by
 have hn:H D=none:=hf.1;have g:=I.step (h':=s.heap) (H':=upd H D o) (g':=s.gens) (t':=s.toks) (d':=s.drawn) (ch:=[D]) (fun b hb=>by rw[A0b.mp hb];exact⟨hf.2.2.2.1,hf.2.1,hf.2.2.2.2.1,hf.2.2.2.2.2⟩) (fun b o _ _ _ e _=>e) (fun b o _ _ _ e _=>⟨o.slots,e⟩)
  (fun b o hb e n=>by rw[ak (fun z=>hb (by simp[z]))];exact n)
  (fun b o _ e=>⟨o,e⟩) (fun b xs e=>by rw[ak (au e hn)];exact e) (fun b u xs e=>by rw[ak (au e hn)];exact e) (fun b ps e=>⟨#[],by rw[ak (au e hn),e];simp⟩) (fun m hm=>hm) (fun b u e=>?_) I.bare
 ·exact g
 ·by_cases hb:b=D
  ·subst hb;rw[ao]at e;cases e;exact new
  ·rw [ak hb]at e;refine(I.hok b u e).stay (fun c v hc q=>q) (fun c q=>?_) fun c xs q=>?_
   ·first
     |(rw[ak (au q hn)];exact q)
     |exact q
   ·first
     |(rw[ak (au q hn)];exact q)
     |exact q
theorem Lf:∀{xs:List V}{us:List Value},xs.length=us.length->(∀(j:Nat)(x:V)(u:Value),xs[j]?=some x->us[j]?=some u->RelV x u)->Vals xs us
 |[],[],_,_=>.nil
 |[],_::_,h,_=>by simp at h
 |_::_,[],h,_=>by simp at h
 |x::xs,u::us,h,k=>.cons (k 0 x u 0xA 0xA) (Lf (by simpa using h) fun j y w h1 h2=>k (j+1) y w (by simpa using h1) (by simpa using h2))
theorem gM.pairs:∀{es:List DictEntry}{kvs:List 0x81},gM w.params es kvs->∃kvs':List 0x91,Pairs (strKind prog w) es kvs'/\kvs'.map (·.1)=kvs.map (·.1)
 |[],[],_=>⟨[],.nil,rfl⟩
 | e::r,(k,v)::q,⟨⟨⟨t,h1⟩,h2,h3⟩,h⟩=>by
  have ih:∃kvs':List 0x91,Pairs (strKind prog w) r kvs'/\kvs'.map (·.1)=q.map (·.1):=gM.pairs h;obtain⟨l,p,el⟩:=ih;exact⟨(k,e.val)::l,.cons (by rw[h1];exact A3u prog w k t) rfl p,by rw[A0h,A0h,el]⟩
def KD.dictAt{kvs:List 0x81}(d:KD K w.params a kvs)(X:K.In h)(nd:(kvs.map (·.1)).Nodup):∃(kvs':List 0x91)(ep:Nat),h.DictAt (strKind prog w) a kvs' ep/\kvs'.map (·.1)=kvs.map (·.1):=by
 obtain⟨es,n,hl,he⟩:=d.ex;obtain⟨l,p,el⟩:=he.pairs (prog:=prog);refine⟨l,n,⟨_,es,X _ _ hl,⟨rfl,rfl,rfl⟩,rfl,fun e hm=>?_,p,by rw[el];exact nd⟩,el⟩;obtain⟨x,t,e1,e2⟩:=he.lit.all e (Array.mem_toList_iff.mpr hm);exact⟨x,by rw[e1];exact A3u prog w x t,e2⟩
inductive Lg(K:W.Frag)(P:Params)(xs:List V)(H:Hp)(Q:VK):Prop
 |mk(a:Addr)(kvs:List (Prod Str V))(_:xs=[.ref a])(_:KD K P a kvs)(_:(kvs.map (·.1)).Nodup)(_:kvs.length<=1000)(_:∀p,H p=none->Q 0x46 (upd H p (.lst (kvs.map fun e=>.str e.1)))):Lg K P xs H Q
def En(hin:X.A.handled=none):gO X (.type "list") (Lg X.K X.w.params):=by
 intro pins s σ H xs us Q I r h;obtain⟨a,kvs,rfl,d,nd,hz,q⟩:=h;obtain⟨u,rfl,ru⟩:=vals1 r;cases ru;obtain⟨kvs',ep,hd,ek⟩:=d.dictAt (prog:=X.prog) I.lZ nd;have hlen:kvs'.length=kvs.length:=by have:=A1R List.length ek;simpa using this
 refine kdl_call (kdl_dict (knd:=strKind X.prog X.w) (kvs:=kvs') (ep:=ep) d.lo) hin hd (by rw[hlen,A1v];lia) fun h' tk acc c hk hS hI=>?_;have hv:Vals (kvs.map fun e=>V.str e.1) acc.toList:=by
  have ln:acc.toList.length=kvs.length:=by rw[A1o,hI.1,hlen]
  have key:∀(j:Nat)(w:Value),acc.toList[j]?=some w->∃e,kvs[j]?=some e/\∃t,w=.str e.1 t:=fun j w hj=>by
   obtain⟨k,x,e1,e2⟩:=hI.2 j w (by simpa using hj);have hj':j<kvs.length:=by rw[<-hlen];exact(A0j.mp e1).1
   refine⟨kvs[j],lG hj',?_⟩;have e3:(kvs'.map (·.1))[j]?=(kvs.map (·.1))[j]?:=by rw[ek]
   rw[pF,pF,e1,lG hj']at e3;have e4:k=kvs[j].1:=by simpa using e3
   rw[<-e4];exact Value.isStrOf_shape e2
  refine Lf (by rw[cM,ln]) fun j x u hx hu=>?_;obtain⟨e,he,t,rfl⟩:=key j u hu;rw[pF,he]at hx;have:V.str e.1=x:=by simpa using hx
  subst this;exact⟨t,rfl⟩
 have hl:(kvs.map fun e=>V.str e.1).length<=sizeLine:=by rw[cM,A1v];lia
 exact⟨.ref s.heap.objs.size,_,I.laid (o:=.lst (kvs.map fun e=>.str e.1)) (t':=tk) hk 0x33 ⟨hl,acc.toList,c,hv,hS⟩,rfl,q _ 0x4B⟩
inductive Lh(K:W.Frag)(x:V)(vs:List V)(H:Hp)(Q:VK):Prop
 |mk(l:Addr)(zs:List Str)(z:Str)(j:Nat)(_:x=.ref l)(_:vs=[.str z])(_:bY K H l 0x8D)(_:zs[j]?=some z)(_:(∀i,i<j->zs[i]?≠some z))(_:j<1000)(_:Q (.int ((j:Nat):Int)) H):Lh K x vs H Q
theorem Li:∀{zs:List Str}{us:List Value},Vals 0x8D us->∀(j:Nat)(u:Value),us[j]?=some u->∃z t,zs[j]?=some z/\u=.str z t
 |[],_,r,j,u,h=>by rw[A3K]at r;cases r;simp at h
 | z::zs,_,r,j,u,h=>by
  rw[A0h]at r;cases r with
  | cons r1 r2=>
   obtain⟨t,e⟩:=r1;cases j with
   |zero=>simp at h;subst h;exact⟨z,t,by simp,e⟩
   |succ j=>obtain⟨z',t',a,b⟩:=Li r2 j u (by simpa using h);exact⟨z',t',by simpa using a,b⟩
def rR:MtR X "list.index" (Lh X.K):=by
 intro pins s σ H x vs v us Q I rx rv h;obtain⟨l,zs,z,j,rfl,rfl,hq,hj,hno,hjs,q⟩:=h;cases rx;obtain⟨u,rfl,ru⟩:=rv.one;obtain⟨tz,rfl⟩:=ru;obtain⟨its,rv',pl,hz⟩:=I.list hq;have hlen:zs.length=its.length:=by have:=rv'.length;simpa using this
 have hjl:j<zs.length:=(A0j.mp hj).1;have at_:∀(m:Nat)(hm:m<its.toArray.size),∃y t,zs[m]?=some y/\its.toArray[m]=.str y t:=fun m hm=>Li rv' m _ 0xA;obtain⟨⟨oc,od,oda,osl⟩,n,ho,hc,hdn,hdd⟩:=pl;dsimp only at hc hdn hdd;subst hc hdn hdd;have hjs':j<its.toArray.size:=by rw[A0u];lia
 have ev:∀(m:Nat)(hm:m<its.toArray.size)(y:Str),zs[m]?=some y->(match its.toArray[m]with| .str a _=>a==z|_=>false)=(y==z):=fun m hm y hy=>by
  obtain⟨y',t,e1,e2⟩:=at_ m hm;rw[hy]at e1;cases e1;rw[e2]
 refine A4o A2M ⟨_,ho,rfl⟩ PySem.F.entry_list_index (PySem.F.args_list_index_2 _ _)
  (SeqAt.list_indexAt l its.toArray n none osl (.str z tz) (fun u=>match u with| .str a _=>a==z|_=>false) j hjs' 0x4 (by rw[ev j hjs' z hj];exact A2J z) (fun m hm hlt=>?_)) ⟨?_,fun y hy=>?_,?_⟩
 ·obtain⟨y,t,e1,e2⟩:=at_ m hm;rw[ev m hm y e1,A1n];intro e;exact hno m hlt (by rw[e1,e])
 ·exact ho
 ·obtain⟨m,hm,rfl⟩:=Array.mem_iff_getElem.mp hy;obtain⟨y,t,e1,e2⟩:=at_ m hm;rw[ev m hm y e1,e2];exact A4n y t z tz
 ·exact⟨.int ((j:Nat):Int),H,I.tok _,⟨_,rfl⟩,q⟩
inductive Lj(x:V)(vs:List V)(H:Hp)(Q:VK):Prop
 |mk(l:Addr)(xs:List V)(i:Nat)(y:V)(_:x=.ref l)(_:vs=[.int ((i:Nat):Int),y])(_:H l=some 0x4D)(_:i<=xs.length)(_:xs.length<1000)(_:Q .non (upd H l (.lst (xs.take i++y::xs.drop i)))):Lj x vs H Q
def Oa:MtR X "list.insert" Lj:=by
 intro pins s σ H x vs v us Q I rx rv h;obtain⟨l,xs,i,y,rfl,rfl,hH,hi,hz,q⟩:=h;cases rx;obtain⟨u,u',rfl,⟨t,rfl⟩,ru⟩:=vals2 rv;obtain⟨z,its,n,r,hl,e⟩:=I.QC hH;have fit:Builtin.List.listFitsIndex ((i:Nat):Int)=true:=by
  unfold Builtin.List.listFitsIndex;simp;lia
 have hsz:its.toArray.size<=sizeLine:=by rw[A0u,<-hl];exact z
 generalize hx:((i:Nat):Int)=x at fit rv ⊢;have fit':¬(!Builtin.List.listFitsIndex x)=true:=by simp[fit]
 have g:=PySem.AutoSeq1.list_insert_list_int_val_1 l its.toArray n x t u' fit' hsz;refine A4o PySem.F.slot_list_insert ⟨_,e,rfl⟩ PySem.F.entry_list_insert (PySem.F.args_list_insert_3 _ _ _) g ⟨e,?_⟩;refine⟨.non,_,I.lset (its':=its.take i++u'::its.drop i) hH e ?_ ((r.take i).append (.cons ru (r.drop i))) ?_,rfl,q⟩
 ·subst hx
  show(its.toArray.extract 0 (if((i:Nat):Int)<0 then(((i:Nat):Int)+(its.toArray.size:Int)).toNat else min ((i:Nat):Int).toNat its.toArray.size)).push u'++its.toArray.extract (if((i:Nat):Int)<0 then(((i:Nat):Int)+(its.toArray.size:Int)).toNat else min ((i:Nat):Int).toNat its.toArray.size)=_
  have e0:¬((i:Nat):Int)<0:=Int.not_lt.mpr (Int.natCast_nonneg i);rw[A0f e0];have em:min ((i:Nat):Int).toNat its.toArray.size=i:=by rw[A0u,A3J];lia
  rw[em,kl_ins_eq]
 ·refine A0z (m:=1000) ?_ (by rw[A1v];decide);rw[iD,wO,A0H,A1J];lia
def ltV:V->V->Bool
 | .int a,.int b=>decide (a<b)
 | .str a,.str b=>decide (a.cps.toList<b.cps.toList)
 |_,_=>false
def nA:List V->List V->Bool
 |x::xs,y::ys=>if x=y then nA xs ys else ltV x y
 |[],_::_=>true
 |_,_=>false
def Uq:V->V->Bool
 | .int _,.int _=>true
 | .str _,.str _=>true
 |_,_=>false
def qX:List V->List V->Prop
 |x::xs,y::ys=>Uq x y=true/\qX xs ys
 |[],[]=>True
 |_,_=>False
def yN{x z:V}(h:ltV x y=true)(g:ltV y z=true):ltV x z=true:=by
 cases x with
 | int a=>cases y with
  | int b=>cases z with
   |int c=>exact A0k (Int.lt_trans (qg h) (qg g))
   |_=>cases g
  |_=>cases h
 | str a=>cases y with
  | str b=>cases z with
   |str c=>exact A0k (List.lt_trans (qg h) (qg g))
   |_=>cases g
  |_=>cases h
 |_=>cases h
def Ij{x:V}:ltV x x=false:=by
 cases x<;>first|rfl|skip
 ·exact A0p (Int.lt_irrefl _)
 ·exact A0p (List.lt_irrefl _)
def Ob{x:V}(t:Uq x y=true)(hne:x≠y)(h:ltV x y=false):ltV y x=true:=by
 cases x<;>cases y<;>first|cases t|skip
 ·rename_i a b
  have h':=A2p h;have:a≠b:=fun e=>hne (by rw[e]);exact A0k 0x4
 ·rename_i a b
  have h':=A2p h;have ne:a.cps.toList≠b.cps.toList:=fun e=>hne (by rw[zH e]);refine A0k ?_;have le:b.cps.toList<=a.cps.toList:=List.not_lt.mp h';rcases List.le_iff_lt_or_eq.mp le with z|z
  ·exact z
  ·exact absurd z.symm ne
theorem vW:∀{xs ys zs:List V},qX xs ys->qX ys zs->nA xs ys=true->nA ys zs=true->nA xs zs=true
 |[],[],_,_,_,h,_=>by cases h
 |[],_::_,_,t,_,_,_=>t.elim
 |_::_,[],_,t,_,_,_=>t.elim
 |_::_,_::_,[],_,t,_,_=>t.elim
 | x::xs,y::ys,z::zs,t,u,h,g=>by
  unfold nA at h g ⊢
  by_cases e:x=y
  ·subst e;rw[A0i rfl]at h
   by_cases e2:x=z
   ·subst e2;rw[A0i rfl]at g ⊢;exact vW t.2 u.2 h g
   ·rw[A0f e2]at g ⊢;exact g
  ·rw [A0f e]at h
   by_cases e2:y=z
   ·subst e2;rw[A0f e];exact h
   ·rw [A0f e2]at g;have hx:x≠z:=fun e3=>by
     subst e3;have:=yN h g;rw[Ij]at this;cases this
    rw[A0f hx];exact yN h g
theorem vX:∀{xs ys:List V},qX xs ys->xs≠ys->nA xs ys=false->nA ys xs=true
 |[],[],_,h,_=>absurd rfl h
 |[],_::_,t,_,_=>t.elim
 |_::_,[],t,_,_=>t.elim
 | x::xs,y::ys,t,hne,h=>by
  unfold nA at h ⊢
  by_cases e:x=y
  ·subst e;rw[A0i rfl]at h ⊢;exact vX t.2 (fun z=>hne (by rw[z])) h
  ·rw[A0f e]at h;rw[A0f (A0m e)];exact Ob t.1 e h
theorem yO:∀{xs ys:List V},qX xs ys->xs≠ys->∃(j:Nat)(x y:V),xs[j]?=some x/\ys[j]?=some y/\x≠y/\Uq x y=true/\(∀i,i<j->xs[i]?=ys[i]?)/\nA xs ys=ltV x y
 |[],[],_,h=>absurd rfl h
 |[],_::_,t,_=>t.elim
 |_::_,[],t,_=>t.elim
 | x::xs,y::ys,t,hne=>by
  by_cases e:x=y
  ·subst e;obtain⟨j,a,b,h1,h2,h3,h4,h5,h6⟩:=yO t.2 (fun z=>hne (by rw[z]));refine⟨j+1,a,b,by simpa using h1,by simpa using h2,h3,h4,fun i hi=>?_,by unfold nA;rw[A0i rfl];exact h6⟩;cases i with
   |zero=>simp
   |succ i=>simpa using h5 i 0x4
  ·exact⟨0,x,y,by simp,by simp,e,t.1,fun i hi=>absurd hi (A4R _),by unfold nA;rw[A0f e]⟩
def Oc{x:V}{w:Value}(hu:A.units+8<cLine)(rx:RelV x u)(ry:RelV y w)(hx:eZ x=true)(hy:eZ y=true):SeqAt.EqAt A s u w (decide (x=y)):=by
 cases x with
 | int a=>
  obtain⟨t,rfl⟩:=rx;cases y with
  | int b=>
   obtain⟨t',rfl⟩:=ry;have e:decide (V.int a=V.int b)=(a==b):=by rw[A1h];simp
   rw[e];exact SeqAt.EqAt.int_int a t b t'
  | str z=>
   obtain⟨t',rfl⟩:=ry;rw[A0p (show ¬V.int a=V.str z from fun e=>by cases e)]
   exact A4j a t z t'
  |_=>cases hy
 | str a=>
  obtain⟨t,rfl⟩:=rx;cases y with
  | int b=>
   obtain⟨t',rfl⟩:=ry;rw[A0p (show ¬V.str a=V.int b from fun e=>by cases e)]
   exact A4k a t b t'
  | str z=>
   obtain⟨t',rfl⟩:=ry;have e:decide (V.str a=V.str z)=(a==z):=by rw[A1h];simp
   rw[e];exact A4n a t z t'
  |_=>cases hy
 |_=>cases hx
def Lk{p q:Addr}(hu:A.units+9<cLine)(hk:m6 X.prog X.w H s.heap)(hp:H p=some 0x23)(hq:H q=some (.tup ys))(hx:xs.all eZ=true)(hy:ys.all eZ=true)(t:qX xs ys)(hne:xs≠ys)
  (h:Q (.bool (nA xs ys)) s):wpAny 0x9 A (compareOp .Lt 0x46 (.ref q)) Q E s:=by
 obtain⟨z1,its,r1,⟨⟨oc,od,oda,osl⟩,ho,hc,n,hd⟩⟩:=hk p _ hp;obtain⟨z2,its2,r2,⟨⟨oc2,od2,oda2,osl2⟩,ho2,hc2,n2,hd2⟩⟩:=hk q _ hq;dsimp only at hc hd hc2 hd2;subst hc hd hc2 hd2;obtain⟨j,x,y,h1,h2,h3,h4,h5,h6⟩:=yO t hne;obtain⟨u,hu1,ru⟩:=r1.get h1;obtain⟨w,hw1,cN⟩:=r2.get h2;have l1:=r1.length;have l2:=r2.length;have g1:j<its.toArray.size:=by rw[A0u];exact(A0j.mp hu1).1
 have g2:j<its2.toArray.size:=by rw[A0u];exact(A0j.mp hw1).1
 have eu:its.toArray[j]=u:=by have:=(A0j.mp hu1).2;simpa using this
 have ew:its2.toArray[j]=w:=by have:=(A0j.mp hw1).2;simpa using this
 refine cmp_ofLt (richCompare_meets_room (op:=.Lt) ⟨_,ho,rfl⟩ ⟨_,ho2,rfl⟩ PySem.F.slot_tuple_lt PySem.F.entry_tuple_lt (PySem.F.args_tuple_lt_2 _ _)
  (SeqAt.Ii p q its.toArray its2.toArray n n2 _ _ _ _ (fun i=>decide (xs.getD i .non=ys.getD i .non)) (nA xs ys) j g1 g2 ?_ fun i hi=>?_) ⟨ho,ho2,fun i a1 a2=>?_,fun prog w E Q hQ=>?_,?_⟩ 0x4)
 ·refine A0p ?_;rw[wR,wR,h1,h2];exact h3
 ·refine A0k ?_;rw[wR,wR,h5 i hi]
 ·rw[A0u]at a1 a2;have b1:i<xs.length:=by lia
  have b2:i<ys.length:=by lia
  obtain⟨u',c1,c2⟩:=r1.get (lG b1);obtain⟨w',d1,d2⟩:=r2.get (lG b2);have e1:its.toArray[i]=u':=by have:=(A0j.mp c1).2;simpa using this
  have e2:its2.toArray[i]=w':=by have:=(A0j.mp d1).2;simpa using this
  rw[e1,e2,wR,wR,lG b1,lG b2];exact Oc (by show A.units+1+8<_;lia) c2 d2 (A1L.mp hx _ (A0U b1)) (A1L.mp hy _ (A0U b2))
 ·rw [eu,ew];rw[h6]at hQ;cases x with
  | int a=>
   cases y with
   | int b=>
    obtain⟨t1,rfl⟩:=ru;obtain⟨t2,rfl⟩:=cN;exact lt_int hQ
   |_=>cases h4
  | str a=>
   cases y with
   | str b=>
    obtain⟨t1,rfl⟩:=ru;obtain⟨t2,rfl⟩:=cN;exact lt_str hQ
   |_=>cases h4
  |_=>cases h4
 ·exact⟨(fun z=>by cases z),h⟩
inductive rLtR(x y:V)(H:Hp)(Q:VK):Prop
 |mk(p q:Addr)(xs ys:List V)(_:x=.ref p)(_:y=.ref q)(_:H p=some 0x23)(_:H q=some (.tup ys))(_:xs.all eZ=true)(_:ys.all eZ=true)(_:qX xs ys)(_:xs≠ys)(_:Q (.bl (nA xs ys)) H):rLtR x y H Q
def a1N(hu:X.A.units+64<cLine):lK X (compareOp .Lt) rLtR:=by
 intro pins s σ H x y v u Q I rx ry h;obtain⟨p,q,xs,ys,rfl,rfl,hp,hq,hx,hy,t,hne,k⟩:=h;cases rx;cases ry;exact Lk 0x4 I.hok hp hq hx hy t hne ⟨.bl _,H,I,rfl,k⟩
end L2
namespace M
open PySem L2 PyProof.Rows
abbrev Az:Stmt:=top 14
abbrev Ik:Stmt:=top 15
abbrev Il:Stmt:=top 64
abbrev Ba:Stmt:=top 65
abbrev Im:Stmt:=top 66
def Io.num:Io->Bool
 | .d=>true| .n=>false| .c=>false| .a=>true| .s=>true
def forms:List (Str×List Io):=[("heir",[.d,.n,.n]),("grant",[.d,.c,.n,.n,.a,.s]),("part",[.d,.n,.n,.n,.a]),("convey",[.d,.n,.n]),("liege",[.d,.n,.c]),("surrender",[.d,.n]),("death",[.d,.n])]
def form(k:Str):Option (List Io):=forms.lookup k
def isI:V->Bool
 | .int _=>true
 |_=>false
def Lp(l:List Io)(rest:List V):Prop:=∀(i:Nat)(s:Io)(v:V),l[i]?=some s->rest[i]?=some v->isI v=s.num
def Ip{k:Str}{l:List Io}(h:form k=some l):(k,l)∈forms:=by
 unfold form at h
 revert h
 generalize forms=fs
 induction fs with
 |nil=>intro h;cases h
 | cons p r ih=>
  obtain⟨k',l'⟩:=p;intro h;rw[A0Z]at h
  by_cases e:k=k'
  ·subst e;simp at h;subst h;exact A0o
  ·have e':(k==k')=false:=by simpa using e
   rw[e']at h;exact jK _ (ih h)
def Ur:List V:=[.str "heir",.str "grant",.str "part",.str "convey",.str "liege",.str "surrender",.str "death"]
def Lq:Sp:=fun vs H Q _=>vs=[]/\∀p,H p=none->Q 0x46 (upd H p (.lst Ur))
def Yp:aP [] [] (aJ Il):=0x0
def Us(F:fj K "_law_kinds" "_law_kinds" Il f fd):aL P w K mg base bL 1 f fd [] Lq:=by
 refine F.ok Yp 0x1 0x3;obtain⟨rfl,k⟩:=h;refine⟨_,aG (aZ (cL (aj aM (aj aM (aj aM (aj aM (aj aM (aj aM (aj aM aC))))))))),?_⟩;exact⟨small 0xA,k⟩
open PySem.Spec PySem.W
def cT:List Str:=["heir","grant","part","convey","liege","surrender","death"]
def dI(k:Str):Nat:=cT.idxOf k
structure RowD(r:List V)(k:Str)(d:Int)(rest:List V)(l:List Io):Prop where
 e:r=.str k::.int d::rest
 f:form k=some l
 len:(V.int d::rest).length=l.length
 kept:Lp l (.int d::rest)
 flat:r.all eZ=true
inductive gH(r:List V):Prop
 |mk(k:Str)(d:Int)(rest:List V)(l:List Io)(_:RowD r k d rest l):gH r
def iy:List V->Int
 |_::.int d::_=>d
 |_=>0
def gj:List V->Str
 | .str k::_=>k
 |_=>""
def fU(r s:List V):Bool:=if iy r≠iy s then decide (iy r<iy s)else if dI (gj r)≠dI (gj s)then decide (dI (gj r)<dI (gj s))else nA r s
theorem Ep:∀{l:List Io}{xs ys:List V},xs.length=l.length->ys.length=l.length->Lp l xs->Lp l ys->xs.all eZ=true->ys.all eZ=true->qX xs ys
 |[],[],[],_,_,_,_,_,_=>trivial
 |[],_::_,_,h,_,_,_,_,_=>by simp at h
 |[],[],_::_,_,h,_,_,_,_=>by simp at h
 |_::_,[],_,h,_,_,_,_,_=>by simp at h
 |_::_,_::_,[],_,h,_,_,_,_=>by simp at h
 | s::l,x::xs,y::ys,h1,h2,k1,k2,f1,f2=>by
  rw[A2j,A0Y]at f1 f2;refine⟨?_,Ep (by simpa using h1) (by simpa using h2) (fun i t v a b=>k1 (i+1) t v 0x6F (by simpa using b)) (fun i t v a b=>k2 (i+1) t v 0x6F (by simpa using b)) f1.2 f2.2⟩;have a1:=k1 0 s x 0xA 0xA;have a2:=k2 0 s y 0xA 0xA;rw[<-a2]at a1;cases x<;>cases y<;>first|rfl|(cases a1;done)|(cases f1.1;done)|(cases f2.1;done)
def mX{k:Str}{l:List Io}(h:form k=some l):k∈cT:=by
 have:=Ip h;have e:cT=forms.map (·.1):=by decide+kernel
 rw[e];exact A0e.mpr ⟨(k,l),this,rfl⟩
def Er{k k':Str}(h:k∈cT)(h':k'∈cT)(e:dI k=dI k'):k=k':=by
 have a:cT.idxOf k<cT.length:=A3q.mpr h;have b:cT.idxOf k'<cT.length:=A3q.mpr h';have e1:cT[cT.idxOf k]=k:=A3v a;have e2:cT[cT.idxOf k']=k':=A3v b;unfold dI at e;rw[<-e1,<-e2];simp only[e]
def gH.same{r s:List V}(hr:gH r)(hs:gH s)(e:dI (gj r)=dI (gj s)):qX r s:=by
 obtain⟨k,d,rest,l,R⟩:=hr;obtain⟨k',d',rest',l',S⟩:=hs;have e1:=R.e;have e2:=S.e;subst e1 e2;have ek:k=k':=Er (mX R.f) (mX S.f) e;subst ek;have el:l=l':=by have:=R.f;rw[S.f]at this;exact(A1b this).symm
 subst el;have f1:=R.flat;have f2:=S.flat;rw[A2j,A0Y]at f1 f2;exact⟨rfl,Ep R.len S.len R.kept S.kept f1.2 f2.2⟩
def kZ{r s t:List V}(hr:gH r)(hs:gH s)(ht:gH t)(h:fU r s=true)(g:fU s t=true):fU r t=true:=by
 unfold fU at h g ⊢
 by_cases a:iy r=iy s
 ·rw [A0f 0x6F]at h
  by_cases b:iy s=iy t
  ·rw [A0f (by simpa using b)]at g;rw[A0f (by simpa using a.trans b)]
   by_cases c:dI (gj r)=dI (gj s)
   ·rw[A0f 0x3D]at h
    by_cases d:dI (gj s)=dI (gj t)
    ·rw[A0f (by simpa using d)]at g;rw[A0f (by simpa using c.trans d)];exact vW (hr.same hs c) (hs.same ht d) h g
    ·rw[A0i (by simpa using d)]at g;rw[A0i (by rw[c];simpa using d),c];exact g
   ·rw[A0i 0x3D]at h;have h':=qg h
    by_cases d:dI (gj s)=dI (gj t)
    ·rw[<-d,A0i 0x3D];exact h
    ·rw[A0i (by simpa using d)]at g;have g':=qg g;rw[A0i 0x4];exact A0k 0x4
  ·rw[A0i (by simpa using b)]at g;rw[a,A0i (by simpa using b)];exact g
 ·rw[A0i 0x6F]at h;have h':=qg h
  by_cases b:iy s=iy t
  ·rw[<-b,A0i 0x6F];exact h
  ·rw[A0i (by simpa using b)]at g;have g':=qg g;rw[A0i 0x4];exact A0k 0x4
def sY{r s:List V}(hr:gH r)(hs:gH s)(hne:r≠s)(h:fU r s=false):fU s r=true:=by
 unfold fU at h ⊢
 by_cases a:iy r=iy s
 ·rw[A0f 0x6F]at h;rw[A0f (by simpa using a.symm)]
  by_cases c:dI (gj r)=dI (gj s)
  ·rw[A0f 0x3D]at h;rw[A0f (by simpa using c.symm)];exact vX (hr.same hs c) hne h
  ·rw[A0i 0x3D]at h;have h':=A2p h;rw[A0i (fun e=>c e.symm)];exact A0k 0x4
 ·rw[A0i 0x6F]at h;have h':=A2p h;rw[A0i (fun e=>a e.symm)];exact A0k 0x4
def Es{r s:List V}(hr:gH r)(hs:gH s)(h:fU r s=true):fU s r=false:=by
 cases e:fU s r with
 |false=>rfl
 | true=>
  have:=kZ hr hs hr h e;unfold fU at this;rw[A0f 0xA,A0f 0xA]at this
  exfalso
  have irr:∀xs:List V,nA xs xs=false:=fun xs=>by
   induction xs with
   |nil=>rfl
   |cons x xs ih=>unfold nA;rw[A0i rfl];exact ih
  rw[irr]at this;cases this
end M
namespace L2
open PySem PySem.Spec PyProof.Rows PySem.W
section
variable{M:Model}
def Bb{rest:List Expr}{kws:List Keyword}
  (h:wpAny M A (spliced (backTo pos (starEach (e::rest) env))) (fun vs s1=>wpAny M A (evalAll ((0x57).map (·.2))) (fun kvs s2=>wpAny M A (call (.builtin T) vs (((0x57).filterMap (·.1)).zip kvs)) Q E s2) E s1) E s)
  (he:backTo pos (starEach (e::rest) env)=(false,eval e env)::backTo pos (starEach rest env))(hp:(backTo pos (starEach (e::rest) env)).any (·.1)=false)
  (ha:(0x57).all (·.1.isSome)=true)(hk:(0x57).any (·.1.isNone)=false):
  wpAny M A (callWith pos (.builtin T) [] (backTo pos (starEach (e::rest) env)) 0x57) Q E s:=by
 have g:wpAny M A (evalArgs (.builtin T) true (backTo pos (starEach (e::rest) env)) 0x57) (fun a s1=>wpAny M A (call (.builtin T) ([]++a.pos) a.kw) Q E s1) E s:=by
  rw[he]at h ⊢;exact evalArgs_kwB ha h
 unfold callWith;refine A0a (A1U (A1i g (fun a s1 h1=>A0a (A2Z ?_)) fun _ _ z=>z));simp only[hp,hk,Bool.or_false];exact A0a (A0n (A0a (A1i h1 (fun r s2 hr=>A0a (A1U (wpAny_point (A0n hr)))) fun _ _ z=>z)))
end
end L2
namespace M
open PySem PySem.Spec PyProof.Rows PySem.W L2
inductive uq(vs:List V)(H:Hp)(Q:VK)(cH:XK):Prop
 |mk(p:Addr)(r:List V)(k:Str)(d:Int)(rest:List V)(l:List Io)(_:vs=[.ref p])(_:H p=some (.tup r))(_:RowD r k d rest l)(_:∀q H',Same H H'->H' q=some (.tup [.int d,.int ((dI k:Nat):Int),.ref p])->Q (.ref q) H'):uq vs H Q cH
inductive Forms(K:W.Frag)(P:Params)(mg:Str->Option Value):Prop
 |mk(aF:Addr)(kvs:List (Prod Str V))(_:mg "FORMS"=some (.ref aF))(_:KD K P aF kvs)(_:kvs.map (·.1)=cT):Forms K P mg
def Bc{k:Str}(h:k∈cT):cT[dI k]?=some k/\(∀i,i<dI k->cT[i]?≠some k)/\dI k<7:=by
 have a:cT.idxOf k<cT.length:=A3q.mpr h;refine⟨?_,fun i hi e=>?_,a⟩
 ·unfold dI;rw[lG a,A3v a]
 ·have hl:i<cT.length:=A3k hi a;rw[lG hl]at e;have e':=A1b e;have nd:cT.Nodup:=by decide+kernel
  have pw:=A1s.mp nd i (cT.idxOf k) hl a hi;exact pw (by rw[e',A3v a])
def Yq:aP ["row"] ["row"] (aJ Ik):=0x0
def Ut(F:fj K "place_in_order" "place_in_order" Ik f fd)(mo:Forms K w.params mg)(ml:mg "list"=none):aL P w K mg base bL 1 f fd ["row"] uq:=by
 obtain⟨aF,kvs,mF,kF,hF⟩:=mo;refine F.ok Yq 0x1 0x3;obtain⟨p,r,k,d,rest,l,rfl,hp,R,q⟩:=h;refine⟨_,aG (aZ (cu (aj 0x72 (aj (j8 A0K A2M A3z rR (fV (En hr.hd) rfl ml qC (aj (cj rfl mF rfl (v:=.ref aF)) aC)) (aj 0x72 aC)) (aj 0x32 aC))))),?_⟩;have e:=R.e;subst e;obtain⟨i1,i2,i3⟩:=Bc (mX R.f);have ek:(kvs.map fun e=>V.str e.1)=cT.map V.str:=by rw[<-hF,A0T];rfl
 have hl7:kvs.length=7:=by have:=A1R List.length hF;simpa[cT]using this
 refine⟨_,rfl,p,_,_,_,rfl,rfl,bN.of hp,aH (j:=1) rfl,?_⟩;refine⟨aF,kvs,rfl,kF,by rw[hF];decide+kernel,by lia,fun z hz=>?_⟩;rw[ek];have s1:=aK hz (.lst (cT.map V.str));refine⟨.inl ⟨rfl,_,bY.of ao⟩,_,rfl,p,_,_,_,rfl,rfl,bN.of (s1 _ _ hp),aH (j:=0) rfl,z,cT,k,dI k,rfl,rfl,bY.of ao,i1,i2,by lia,?_⟩;refine⟨_,rfl,small 0xA,fun t ht=>?_⟩;exact q t _ (s1.trans (aK ht _)) ao
def jg(H:Hp)(all:List Addr)(dat:Addr->List V):Prop:=(∀a∈all,H a=some (.tup (dat a))/\gH (dat a))/\(all.map dat).Nodup
def Ir(dat:Addr->List V)(out:List Addr):Prop:=out.Pairwise fun a b=>fU (dat a) (dat b)=true
inductive Et(K:W.Frag)(l:Addr)(H:Hp)(Q:VK):Prop
 |mk(all:List Addr)(dat:Addr->List V)(_:bY K H l 0x4A)(_:all.length<64)(_:jg H all dat)(_:∀D out H',Same H H'->H D=none->H' D=some (.lst 0x66)->out.Perm all->Ir dat out->Q 0x4F H'):Et K l H Q
inductive vY(K:W.Frag)(vs:List V)(H:Hp)(Q:VK)(cH:XK):Prop
 |mk(l:Addr)(_:vs=[.ref l])(_:Et K l H Q):vY K vs H Q cH
def a1O(dat:Addr->List V)(p:Addr):List V:=[.int (iy (dat p)),.int ((dI (gj (dat p)):Nat):Int),.ref p]
def rT{all:List Addr}(h:jg H all dat)(hi:i<all.length)(hj:j<all.length)(hij:i≠j):dat all[i]≠dat all[j]:=by
 have pw:=A1s.mp h.2;intro e;have li:i<(all.map dat).length:=by rw[cM];exact hi
 have lj:j<(all.map dat).length:=by rw[cM];exact hj
 rcases Nat.lt_or_gt_of_ne hij with g|g
 ·exact pw i j li lj g (by simpa using e)
 ·exact pw j i lj li g (by simpa using e.symm)
section
variable{k:Nat}
def a1P{all ks:List Addr}{C:Bool->Shared->Prop}(hu:X.A.units+64<cLine)(I:Inv X pins σ H' s')(hrow:∀a∈all,H' a=some (.tup (dat a))/\gH (dat a))(KA:qb H' (a1O dat) ks all)
  (hi:i<all.length)(hj:j<all.length)(hne:dat all[i]≠dat all[j])(hC:∀tk,C (fU (dat all[i]) (dat all[j])) {s' with toks:=tk}):
  wpAny 0x9 X.A.in1.in1 (keyLt' (tuples' true) ((0x43).getD i Value.none) ((0x43).getD j Value.none)) C (fun _ _=>False) s':=by
 have hi':i<ks.length:=by rw[KA.1];exact hi
 have hj':j<ks.length:=by rw[KA.1];exact hj
 rw[rQ ks i hi',rQ ks j hj'];have ki:=KA.2 i ks[i] all[i] (lG hi') (lG hi);have kj:=KA.2 j ks[j] all[j] (lG hj') (lG hj);obtain⟨_,it1,r1,⟨o1,ho1,hc1,n1,hd1⟩⟩:=I.hok _ _ ki;obtain⟨_,it2,r2,⟨o2,ho2,hc2,n2,hd2⟩⟩:=I.hok _ _ kj;obtain⟨u1,r1,rfl,⟨t1,rfl⟩,r1'⟩:∃u us,it1=u::us/\RelV (.int (iy (dat all[i]))) u/\Vals [.int ((dI (gj (dat all[i])):Nat):Int),.ref all[i]] us:=by cases r1 with|cons a b=>exact⟨_,_,rfl,a,b⟩
 obtain⟨u2,r2,rfl,⟨t2,rfl⟩,r2'⟩:∃u us,it2=u::us/\RelV (.int (iy (dat all[j]))) u/\Vals [.int ((dI (gj (dat all[j])):Nat):Int),.ref all[j]] us:=by cases r2 with|cons a b=>exact⟨_,_,rfl,a,b⟩
 obtain⟨v1,w1,rfl,⟨t3,rfl⟩,rfl⟩:=vals2 r1';obtain⟨v2,w2,rfl,⟨t4,rfl⟩,rfl⟩:=vals2 r2';obtain⟨hpi,Uu⟩:=hrow all[i] (A0U hi);obtain⟨hpj,Uv⟩:=hrow all[j] (A0U hj);have fl:∀r,gH r->r.all eZ=true:=fun r ⟨_,_,_,_,R⟩=>R.flat;have g:=hC s'.toks;generalize all[i]=pi at*
 generalize all[j]=pj at*
 unfold fU at g;refine kat_lt ho1 hd1 ho2 hd2 ?_;refine kat_cons (A4J ?_)
 by_cases a:iy (dat pi)=iy (dat pj)
 ·rw [A0f 0x6F]at g;rw[show(iy (dat pi)==iy (dat pj))=true by simpa using a]
  refine kat_yes (kat_cons (A4J ?_))
  by_cases c:dI (gj (dat pi))=dI (gj (dat pj))
  ·rw [A0f 0x3D]at g;rw[show((((dI (gj (dat pi)):Nat):Int))==((dI (gj (dat pj)):Nat):Int))=true by rw[c];simp]
   have st:=Uu.same Uv c;obtain⟨bs,rb⟩:=cZ.reads I (.tup hpi (lW _ (fl _ Uu))) (u:=.ref pi) rfl;obtain⟨cs,rc⟩:=cZ.reads I (.tup hpj (lW _ (fl _ Uv))) (u:=.ref pj) rfl;have q:=A4M (.tuple ((dat pi).map iH)) (.tuple ((dat pj).map iH)) X.A.in1.in1 s' _ _ bs cs rb rc (jT _ (fl _ Uu)) (jT _ (fl _ Uv)) (by
    have h1:=qW (dat pi);have h2:PyData.depth (.tuple ((dat pi).map iH))<=3:=by show PyData.depthAll ((dat pi).map iH)+1<=3;lia
    have h3:X.A.in1.in1.units<=X.A.units+32:=by show X.A.units+1+1<=X.A.units+32;lia
    lia)
   have e:PyData.eqv (.tuple ((dat pi).map iH)) (.tuple ((dat pj).map iH))=decide (dat pi=dat pj):=kY _ _ (fl _ Uu) (fl _ Uv);rw[e,A0p hne]at q;refine kat_yes (kat_cons (q _ _ _ _ (kat_no ?_)));exact kat_one _ _ (Lk (X:=X) (by show X.A.units+1+1+9<_;lia) I.hok hpi hpj (fl _ Uu) (fl _ Uv) st hne g)
  ·rw[A0i 0x3D]at g;rw[show((((dI (gj (dat pi)):Nat):Int))==((dI (gj (dat pj)):Nat):Int))=false by rw[A1n];lia]
   refine kat_no (kat_one _ _ (lt_int ?_));have e:decide (((dI (gj (dat pi)):Nat):Int)<((dI (gj (dat pj)):Nat):Int))=decide (dI (gj (dat pi))<dI (gj (dat pj))):=by rw[A1h];simp
   rw[e];exact g
 ·rw[A0i 0x6F]at g;rw[show(iy (dat pi)==iy (dat pj))=false by rw[A1n];exact a]
  exact kat_no (oneLt_int g)
end
end M
namespace L2
open PySem PySem.Spec PyProof.Rows PySem.W
theorem yP:∀as:List Addr,Vals (as.map V.ref) (as.map Value.ref)
 |[]=>.nil
 |_::r=>.cons rfl (yP r)
end L2
namespace M
open PySem PySem.Spec PyProof.Rows PySem.W PySem.Calls L2
theorem a0a:∀as:List Addr,(∀a∈as,∃o xs n k t,h.get? a=some o/\o.cls=.type "tuple"/\o.data=.seq xs n/\xs[0]?=some (Value.int k t))->∃fs,KatTups h (as.map Value.ref) fs/\fs.length=as.length/\∀v∈fs,∃k t,v=Value.int k t
 |[],_=>⟨[],.nil,rfl,fun v hv=>nomatch hv⟩
 | a::as,ha=>by
  obtain⟨fs,t,hl,hf⟩:=a0a as fun b hb=>ha b (jK _ hb);obtain⟨o,xs,n,k,tk,e,hc,hd,hx⟩:=ha a A0o;exact⟨.int k tk::fs,.cons e hc hd hx t,by rw[wO,hl,wO],fun v hv=>by
   rcases A0d.mp hv with rfl|hv
   ·exact⟨k,tk,rfl⟩
   ·exact hf v hv⟩
def Yr{p:Array Nat}(h:Pm n p){all:List Addr}(hn:all.length=n):(p.toList.map fun i=>all.getD i 0).Perm all:=by
 have h1:p.toList.Perm (List.range n):=by have:=A3h.mp h;simpa using this
 have h2:=h1.map fun i=>all.getD i 0;have e:(List.range n).map (fun i=>all.getD i 0)=all:=by
  apply List.ext_getElem
  ·simp[hn]
  ·intro i a b;simp only[A4L,List.getElem_range];rw[wR,lG b];rfl
 rw[e]at h2;exact h2
def Iu{p:Array Nat}(h:Pm n p){m:Nat}(hm:m<p.toList.length):p.toList[m]=pat p m/\pat p m<n:=by
 have hs:m<p.size:=by rw[<-A1o];exact hm
 refine⟨?_,h.lt (by rw[<-h.size];exact hs)⟩;unfold pat;rw[Array.getD,dif_pos hs];simp
section
variable{k:Nat}
def Uw{ta:TA}{p kp kpos:Pos}{x:Str}(hg:Gl X "sorted")(hm:X.mg "sorted"=none)(ha:PA X [e] ta)(hgx:Gl X x)(hmx:X.mg x=some 0x48)(F:aL X.prog X.w X.K X.mg X.base bL k f fd ["row"] uq)(hr:cG (k+2) X.A)(hb:Binds X.K fd ["row"] [])
  (hdb:0x24=false:=by decide)(hs:starEach [e] X.env=[0x2D]:=by rfl):
  PE X (.Call (.Name "sorted" p) [e] [⟨some (Str.ofString "key"),.Name x kp,kpos⟩] pos) (fun σ H Q=>ta σ H fun vs H1=>∃l,vs=[.ref l]/\Et X.K l H1 Q):=by
 intro pins s σ H Q I h;refine A1z (rG I hg hm jM (Bb (cP 0x6C fun us s1 ⟨vs,H1,I1,r1,q1⟩=>cP (WK (cj hgx hmx rfl hdb (v:=.ref f)) a0x pos pins s1 σ H1 (fun zs H2=>zs=[.ref f]/\∃l,vs=[.ref l]/\Et X.K l H2 Q) I1 ⟨rfl,q1⟩) fun ws s2 ⟨zs,H2,I2,r2,q2⟩=>?_) (by rw[hs];rfl) (by rw[hs];rfl) (by rfl) (by rfl)));obtain⟨rfl,l,rfl,all,dat,hq,h64,RO,q⟩:=q2;obtain⟨u,rfl,ru⟩:=vals1 r1;cases ru;obtain⟨w,rfl,cN⟩:=vals1 r2;cases cN;obtain⟨its,rv,pl,hz⟩:=I2.list hq;have Ux:=um rv;subst Ux
 show wpAny _ _ (call (.builtin "sorted") [.ref l] [(Str.ofString "key",.ref f)]) _ _ s2
 refine call_function_entry_kw kind_sorted plain_sorted entry_sorted (ksk_s1 _ _) ?_;unfold Builtin.«sorted»;refine A0a (m:=checkCount "sorted" 1 1 _) (A0n ?_);refine A0a (collect_list pl.isList ?_ (by rw[cM,A1v];lia));refine A0a (wpAny_newList ?_ (by rw[cM,A1v];lia));have hsz:((s2.heap.push (seqObj "list" #[] 0)).update s2.heap.objs.size (Obj.mapSeq (·++(0x29).toArray))).objs.size=s2.heap.objs.size+1:=by
  rw[Heap.size_update,size_push']
 have hoL:(((s2.heap.push (seqObj "list" #[] 0)).update s2.heap.objs.size (Obj.mapSeq (·++(0x29).toArray))).push (seqObj "list" (0x29).toArray 0)).get? (s2.heap.objs.size+1)=some (seqObj "list" (0x29).toArray 0):=by
  rw[<-hsz];exact A0x _ rfl
 have keep:∀b o,s2.heap.get? b=some o->(((s2.heap.push (seqObj "list" #[] 0)).update s2.heap.objs.size (Obj.mapSeq (·++(0x29).toArray))).push (seqObj "list" (0x29).toArray 0)).get? b=some o:=fun b o q=>by
  have hlt:b<s2.heap.objs.size:=A0v q;rw[Heap.get?_push_ne _ _ _ (by rw[hsz];exact A0M (A4t hlt)),A1Z _ _ _ _ (A0M hlt),Heap.get?_push_ne _ _ _ (A0M hlt)];exact q
 show wpAny _ _ _ _ _ {s2 with heap:=((s2.heap.push (seqObj "list" #[] 0)).update s2.heap.objs.size (Obj.mapSeq (·++(0x29).toArray))).push (seqObj "list" (0x29).toArray 0)}
 rw[hsz];have I3:=I2.kept (t':=s2.toks) keep;have fa:jO X pins H2 (s2.heap.objs.size+1):=I2.zc (A2i _) (I2.hok.fresh (A2i _));have hD:H2 (s2.heap.objs.size+1)=none:=I2.hok.fresh (A2i _);refine A0a (A1U (wpAny_call_entry_kw slot_list_sort ⟨_,hoL,rfl⟩ entry_list_sort ?body (ksk_l1 _ _)))
 case body=>
  show wpAny 0x9 X.A.in1.in1 (Builtin.«list.sort» ⟨[.ref (s2.heap.objs.size+1)],[(Str.ofString "key",.ref f)]⟩) _ _ _
  rw[ksk_t1];have gD:∀i(hi:i<all.length),all.getD i 0=all[i]:=fun i hi=>by rw[wR,lG hi];rfl
  refine Ih (kd:=a1O dat) (lt:=fun i j=>fU (dat (all.getD i 0)) (dat (all.getD j 0))) (κ:=tuples' true) F hr hb I3 fa hoL h64 ⟨fun i j k hi hj hk a b=>?_,fun i j hi hj hij c=>?_⟩ (fun p hp H' sm Q' kq=>?_) (fun h2 ks H' s' Q' hok sm KA hQ=>?_) (fun ks H' s' i j C I' sm KA hi hj hij hC=>?_) fun p s' H' e hP hU I' fa' sm hS=>?_
  ·rw[gD i hi,gD j hj]at a;rw[gD j hj,gD k hk]at b;rw[gD i hi,gD k hk];exact kZ (RO.1 _ (A0U hi)).2 (RO.1 _ (A0U hj)).2 (RO.1 _ (A0U hk)).2 a b
  ·rw[gD i hi,gD j hj]at c;rw[gD i hi,gD j hj];exact sY (RO.1 _ (A0U hi)).2 (RO.1 _ (A0U hj)).2 (rT RO hi hj hij) c
  ·obtain⟨hp1,kk,d,rest,ll,R⟩:=RO.1 p hp;refine⟨p,dat p,kk,d,rest,ll,rfl,sm _ _ hp1,R,fun q' PL s'' hq'=>kq q' PL s'' ?_⟩;rw[hq'];unfold a1O;rw[R.e];rfl
  ·obtain⟨fs,t,hlf,hf⟩:=a0a (h:=s'.heap) ks fun b hb'=>by
    obtain⟨m,hm⟩:=A3O.mp hb';have hml:m<all.length:=by rw[<-KA.1];exact(A0j.mp hm).1
    obtain⟨_,it1,r1,⟨o1,ho1,hc1,n1,hd1⟩⟩:=hok _ _ (KA.2 m b all[m] hm (lG hml));cases r1 with
    | cons a1 b1=>
     obtain⟨t1,rfl⟩:=a1;exact⟨o1,_,n1,_,t1,ho1,hc1,hd1,rfl⟩
   have hz':0<fs.length:=by
    rw[hlf,KA.1];lia
   refine kat_kind (T:=Value.type "int") t hz' (fun w hw=>?_) (by rfl) ?_
   ·obtain⟨k',tk',rfl⟩:=hf w hw;exact fun A Q E s _ q=>A0n q
   ·exact hQ
  ·rw[gD i hi,gD j hj]at hC;exact a1P hr.units I' (fun a ha'=>⟨sm _ _ (RO.1 a ha').1,(RO.1 a ha').2⟩) KA hi hj (rT RO hi hj hij) hC
  ·have lp:p.toList.length=all.length:=by rw[A1o];exact hP.size
   have hout:(p.toList.map fun i=>(all.map Value.ref).getD i Value.none)=(p.toList.map fun i=>all.getD i 0).map Value.ref:=by
    rw[A0T];refine A1p fun i hi=>?_;obtain⟨m,hm,rfl⟩:=A1T.mp hi;obtain⟨g1,g2⟩:=Iu hP hm;rw[g1]
    show(0x29).getD (pat p m) Value.none=Value.ref (all.getD (pat p m) 0)
    rw[rQ all _ g2,gD _ g2]
   rw[hout]at hS;refine⟨_,rfl,A0n ⟨_,rfl,.ref (s2.heap.objs.size+1),_,I'.track (o:=.lst ((p.toList.map fun i=>all.getD i 0).map V.ref)) fa' ⟨by rw[cM,cM,lp,A1v];lia,_,e,L2.yP _,hS⟩,rfl,?_⟩⟩;refine q _ (p.toList.map fun i=>all.getD i 0) _ (fun b o hb'=>?_) hD ao (Yr hP rfl) ?_
   ·rw[ak (au (sm _ _ hb') fa'.1)];exact sm _ _ hb'
   ·unfold Ir;rw[A1s];intro i j hi hj hij;rw[cM]at hi hj;simp only[A4L];obtain⟨g1,g2⟩:=Iu hP hi;obtain⟨g3,g4⟩:=Iu hP hj;rw[g1,g3];exact hU i j hij 0x4
end
def Uy:aP ["rows"] ["rows"] (aJ Az):=0x0
def Od(F:fj K "judged_order" "judged_order" Az f fd)(ms:mg "sorted"=none)(G1:aL P w K mg base bL 1 g1 d1 ["row"] uq)(M1:Ms K mg "place_in_order" g1 d1 ["row"]):aL P w K mg base bL 4 f fd ["rows"] (vY K):=by
 refine F.ok Uy 0x1 0x3;obtain⟨l,rfl,h⟩:=h;refine⟨_,aG (aZ (Uw rfl ms (aj 0x32 aC) rfl M1.m G1 hr M1.b)),?_⟩;exact⟨_,rfl,l,rfl,h⟩
end M
namespace L2
open PySem PySem.Spec PyProof.Rows PySem.W
def idxV(n:Nat)(lo hi st:Option Int):List Nat:=sliceRange (sliceBounds lo hi st n).1 (sliceBounds lo hi st n).2.1 (sliceBounds lo hi st n).2.2
def yQ(xs:List V)(lo hi st:Option Int):List V:=(idxV xs.length lo hi st).filterMap (xs[·]?)
theorem rW(r:Vals xs us):∀ix:List Nat,Vals (ix.filterMap (xs[·]?)) (ix.filterMap (us[·]?))
 |[]=>.nil
 | i::ix=>by
  rw[A2G,A2G];cases e:xs[i]? with
  |none=>rw[r.none_of e];exact rW r ix
  | some x=>
   obtain⟨u,eu,ru⟩:=r.get e;rw[eu];exact .cons ru (rW r ix)
inductive rSl3(K:W.Frag)(x:V)(lo hi st:Option Int)(H:Hp)(Q:VK):Prop
 |mk(a:Addr)(xs:List V)(_:x=.ref a)(_:bY K H a xs)(_:st≠some 0)(_:(yQ xs lo hi st).length<=1000)(_:∀p,H p=none->Q 0x46 (upd H p (.lst (yQ xs lo hi st)))):rSl3 K x lo hi st H Q
def tSl3(K:PySem.W.Frag)(te:TE)(tl th ts:TO):TE:=fun σ H Q=>te σ H fun x H1=>tl σ H1 fun l H2=>th σ H2 fun u H3=>ts σ H3 fun o H4=>rSl3 K x l u o H4 Q
def Oe{lo hi:Option Expr}{st:Expr}{tl th ts:TO}{p2:Pos}(he:PE X e te)(hl:PO X lo tl)(hu:PO X hi th)(ht:PO X (some st) ts):PE X (.Subscript e (.Slice lo hi (some st) p2) pos) (tSl3 X.K te tl th ts):=by
 intro pins s σ H Q I h;refine Subscript_ (cP 0x49 fun v s1 zq=>?_);obtain⟨x,H1,I1,r1,q1⟩:=zq;refine wpAny_Slice (cP (hl pins s1 σ H1 _ I1 q1) fun vl s2 ⟨l,H2,I2,pl,q2⟩=>cP (hu pins s2 σ H2 _ I2 q2) fun vu s3 ⟨u,H3,I3,pu,q3⟩=>cP (ht pins s3 σ H3 _ I3 q3) fun vs s4 zq=>?_);obtain⟨o,H4,I4,po,q4⟩:=zq;obtain⟨a,xs,rfl,hx,h0,hz,q⟩:=q4;cases r1;have I5:Inv X pins σ H4 {s4 with heap:=s4.heap.push {cls:=.type "slice",data:=.fields #[vl,vu,vs]}}:=I4.kept (t':=s4.toks) fun b ob q=>A0c _ q;obtain⟨its,r,pl',hz'⟩:=I5.list hx;have hlen:=r.length
 show wpAny 0x9 X.A (subscriptTail e (.Slice lo hi (some st) p2) 0x4E (.ref s4.heap.objs.size)) 0x37 X.xe {s4 with heap:=s4.heap.push {cls:=.type "slice",data:=.fields #[vl,vu,vs]}}
 refine tail_any (ops:=[.ref a,.ref s4.heap.objs.size]) pl'.isList.typeIs A4s.lookup ?_ 0x12;refine wpAny_getItem_list_slice pl'.isList (Heap.IsSliceOf.new ..) pl pu po h0 ?_ (by rw[A0u]<;>lia);have e:slicePick its.toArray l u o=(((idxV xs.length l u o).filterMap (its[·]?))).toArray:=by
  unfold slicePick idxV;rw[A0u,<-hlen];simp
 rw[e];refine⟨.ref _,_,I5.laid (t':=s4.toks) (o:=.lst (yQ xs l u o)) (fun b ob q=>A0c _ q) 0x33 ?_,rfl,q _ (I5.hok.fresh 0x33)⟩;exact⟨A0z hz (by rw[A1v];decide),_,0,rW r _,A0x _ rfl⟩
inductive Lr(K:W.Frag)(x y:V)(H:Hp)(Q:VK):Prop
 |mk(p l:Addr)(as:List Addr)(r:List V)(rows:List (List V))(_:x=.ref p)(_:y=.ref l)(_:bY K H l (as.map V.ref))(_:H p=some (.tup r))(_:r.all eZ=true)(_:iT H as rows)(_:(∀q∈rows,q.all eZ=true))(_:Q (.bl (!rows.any fun q=>decide (q=r))) H):Lr K x y H Q
def Og(hu:X.A.units+64<cLine):lK X (compareOp .NotIn) (Lr X.K):=by
 intro pins s σ H x y v u Q I rx ry h;obtain⟨p,l,as,r,rows,rfl,rfl,hq,hp,hr,hR,hrs,q⟩:=h;cases rx;cases ry;obtain⟨its,rv,pl,hz⟩:=I.list hq;have Ux:=um rv;subst Ux;have read:∀(a:Addr)(z:List V),H a=some (.tup z)->z.all eZ=true->∃bs,Reads s.heap 0x4E (.tuple (z.map iH)) bs:=fun a z ha hz=>cZ.reads I (.tup ha (lW z hz)) rfl;refine SeqAt.notIn_listAt (fun u=>match u with| .ref a=>(match H a with|some (.tup q)=>decide (q=r)|_=>false)|_=>false) pl.isList (fun w hw=>?_) ⟨.bl _,H,I,rfl,?_⟩
 ·have hw':w∈as.map Value.ref:=by simpa using hw
  obtain⟨a,ha,rfl⟩:=A0e.mp hw';obtain⟨z,hz1,hz2⟩:=vV hR a ha;obtain⟨bs,rb⟩:=read a z hz2 (hrs z hz1);obtain⟨cs,rc⟩:=read p r hp hr;have g:=A4M (.tuple (z.map iH)) (.tuple (r.map iH)) X.A.in1 s _ _ bs cs rb rc (jT z (hrs z hz1)) (jT r hr) (by
   have h1:=qW z;have h2:PyData.depth (.tuple (z.map iH))<=3:=by show PyData.depthAll (z.map iH)+1<=3;lia
   have h3:X.A.in1.units<=X.A.units+32:=by show X.A.units+1<=X.A.units+32;lia
   lia)
  have e:PyData.eqv (.tuple (z.map iH)) (.tuple (r.map iH))=decide (z=r):=kY z r (hrs z hz1) hr;rw[e]at g
  show SeqAt.EqAt _ _ _ _ (match H a with|some (.tup q)=>decide (q=r)|_=>false)
  rw[hz2];exact g
 ·have e:=any_rows (r:=r) hR;have e2:((as.map Value.ref).toArray.any fun u=>match u with| .ref a=>(match H a with|some (.tup q)=>decide (q=r)|_=>false)|_=>false)=rows.any fun q=>decide (q=r):=by
   (rw[<-e,List.any_toArray])<;>rfl
  rw[e2];exact q
end L2
namespace M
open PySem PySem.Spec PyProof.Rows PySem.W PySem.Calls L2
def Uz{k k':Str}{d':Int}{rest rest':List V}:fU (.str k::.int d::rest) (.str k'::.int d'::rest')=if d≠d' then decide (d<d')else if dI k≠dI k' then decide (dI k<dI k')else nA (.str k::.int d::rest) (.str k'::.int d'::rest'):=rfl
inductive Bf(vs:List V)(H:Hp)(Q:VK)(cH:XK):Prop
 |mk(p q:Addr)(r s:List V)(_:vs=[.ref p,.ref q])(_:H p=some (.tup r))(_:H q=some (.tup s))(_:gH r)(_:gH s)(_:r≠s)(_:∀H',Same H H'->Q (.bl (fU r s)) H'):Bf vs H Q cH
def Ls:aP ["_law_one","_law_other","_law_kinds_here"] A5G (aJ Im):=0x0
def UG(F:fj K "_law_ahead" "_law_ahead" Im f fd)(G1:aL P w K mg base bL 1 g1 d1 [] Lq)(M1:Ms K mg "_law_kinds" g1 d1 []):aL P w K mg base bL 2 f fd A5G Bf:=by
 refine F.ok Ls 0x1 0x3;obtain⟨p,q,r,s',rfl,hp,hq,hr',hs',hne,kk⟩:=h;have hir:=hr';have his:=hs';obtain⟨k,d,rest,l,R⟩:=hr';obtain⟨k',d',rest',l',S⟩:=hs';have e1:=R.e;have e2:=S.e;subst e1 e2;refine⟨_,aq (bK (aU nU 0x72 0x1A 0x61)
   (aG (aZ (jA ql 0x72 0x1A 0x61))) aR)
  (aq (aV (i:=2) Ls.nd rfl 0x8 (Cw G1 hr rfl M1.m M1.k M1.b .nil bC))
  (aq (bK (aU nU 0x72 0x1A 0x61)
   (aG (aZ (jA ql (j8 A0K A2M A3z rR 0x3B (aj 0x72 aC)) (j8 A0K A2M A3z rR 0x3B 0x82) 0x61))) aR)
  (aG (aZ (jA (a1N hr.units) 0x32 0xF 0x61))))),?_⟩
 have kk':=fun H' s=>by have g:=kk H' s;rw[Uz]at g;exact g
 refine⟨_,rfl,p,_,_,_,rfl,rfl,bN.of hp,aH (j:=1) rfl,_,rfl,q,_,_,_,rfl,rfl,bN.of hq,aH (j:=1) rfl,rfl,_,rfl,?_⟩
 by_cases a:d=d'
 ·subst a;rw[A0k rfl];refine cg ?_;refine⟨rfl,fun z hz=>?_⟩;have ek:Ur=cT.map V.str:=rfl;rw[ek]
  apply 0o1 H z hz s1 z1 H1
  have hp1:=s1 _ _ hp;have hq1:=s1 _ _ hq;refine⟨_,rfl,p,_,_,_,rfl,rfl,bN.of hp1,aH (j:=0) rfl,_,rfl,q,_,_,_,rfl,rfl,bN.of hq1,aH (j:=0) rfl,rfl,_,rfl,?_⟩;have g:=kk' H1 s1;rw[A0f (show ¬(d≠d)from fun z=>z rfl)]at g
  by_cases c:k=k'
  ·subst c;rw[A0k rfl];refine cg ?_;rw[A0f (show ¬(dI k≠dI k)from fun z=>z rfl)]at g
   exact⟨_,rfl,_,rfl,p,q,_,_,rfl,rfl,hp1,hq1,R.flat,S.flat,hir.same his rfl,hne,g⟩
  ·rw[A0p (fun z=>c (by injection z))];refine cW ?_;have ci:dI k≠dI k':=fun z=>c (Er (mX R.f) (mX S.f) z);rw[A0i ci]at g;obtain⟨i1,i2,i3⟩:=Bc (mX R.f);obtain⟨j1,j2,j3⟩:=Bc (mX S.f);refine⟨_,rfl,.inl ⟨rfl,_,bY.of z1⟩,_,rfl,p,_,_,_,rfl,rfl,bN.of hp1,aH (j:=0) rfl,z,cT,k,dI k,rfl,rfl,bY.of z1,i1,i2,by lia,?_⟩;refine⟨_,rfl,.inl ⟨rfl,_,bY.of z1⟩,_,rfl,q,_,_,_,rfl,rfl,bN.of hq1,aH (j:=0) rfl,z,cT,k',dI k',rfl,rfl,bY.of z1,j1,j2,by lia,?_⟩;refine⟨_,_,rfl,rfl,?_⟩;have e:decide (((dI k:Nat):Int)<((dI k':Nat):Int))=decide (dI k<dI k'):=by rw[A1h];simp
   dsimp only;rw[e];exact g
 ·rw[A0p (fun z=>a (by injection z))];refine cW ?_;refine⟨_,rfl,p,_,_,_,rfl,rfl,bN.of hp,aH (j:=1) rfl,_,rfl,q,_,_,_,rfl,rfl,bN.of hq,aH (j:=1) rfl,_,_,rfl,rfl,?_⟩;have g:=kk' H 0x6D;rw[A0i a]at g;exact g
inductive vZ(K:W.Frag)(vs:List V)(H:Hp)(Q:VK)(cH:XK):Prop
 |mk(l:Addr)(_:vs=[.ref l])(_:Et K l H Q):vZ K vs H Q cH
def Iv{out:List Addr}{p:Addr}(h:Ir dat out)(hrow:∀a∈p::out,gH (dat a))(hne:∀a∈out,dat a≠dat p)(hj:j<=out.length)(hlo:∀m(hm:m<out.length),m<j->fU (dat out[m]) (dat p)=true)
  (hhi:∀(hj':j<out.length),fU (dat out[j]) (dat p)=false):Ir dat (out.take j++p::out.drop j):=by
 unfold Ir at h ⊢;rw[A2z];have hp:gH (dat p):=hrow p A0o;have cN:∀a∈out,gH (dat a):=fun a ha=>hrow a (jK _ ha);have lo:∀a∈out.take j,fU (dat a) (dat p)=true:=fun a ha=>by
  obtain⟨m,hm,rfl⟩:=A1T.mp ha;rw[A0H]at hm;rw[A4z];exact hlo m 0x4 0x4
 have hi:∀b∈out.drop j,fU (dat p) (dat b)=true:=fun b hb=>by
  obtain⟨m,hm,rfl⟩:=A1T.mp hb;rw[A1J]at hm;rw[List.getElem_drop];have hj':j<out.length:=by lia
  have first:=sY (cN _ (A0U hj')) hp (hne _ (A0U hj')) (hhi hj')
  by_cases hm0:m=0
  ·subst hm0;exact first
  ·have pw:=A1s.mp h j (j+m) hj' 0x4 0x4;exact kZ hp (cN _ (A0U hj')) (cN _ (A0U _)) first pw
 refine⟨h.sublist (List.take_sublist _ _),List.pairwise_cons.mpr ⟨hi,h.sublist (List.drop_sublist _ _)⟩,fun a ha b hb=>?_⟩;rcases A0d.mp hb with rfl|hb
 ·exact lo a ha
 ·exact kZ (cN a (A2e ha)) hp (cN b (A3g hb)) (lo a ha) (hi b hb)
def oJ:aP ["_law_rows_here","_law_found","_law_row_here","_law_at"] ["_law_rows_here"] (aJ Ba):=0x0
def Oh(F:fj K "_law_sorted" "_law_sorted" Ba f fd)(mn:mg "len"=none)(G1:aL P w K mg base bL 2 g1 d1 A5G Bf)(M1:Ms K mg "_law_ahead" g1 d1 A5G):aL P w K mg base bL 3 f fd ["_law_rows_here"] (vZ K):=by
 refine F.ok oJ 0x1 0x3;obtain⟨l,rfl,all,dat,hq,h64,RO,q⟩:=h;refine⟨_,aq (aV (i:=1) oJ.nd rfl 0x8 (cL aC))
  (aq (gF A0Q rfl (fu 0x32) (bB (i:=2) oJ.nd rfl 0x8)
   (aq (aV (i:=3) oJ.nd rfl 0x8 aA)
   (aq (lH A0Q (PW.pt (lA (aU ql 0x52 (bH cY rfl mn A1G 0x2C) 0x61) (ji (dJ (bG G1 hr rfl M1.m M1.k M1.b .nil bC (aj (aN bD 0xF 0x52 0x2) 0x65))))))
    (aG (aV (i:=3) oJ.nd rfl 0x8 (aX dY 0x52 aA))))
   (aG (bM (j8 A0K PySem.F.slot_list_insert PySem.F.type_list_insert Oa 0xF (aj 0x52 0x65)))))))
  (aG (aZ 0xF))),?_⟩
 refine⟨small 0xA,fun D hD=>?_⟩;have s1:=aK hD 0x54;refine⟨_,rfl,l,rfl,⟨_,s1.seq hq⟩,?_⟩;refine gA (K:=K) (a:=l) (xs:=all.map V.ref) (fun i σ Hx=>∃(u2 u3:Option V)(out:List Addr),σ=[some (.ref l),some 0x4F,u2,u3]/\Same H Hx/\Hx D=some (.lst 0x66)/\out.Perm (all.take i)/\Ir dat out) ⟨none,none,[],rfl,s1,ao,by simp,List.Pairwise.nil⟩
  (fun i σ Hx _ h=>by obtain⟨_,_,_,_,sx,_⟩:=h;exact sx.seq hq) ?_ ?_
 ·rintro i v σ Hx hv ⟨u2,u3,out,rfl,sx,dx,hp,hu⟩;rw[pF]at hv;obtain⟨p,hpi,rfl⟩:=A0J.mp hv;have hil:i<all.length:=(A0j.mp hpi).1;have epi:all[i]=p:=(A0j.mp hpi).2;have mem:∀a∈out,a∈all:=fun a ha=>A2e (hp.mem_iff.mp ha);have a1Q:p∈all:=wU hpi;have lo:out.length<=64:=by rw[hp.length_eq,A0H];lia
  have ne:∀a∈out,dat a≠dat p:=fun a ha=>by
   obtain⟨m,hm,rfl⟩:=A1T.mp (hp.mem_iff.mp ha);rw[A0H]at hm;rw[A4z,<-epi];exact rT RO 0x4 hil 0x4
  refine⟨fun m σ Hy=>∃j:Nat,m=out.length-j/\j<=out.length/\σ=[some (.ref l),some 0x4F,some 0x46,some (.int ((j:Nat):Int))]/\Same H Hy/\Hy D=some (.lst 0x66)/\∀m(hm:m<out.length),m<j->fU (dat out[m]) (dat p)=true,⟨_,0,rfl,A1j _,rfl,sx,dx,fun m _ h=>absurd h (A4R _)⟩,?_⟩;rintro m σ Hy ⟨j,rfl,hj,rfl,sy,dy,hlo⟩;have fin:∀Hz,Same H Hz->Hz D=some (.lst 0x66)->(∀(hj':j<out.length),fU (dat out[j]) (dat p)=false)->∃(u2 u3:Option V)(out':List Addr),[some (V.ref l),some 0x4F,some 0x46,some (.int ((j:Nat):Int))]=[some (V.ref l),some 0x4F,u2,u3]/\Same H (upd Hz D (.lst ((0x66).take j++V.ref p::(0x66).drop j)))/\(upd Hz D (.lst ((0x66).take j++V.ref p::(0x66).drop j))) D=some (.lst (out'.map V.ref))/\out'.Perm (all.take (i+1))/\Ir dat out':=fun Hz sz dz hhi=>by
   refine⟨_,_,out.take j++p::out.drop j,rfl,bU sz hD,by rw[ao];simp,?_,Iv hu (fun a ha=>?_) ne hj hlo hhi⟩
   ·rw [A1e,hpi];have h1:(out.take j++p::out.drop j).Perm (p::(out.take j++out.drop j)):=List.perm_middle;rw[List.take_append_drop]at h1;refine h1.trans ?_;have h2:(all.take i++[p]).Perm (p::all.take i):=by
     have:=List.perm_middle (a:=p) (l₁:=all.take i) (l₂:=[])
     simpa using this
    exact((List.perm_cons p).mpr hp).trans h2.symm
   ·rcases A0d.mp ha with rfl|ha
    ·exact(RO.1 _ a1Q).2
    ·exact(RO.1 _ (mem a ha)).2
  refine⟨_,rfl,_,rfl,D,_,rfl,.inl (bY.of dy),_,_,rfl,rfl,_,rfl,?_⟩;rw[cM]
  by_cases hjl:j<out.length
  ·rw [A0k (show((j:Nat):Int)<((out.length:Nat):Int) by lia)]
   refine cW ?_;have hm:=mem _ (A0U hjl);refine⟨_,rfl,_,rfl,D,_,_,V.ref out[j],rfl,rfl,bY.of dy,aH (by rw[pF,lG hjl];rfl),_,rfl,out[j],p,dat out[j],dat p,rfl,sy _ _ (RO.1 _ hm).1,sy _ _ (RO.1 _ a1Q).1,(RO.1 _ hm).2,(RO.1 _ a1Q).2,ne _ (A0U hjl),fun Hz sz=>⟨_,rfl,?_⟩⟩;have tz:=sy.trans sz;have dz:=sz _ _ dy;cases el:fU (dat out[j]) (dat p)with
   | true=>
    refine⟨fun σ' H'=>∃j':Nat,out.length-j'<out.length-j/\j'<=out.length/\σ'=[some (.ref l),some 0x4F,some 0x46,some (.int ((j':Nat):Int))]/\Same H H'/\H' D=some (.lst 0x66)/\∀m(hm:m<out.length),m<j'->fU (dat out[m]) (dat p)=true,fun σ' H' ⟨j',a1,a2,a3,a4,a5,a6⟩=>⟨_,a1,j',rfl,a2,a3,a4,a5,a6⟩,?_⟩;refine⟨_,rfl,_,_,rfl,rfl,j+1,by lia,by lia,?_,tz,dz,fun m hm hmj=>?_⟩
    ·rfl
    ·by_cases e:m=j
     ·subst e;exact el
     ·exact hlo m hm 0x4
   | false=>
    refine⟨_,rfl,.inl ⟨rfl,_,bY.of dz⟩,_,rfl,_,rfl,D,_,j,_,rfl,rfl,dz,by rw[cM];exact hj,by rw[cM];lia,?_⟩;exact fin Hz tz dz fun _=>el
  ·rw[A0p (show ¬((j:Nat):Int)<((out.length:Nat):Int) by lia)]
   refine cg ?_;refine⟨_,rfl,.inl ⟨rfl,_,bY.of dy⟩,_,rfl,_,rfl,D,_,j,_,rfl,rfl,dy,by rw[cM];exact hj,by rw[cM];lia,?_⟩;exact fin Hy sy dy fun h=>absurd h hjl
 ·rintro σ Hx ⟨u2,u3,out,rfl,sx,dx,hp,hu⟩;rw[cM,A1f]at hp;exact⟨_,rfl,q D out Hx sx hD dx hp hu⟩
abbrev Bg:Stmt:=top 47
structure Cd where
 d:Int
 g:Addr
 rs:List Addr
def rE(gs:List Cd):List 0x2B:=gs.map fun x=>(Sum.inl x.d,V.ref x.g)
def Lw(H:Hp)(gs:List Cd):Prop:=∀x∈gs,H x.g=some (.lst (x.rs.map V.ref))
structure Eu(dat:Addr->List V)(gs:List Cd)(out:List Addr):Prop where
 cat:(gs.map (·.rs)).flatten=out
 day:∀x∈gs,∀a∈x.rs,iy (dat a)=x.d
 up:gs.Pairwise fun x y=>x.d<y.d
 nd:(gs.map (·.g)).Nodup
 ne:∀x∈gs,x.rs≠[]
def Oi{r s:List V}(h:fU r s=true):iy r<=iy s:=by
 unfold fU at h
 by_cases e:iy r=iy s
 ·lia
 ·rw[A0i e]at h;exact Int.le_of_lt (qg h)
def Eu.UJ{gs:List Cd}{x:Cd}{o:List Addr}{p:Addr}(h:Eu dat (gs++[x]) o)(e:iy (dat p)=x.d):Eu dat (gs++[⟨x.d,x.g,x.rs++[p]⟩]) (o++[p]):=by
 have hc:=h.cat;refine⟨?_,fun y hy a ha=>?_,?_,?_,fun y hy=>?_⟩
 ·rw[j9,A2H]at hc ⊢;rw[<-hc];simp
 ·rcases A0l.mp hy with c|c
  ·exact h.day y (A0W _ c) a ha
  ·rw[A0b.mp c]at ha ⊢;rcases A0l.mp ha with c|c
   ·exact h.day x 0xA a c
   ·rw[A0b.mp c];exact e
 ·have:=h.up;rw[A2z]at this ⊢;exact⟨this.1,A3y ..,fun a ha b hb=>by rw[A0b.mp hb];exact this.2.2 a ha x 0xA⟩
 ·have:=h.nd;rw[j9]at this ⊢;exact this
 ·rcases A0l.mp hy with c|c
  ·exact h.ne y (A0W _ c)
  ·rw[A0b.mp c];simp
def Eu.Ys{gs:List Cd}{o:List Addr}{p g:Addr}(h:Eu dat gs o)(hd:iy (dat p)=d)(lt:∀x∈gs,x.d<d)(hg:∀x∈gs,x.g≠g):Eu dat (gs++[⟨d,g,[p]⟩]) (o++[p]):=by
 refine⟨?_,fun y hy a ha=>?_,?_,?_,fun y hy=>?_⟩
 ·rw[j9,A2H,h.cat];simp
 ·rcases A0l.mp hy with c|c
  ·exact h.day y c a ha
  ·rw[A0b.mp c]at ha ⊢;rw[A0b.mp ha];exact hd
 ·rw[A2z];exact⟨h.up,A3y ..,fun a ha b hb=>by rw[A0b.mp hb];exact lt a ha⟩
 ·rw[j9,A2y];refine⟨h.nd,by simp,fun a ha b hb=>?_⟩;obtain⟨x,hx,rfl⟩:=A0e.mp ha;simp at hb;rw[hb];exact hg x hx
 ·rcases A0l.mp hy with c|c
  ·exact h.ne y c
  ·rw[A0b.mp c];simp
theorem Ew:∀{gs:List Cd}{d:Int},bJ (rE gs) (.inl d)=none->∀x∈gs,x.d≠d
 |[],_,_,x,hx=>nomatch hx
 | y::gs,d,h,x,hx=>by
  by_cases e:y.d=d
  ·unfold rE bJ at h;rw[A0h,A1W (by simp[e])]at h;cases h
  ·rcases A0d.mp hx with rfl|c
   ·exact e
   ·refine Ew (gs:=gs) ?_ x c;unfold rE bJ at h ⊢;rw[A0h,A1X (by simp;exact e)]at h;exact h
theorem Ey:∀{gs:List Cd}{d:Int}{v:V},bJ (rE gs) (.inl d)=some v->∃x∈gs,x.d=d/\v=.ref x.g
 |[],_,_,h=>by cases h
 | y::gs,d,v,h=>by
  by_cases e:y.d=d
  ·unfold rE bJ at h;rw[A0h,A1W (by simp[e])]at h;injection h with h;exact⟨y,A0o,e,h.symm⟩
  ·obtain⟨x,hx,h1,h2⟩:=Ey (gs:=gs) (d:=d) (v:=v) (by
    unfold rE bJ at h ⊢;rw[A0h,A1X (by simp;exact e)]at h;exact h)
   exact⟨x,jK _ hx,h1,h2⟩
def Yt{gs:List Cd}{g:Addr}{rs:List Addr}(h:∀x∈gs,x.d≠d):putK (rE gs) (.inl d) (.ref g)=rE (gs++[⟨d,g,rs⟩]):=by
 have hf:(rE gs).any (fun kv=>decide (kv.1=(Sum.inl d:Key)))=false:=by
  rw[A3I];intro kv hkv;obtain⟨a,ha,rfl⟩:=A0e.mp hkv;simp only[A1Y];exact fun z=>h a ha (by injection z)
 unfold putK;rw[A0f (by rw[hf];exact A0r)];unfold rE;rw[j9];rfl
def Yu{gs:List Cd}(up:gs.Pairwise fun x y=>x.d<y.d){x:Cd}(hx:x∈gs)(le:∀y∈gs,y.d<=x.d):∃g0,gs=g0++[x]:=by
 obtain⟨s,t,rfl⟩:=List.append_of_mem hx;have h2:=(A2z.mp up).2.1;cases t with
 |nil=>exact⟨s,rfl⟩
 | cons y t=>
  have h3:=(List.pairwise_cons.mp h2).1 y 0xA;have h4:=le y 0xA;lia
inductive w6(K:W.Frag)(vs:List V)(H:Hp)(Q:VK)(cH:XK):Prop
 |mk(l:Addr)(all:List Addr)(dat:Addr->List V)(_:vs=[.ref l])(_:bY K H l 0x4A)(_:all.length<64)(_:jg H all dat)(_:∀D gs out H',Same H H'->H D=none->H' D=some (.dK (rE gs))->Lw H' gs->Eu dat gs out->out.Perm all->Ir dat out->(∀x∈gs,H x.g=none)->Q 0x4F H'):w6 K vs H Q cH
def wg:aP ["rows","days","row"] ["rows"] (aJ Bg):=0x0
def Oj(F:fj K "by_days" "by_days" Bg f fd)(G1:aL P w K mg base bL 4 g1 d1 ["rows"] (vY K))(M1:Ms K mg "judged_order" g1 d1 ["rows"]):aL P w K mg base bL 5 f fd ["rows"] (w6 K):=by
 refine F.ok wg 0x1 0x3;obtain⟨l,all,dat,rfl,hl,h64,RO,q⟩:=h;refine⟨_,aq (aV (i:=1) wg.nd rfl 0x8 jm)
  (aq (gF A0Q rfl (fu (bG G1 hr rfl M1.m M1.k M1.b .nil bC (aj 0x32 aC))) (bB (i:=2) wg.nd rfl 0x8)
   (aG (bM (j8 A0K A0R A0S dw (Ej 0xF (aN aY 0x3B aA 0x2) (cL aC) ⟨rfl,rfl,rfl,rfl⟩) 0x65))))
  (aG (aZ 0xF))),?_⟩
 intro D hD;have s1:=aK hD (.dK []);refine⟨_,rfl,l,rfl,all,dat,s1.seq hl,h64,⟨fun a ha=>⟨s1 _ _ (RO.1 a ha).1,(RO.1 a ha).2⟩,RO.2⟩,fun S out H2 s2 hS0 hS hp hu=>⟨S,rfl,⟨_,bY.of hS⟩,?_⟩⟩;have s12:=s1.trans s2;have row:∀a∈out,H a=some (.tup (dat a))/\gH (dat a):=fun a ha=>RO.1 a (hp.mem_iff.mp ha);have hol:out.length<64:=by rw[hp.length_eq];exact h64
 have hS1:H S=none:=s1.free hS0;refine gA (K:=K) (a:=S) (xs:=out.map V.ref) (fun i σ Hx=>∃(u:Option V)(gs:List Cd),σ=[some (.ref l),some 0x4F,u]/\Same H Hx/\Hx S=some (.lst 0x66)/\Hx D=some (.dK (rE gs))/\Lw Hx gs/\Eu dat gs (out.take i)/\(∀x∈gs,H x.g=none/\x.g≠S)/\gs.length<=i)
  ⟨none,[],rfl,s12,hS,s2 _ _ ao,(fun x hx=>nomatch hx),⟨rfl,(fun x hx=>nomatch hx),.nil,.nil,(fun x hx=>nomatch hx)⟩,(fun x hx=>nomatch hx),A1j _⟩ (fun i σ Hx _ h=>by obtain⟨_,_,_,_,h,_⟩:=h;exact bY.of h) ?_ ?_
 ·rintro i v σ Hx hv ⟨u,gs,rfl,sx,hSx,uc,GA,GO,fr,hgl⟩;rw[pF]at hv;obtain⟨p,hpi,rfl⟩:=A0J.mp hv;have hil:i<out.length:=(A0j.mp hpi).1;have pm:p∈out:=wU hpi;have tk:out.take (i+1)=out.take i++[p]:=by rw[A1e,hpi];rfl
  obtain⟨hpt,k0,d,rest,lf,RD⟩:=row p pm;have hpx:=sx _ _ hpt;have ed:iy (dat p)=d:=by rw[RD.e];rfl
  have a1:xT (dat p) 1=some (.int d):=aH (j:=1) (by rw[RD.e];rfl);have le:∀x∈gs,x.d<=d:=fun x hx=>by
   obtain⟨a,ha⟩:=List.exists_mem_of_ne_nil _ (GO.ne x hx);have hm:a∈out.take i:=by rw[<-GO.cat];exact List.mem_flatten.mpr ⟨_,A0e.mpr ⟨x,hx,rfl⟩,ha⟩
   rw[<-GO.day x hx a ha,<-ed];obtain⟨j,hj,rfl⟩:=A1T.mp hm;rw[A0H]at hj;rw[A4z];have:=A1s.mp hu j i 0x4 hil 0x4;rw[(A0j.mp hpi).2]at this;exact Oi this
  have nDS:D≠S:=aO uc hSx 0x6;refine⟨_,rfl,D,rfl,.inl ⟨_,.inl uc⟩,_,rfl,p,_,_,_,rfl,rfl,bN.of hpx,a1,small 0xA,fun e he=>?_⟩;have nDe:D≠e:=au uc he;have nSe:S≠e:=au hSx he;have se:=aK he 0x54;refine⟨rE gs,.inl d,by rw[ak nDe];exact uc,rfl,bO (by rw[show(rE gs).length=gs.length from cM ..];lia),fun v hv=>?_,fun hn=>?_⟩
  ·obtain⟨x,hx,hxd,rfl⟩:=Ey hv;obtain⟨g0,rfl⟩:=Yu GO.up hx (fun y hy=>by rw[hxd];exact le y hy);have gx:=se _ _ (GA x hx);have nxD:x.g≠D:=aO gx (by rw[ak nDe];exact uc) 0x6;have hdn:=GO.nd;rw[j9,A2y]at hdn;have hln:x.rs.length<1000:=by
    have h1:((g0++[x]).map (·.rs)).flatten.length<=i:=by rw[GO.cat,A0H];lia
    rw[j9,A2H,iD]at h1;simp at h1;lia
   refine⟨.inl ⟨rfl,_,bY.of gx⟩,_,rfl,x.g,_,_,rfl,rfl,gx,bO (by rw[cM];lia),?_⟩;refine⟨_,g0++[⟨x.d,x.g,x.rs++[p]⟩],rfl,?_,?_,?_,fun y hy=>?_,by rw[tk];exact GO.UJ (ed.trans hxd.symm),fun y hy=>?_,?_⟩
   ·exact fun c o hc=>by rw[ak (au hc (fr x hx).1)];exact se _ _ (sx _ _ hc)
   ·rw[ak (A0m (fr x hx).2)];exact se _ _ hSx
   ·rw[ak (A0m nxD),ak nDe,uc];unfold rE;rw[j9,j9];rfl
   ·rcases A0l.mp hy with c|c
    ·have nyx:y.g≠x.g:=hdn.2.2 _ (A0e.mpr ⟨y,c,rfl⟩) _ 0xA;rw[ak nyx];exact se _ _ (GA y (A0W _ c))
    ·rw[A0b.mp c,ao,j9];rfl
   ·rcases A0l.mp hy with c|c
    ·exact fr y (A0W _ c)
    ·rw[A0b.mp c];exact fr x hx
   ·rw[iD]at hgl ⊢;simp at hgl ⊢;lia
  ·have hne:=Ew hn;have he0:H e=none:=sx.free he;have neD:e≠D:=A0m nDe;have gx:(upd (upd Hx e 0x54) D (.dK (putK (rE gs) (.inl d) (.ref e)))) e=some 0x54:=by rw[ak neD,ao]
   refine⟨.inl ⟨rfl,_,bY.of gx⟩,_,rfl,e,_,_,rfl,rfl,gx,bO 0x5,?_⟩;refine⟨_,gs++[⟨d,e,[p]⟩],rfl,?_,?_,?_,fun y hy=>?_,by rw[tk];exact GO.Ys ed (fun x hx=>by have:=le x hx;have:=hne x hx;lia) (fun x hx=>au (GA x hx) he),fun y hy=>?_,?_⟩
   ·exact fun c o hc=>by rw[ak (au hc he0),ak (au hc hD),ak (au hc he0)];exact sx _ _ hc
   ·rw[ak nSe,ak (A0m nDS),ak nSe];exact hSx
   ·rw[ak nDe,ao,Yt hne]
   ·rcases A0l.mp hy with c|c
    ·have n1:y.g≠e:=au (GA y c) he;have n2:y.g≠D:=aO (GA y c) uc 0x6;rw[ak n1,ak n2,ak n1];exact GA y c
    ·rw[A0b.mp c,ao];rfl
   ·rcases A0l.mp hy with c|c
    ·exact fr y c
    ·rw[A0b.mp c];exact⟨he0,A0m nSe⟩
   ·rw[iD];simp;lia
 ·rintro σ Hx ⟨u,gs,rfl,sx,hSx,uc,GA,GO,fr,_⟩;rw[cM,A1f]at GO;exact⟨_,rfl,q D gs out Hx sx hD uc GA GO hp hu fun x hx=>(fr x hx).1⟩
end M
namespace L2
open PySem PySem.Spec PyProof.Rows
inductive a0b(Q:VK)(v:V)(H1:Hp):Prop
 |mk(a:Addr)(kvs:List 0x21)(_:v=.ref a)(_:H1 a=some 0x16)(_:∀o,Q v (upd H1 a 0x5C)):a0b Q v H1
def tFz(t:TE):TE:=fun σ H Q=>t σ H fun v H1=>a0b Q v H1
def a3F{t:TE}(he:PE X e t):PE X e (tFz t):=by
 intro pins s σ H Q I h;refine A1i 0x49 (fun v s' hq=>?_) fun _ _ y=>y;obtain⟨x,H',I',r,a,kvs,rfl,ea,q⟩:=hq;obtain⟨o,I1,n⟩:=I'.freeze ea;exact⟨_,_,I1,r,q o⟩
def Ol{o:Obj}(Pv:Nat->St->Hp->Prop)(h0:Pv 0 σ H)(hl:∀i σ H,i<=kvs.length->Pv i σ H->H a=some 0x5C)
  (hb:∀i kv σ H p,kvs[i]?=some kv->Pv i σ H->H p=none->g 0x46 σ (upd H p (.tup [kV kv.1,kv.2])) fun σ2 H2=>tb {D with nx:=Pv (i+1),ct:=Pv (i+1),bk:=D.nx} σ2 H2)
  (he:∀σ H,Pv kvs.length σ H->D.nx σ H):∃W:Nat->Nat->St->Hp->Prop,(∃m,W 0 m σ H)/\∀i m σ H,W i m σ H->
   ((Zx a o kvs).stop i H/\D.nx σ H)\/((Zx a o kvs).go i H/\∃N:St->Hp->Prop,(∀σ' H',N σ' H'->∃m',m'<m/\W (i+1) m' σ' H')/\∀x H',(Zx a o kvs).Pk i H x H'->g x σ H' fun σ2 H2=>tb {D with nx:=N,ct:=N,bk:=D.nx} σ2 H2):=by
 refine⟨fun i m σ H=>i+m=kvs.length/\Pv i σ H,⟨kvs.length,by lia,h0⟩,?_⟩;rintro i m σ H ⟨hm,hP⟩;have hf:=hl i σ H 0x4 hP
 by_cases hi:i<kvs.length
 ·refine .inr ⟨⟨hf,hi⟩,Pv (i+1),fun σ' H' h=>⟨m-1,by lia,by lia,h⟩,?_⟩;rintro x H' ⟨p,kv,hkv,rfl,hp,rfl⟩;exact hb i kv σ H p hkv hP hp
 ·have e:i=kvs.length:=by lia
  subst e;exact .inl ⟨⟨hf,A0g _⟩,he σ H hP⟩
end L2
namespace M
open PySem L2 PyProof.Rows
abbrev Bh:Stmt:=inClass (top 45) 1
structure oK(K:PySem.W.Frag)(CC:Addr):Prop where
 cl:Cls K CC
 n1:dZ K CC "many_acres"
 n2:dZ K CC "coins"
 n3:dZ K CC "realm"
 n4:dZ K CC "judged"
 n5:dZ K CC "lands"
abbrev FT(n b:Int)(z jl ll:Addr):List 0x81:=[0x5A,("coins",.int b),("realm",.ref z),("judged",.ref jl),("lands",.ref ll)]
theorem wj{H:Hp}{f:aQ->V}{g:aQ->PyData}:∀{es:List aQ},(∀e∈es,cZ H (f e) (g e)/\(g e).canLay0=true/\(g e).depth<=8)->wZ H 0x53 (kd g es)
 |[],_=>.nil
 |y::es,h=>.cons ⟨rfl,h y A0o⟩ (wj (es:=es) fun e he=>h e (jK _ he))
def UL{es:List aQ}(W:WF es):wZ H (kO es) (loD es):=wj fun e he=>by
 by_cases hn:e.n=""
 ·obtain⟨c,r,rfl,hc,hl,_⟩:=W.hd;have:e=c:=gC W.nd he A0o (hn.trans hc.symm);rw[this,hl];exact⟨.non,rfl,by decide⟩
 ·obtain⟨p,hp,hm,_⟩:=W.lord e he hn;obtain⟨z,hz,rfl⟩:=dF hm;rw[hp];exact⟨.str _,W.ok z hz,by show PyData.depth (.str _)<=8;exact A0V rfl⟩
def UW{es:List aQ}(M:Mn es):wZ H (hoL es) (hoD es):=wj fun e he=>⟨.str _,M e he,A0V rfl⟩
def V0{es:List aQ}:wZ H (lV es) (owD es):=wj fun e he=>⟨.int _,rfl,A0V rfl⟩
def V1{es:List aQ}(fr:∀e∈es,je H e.ta e.due.1 e.due.2):wZ H (T8 es) (seD es):=wj fun e he=>⟨.tup 0x86 (.cons (.int _) (.cons (.int _) .nil)),rfl,A0V rfl⟩
structure Kept(C:Addr)(H:Hp)(qk:Ad)(ek:List aQ)(kk ks:List Str):Prop where
 L:Ln C qk H ek
 fr:∀e∈ek,je H e.ta e.due.1 e.due.2
 W:WF ek
 M:Mn ek
 o:Ao ek kk
 pre:kk<+:ks
def Kept.same{qk:Ad}{ek:List aQ}{kk:List Str}(a:Kept C H qk ek kk ks)(s:Same H H'):Kept C H' qk ek kk ks:=⟨a.L.same s,fun e he=>s _ _ (a.fr e he),a.W,a.M,a.o,a.pre⟩
def Kept.store{qk:Ad}{ek:List aQ}{kk:List Str}{fs:List 0x81}(a:Kept C H qk ek kk ks)(hc:H c=some (.ins CC dc fs))(hx:qk.x≠c):Kept C (upd H c (.ins CC dc fs')) qk ek kk ks:=
 ⟨⟨by rw[ak hx];exact a.L.o,by rw[ak (aO a.L.l1 hc 0x6)];exact a.L.l1,by rw[ak (aO a.L.l2 hc 0x6)];exact a.L.l2,by rw[ak (aO a.L.l3 hc 0x6)];exact a.L.l3,by rw[ak (aO a.L.l4 hc 0x6)];exact a.L.l4,by rw[ak (aO a.L.l5 hc 0x6)];exact a.L.l5⟩,
  fun e he=>by have h:=a.fr e he;unfold je at h ⊢;rw[ak (aO h hc 0x6)];exact h,a.W,a.M,a.o,a.pre⟩
def Kept.lst{qk:Ad}{ek:List aQ}{kk:List Str}{xs':List V}(a:Kept C H qk ek kk ks)(hc:H c=some 0x4D):Kept C (upd H c (.lst xs')) qk ek kk ks:=
 ⟨⟨by rw[ak (aO a.L.o hc 0x6)];exact a.L.o,by rw[ak (aO a.L.l1 hc 0x6)];exact a.L.l1,by rw[ak (aO a.L.l2 hc 0x6)];exact a.L.l2,by rw[ak (aO a.L.l3 hc 0x6)];exact a.L.l3,by rw[ak (aO a.L.l4 hc 0x6)];exact a.L.l4,by rw[ak (aO a.L.l5 hc 0x6)];exact a.L.l5⟩,
  fun e he=>by have h:=a.fr e he;unfold je at h ⊢;rw[ak (aO h hc 0x6)];exact h,a.W,a.M,a.o,a.pre⟩
def Yv{h l:Int}{A:Prop}(h1:h=l->A)(h2:h≠l->B):if decide (V.int h=V.int l)=true then A else B:=by
 refine iu (fun c=>h1 ?_) fun c=>h2 fun z=>c (A0k (by rw[z]));have:=qg c;injection this
structure PN where
 d:Int
 q:Ad
 es:List aQ
 kk:List Str
structure Ly(C:Addr)(H:Hp)(ll:Addr)(ni:List Addr)(sp:List PN)(ks:List Str):Prop where
 l:H ll=some (.lst (ni.map V.ref))
 pr:Paired (fun a(s:PN)=>H a=some (.tup [.int s.d,.ref s.q.x])) ni sp
 kp:∀s∈sp,Kept C H s.q s.es s.kk ks
 dy:∀s∈sp,s.d<=9999
 ne:sp≠[]
def NwS(sp:List PN)(d:Int)(es:List aQ)(FN:List PN):Prop:=(d=0/\∃s:PN,s.d=0/\s.es=es/\FN=[s])\/(d≠0/\∃s0,sp.getLast?=some s0/\((KN es s0.es=true/\FN=sp)\/(KN es s0.es=false/\∃s:PN,s.d=d/\s.es=es/\FN=sp++[s])))
theorem nq{α β:Type}{R:α->β->Prop}:∀{l:List α}{m:List β}{b:β},Paired R l (m++[b])->∃l0 a,l=l0++[a]/\Paired R l0 m/\R a b
 |_,[],_,.cons h .nil=>⟨[],_,rfl,.nil,h⟩
 | _,_::_,_,.cons h r=>by
  obtain⟨l0,a,rfl,p,q⟩:=nq r;exact⟨_::l0,a,rfl,.cons h p,q⟩
def Fk(H:Hp)(qk:Ad):Prop:=H qk.x=none/\∀a∈[qk.a1,qk.a2,qk.a3,qk.a4,qk.a5],H a=none
inductive wk(CC CR CK C:Addr)(vs:List V)(H:Hp)(Q:VK)(cH:XK):Prop
 |mk(c dc jl ll:Addr)(m:Rm)(q:Ad)(W:M.Wo)(sp:List M.PN)(ni:List Addr)(n b d:Int)(_:vs=[.ref c,.int d])(_:H c=some 0x5D)(_:cR CR CK C H m q W)(_:WF W.es)(_:Mn W.es)(_:Ao W.es W.ks)(_:(∀e∈W.es,je H e.ta e.due.1 e.due.2))(_:bJ (PB W.es) (.inr "")=some (.int n))(_:1<=n)(_:n<=9999)(_:d<=9999)(_:Ly C H ll ni sp W.ks)(_:ni.length<=1000)(_:∀Iw Ez FN H',(∀a u,a≠c->a≠ll->H a=some u->H' a=some u)->H' c=some (.ins CC dc (FT n b m.z jl Iw))->Ly C H' Iw Ez FN W.ks->NwS sp d W.es FN->Ez.length<=ni.length+1->(Iw=ll\/H Iw=none)->(∀s∈FN,s∈sp\/Fk H s.q)->Q .non H'):wk CC CR CK C vs H Q cH
section
variable{CR:Addr}
def EY:aP ["self","day","ground"] ["self","day"] (aJ Bh):=0x0
def Om(l0:List Addr)(t:Addr):xT ((l0++[t]).map V.ref) (-1)=some 0x58:=by
 rw[j9];exact CG _ _
def Oo(TC:oK K CC)(TR:gP K CR)(T:fK K C)(F:fj K "end_day" "Court.end_day" Bh f fd) 
  (G1:aL P w K mg base bL 5 g1 d1 A5z (qR C))(m1:Meth K C "twin" g1)(b1:Binds K d1 A5z [])
  (G2:aL P w K mg base bL 1 g2 d2 ["self","other"] (Av C))(m2:Meth K C "same" g2)(b2:Binds K d2 ["self","other"] []):
  aL P w K mg base bL 6 f fd ["self","day"] (wk CC CR CK C):=by
 refine F.ok EY 0x1 0x3;obtain⟨c,dc,jl,ll,m,q,W,sp,ni,n,b,d,rfl,hc,R,Wf,MN,OK,fr,hbr,n1,n2,hd,LA,hlt,k⟩:=h;have hr1:cG 1 _:=hr.mono 0x5;refine⟨_,aq (aV (i:=2) EY.nd rfl 0x8 (bf 0xB rfl))
  (aG (bK (aU fJ 0xF aA 0x61)
   (aG (eF 0x32 (cL (aj (cu (aj aA (aj (nY (CX:=bL) (E:=E0) 0x3B T.cl m1 G1 hr b1 .nil bC) aC))) aC)) rfl))
   (aG (bK (ig (dJ (bZ (CX:=bL) (E:=E0) 0x3B T.cl m2 G2 hr1 b2 .nil bC (aj (aN aY (aN bD 0xB (uL pR aA) 0x2) aA 0x2) aC))))
    (aG (bM (j8 A0K A0R A0S dw 0xB (aj (cu (aj 0xF (aj (nY (CX:=bL) (E:=E0) 0x3B T.cl m1 G1 hr b1 .nil bC) aC))) aC)))) aR)))),?_⟩
 refine⟨_,rfl,c,CC,dc,_,_,rfl,hc,TC.cl,TC.n3,rfl,m.z,CR,m.dz,_,_,rfl,R.o,TR.cl,TR.n1,rfl,?_⟩;have twin:∀(Q1:VK),(∀y H1,Same H H1->H y=none->(∃Yw,Yw.x=y/\Kept C H1 Yw W.es W.ks W.ks/\Fk H Yw)->Q1 (.ref y) H1)->qR C [.ref q.x] H Q1 E0:=fun Q1 k1=>
  ⟨q.x,q.dx,q.a1,q.a2,q.a3,q.a4,q.a5,_,_,_,_,_,n,rfl,R.L,hbr,n1,n2,fun y dy c1 c2 c3 c4 c5 H1 s1 L1 hy h1 h2 h3 h4 h5 _=>k1 y H1 s1 hy ⟨adL y dy c1 c2 c3 c4 c5 n,rfl,⟨L1,fun e he=>s1 _ _ 0x86,Wf,MN,OK,A3T _⟩,hy,fun a ha=>by
   simp only[A0d,A0s,A1d]at ha;rcases ha with z|z|z|z|z<;>(rw[z];assumption)⟩⟩
 refine⟨_,rfl,rfl,_,rfl,Yv (fun e=>?_) (fun hd0=>?_)⟩
 ·refine⟨_,rfl,q.x,q.dx,_,rfl,R.L.o,rfl,?_⟩;dsimp only[lC,List.cons_append,List.nil_append];refine twin _ fun y H1 s1 hy0 hkp=>?_;obtain⟨Yw,hqx,K1,FK⟩:=hkp;refine⟨small 0xA,fun t ht=>⟨small 0xA,fun l' hl'=>?_⟩⟩;have st:=aK ht 0x79;have t1:(upd H1 t 0x79) t=some 0x79:=ao;generalize upd H1 t 0x79=H2 at st t1 hl' ⊢;have sl:=aK hl' (.lst [V.ref t]);have l1:(upd H2 l' (.lst [V.ref t])) l'=some (.lst [V.ref t]):=ao;have hl0:H l'=none:=(s1.trans st).free hl';generalize upd H2 l' (.lst [V.ref t])=H3 at sl l1 ⊢;have s3:=s1.trans (st.trans sl);have c3:=s3 _ _ hc;have t3:=sl _ _ t1;refine⟨_,rfl,c,CC,dc,_,rfl,c3,TC.cl,TC.n5,A0y rfl,?_⟩;refine k l' [t] [⟨0,Yw,W.es,W.ks⟩] _ (fun a u h1 _ ha=>by rw[ak h1];exact s3 _ _ ha) (by rw[ao];rfl) ⟨?_,.cons ?_ .nil,fun s hs=>?_,fun s hs=>?_,by simp⟩ (.inl ⟨e,_,rfl,rfl,rfl⟩) 0xA (.inr hl0) fun s hs=>.inr (by rw[A0b.mp hs];exact FK)
  ·rw[ak (aO l1 c3 0x6)];exact l1
  ·show(upd H3 c _) t=some (.tup [.int 0,.ref Yw.x])
   rw[hqx,ak (aO t3 c3 0x6)];exact t3
  ·rw[A0b.mp hs];refine(K1.same (st.trans sl)).store c3 ?_;rw[hqx];exact fun z=>by rw[z,hc]at hy0;cases hy0
  ·rw[A0b.mp hs];exact(by decide:(0:Int)<=9999)
 ·obtain⟨sp0,s0,hsp⟩:∃sp0 s0,sp=sp0++[s0]:=by
   rcases List.eq_nil_or_concat sp with z|⟨a,b,z⟩
   ·exact absurd z LA.ne
   ·exact⟨a,b,by rw[z,List.concat_eq_append]⟩
  have hla:sp.getLast?=some s0:=by rw[hsp];simp
  have PR:=LA.pr;rw[hsp]at PR;obtain⟨l0,t,hlts,_,ht⟩:=nq PR;have KP:=LA.kp s0 (by rw[hsp];simp);refine⟨_,rfl,q.x,q.dx,_,rfl,R.L.o,rfl,_,rfl,c,CC,dc,_,_,rfl,hc,TC.cl,TC.n5,rfl,1,rfl,ll,_,_,_,rfl,rfl,bY.of LA.l,by rw[hlts];exact Om l0 t,t,_,_,_,rfl,rfl,bN.of ht,aH (j:=1) rfl,?_⟩;refine⟨q.x,q.dx,q.a1,q.a2,q.a3,q.a4,q.a5,_,_,_,_,_,s0.q.x,s0.q.dx,s0.q.a1,s0.q.a2,s0.q.a3,s0.q.a4,s0.q.a5,_,_,_,_,_,_,_,_,_,_,_,_,_,rfl,R.L,KP.L,UL Wf,UW MN,V0,V1 fr,UL KP.W,UW KP.M,V0,V1 KP.fr,_,rfl,?_⟩
  show if(!(KN W.es s0.es))=true then _ else _
  cases hs:KN W.es s0.es with
  |true=>exact cg (k ll ni sp H (fun a u _ _ h=>h) hc LA (.inr ⟨hd0,s0,hla,.inl ⟨hs,rfl⟩⟩) 0x4 0x5F fun s hs=>.inl hs)
  | false=>
   refine cW ⟨_,rfl,c,CC,dc,_,_,rfl,hc,TC.cl,TC.n5,rfl,.inl ⟨rfl,_,bY.of LA.l⟩,_,rfl,_,rfl,q.x,q.dx,_,rfl,R.L.o,rfl,?_⟩;dsimp only[lC,List.cons_append,List.nil_append];refine twin _ fun y H1 s1 hy0 hkp=>?_;obtain⟨Yw,hqx,K1,FK⟩:=hkp;refine⟨small 0xA,fun t' ht'=>?_⟩;have st:=aK ht' (.tup [V.int d,V.ref y]);have t1:(upd H1 t' (.tup [V.int d,V.ref y])) t'=some (.tup [V.int d,V.ref y]):=ao;generalize upd H1 t' (.tup [V.int d,V.ref y])=H2 at st t1 ⊢;have s2:=s1.trans st;have l2:=s2 _ _ LA.l;refine⟨ll,_,_,rfl,rfl,l2,bO (by rw[cM];lia),?_⟩;have el:ni.map V.ref++[V.ref t']=(ni++[t']).map V.ref:=by rw[j9];rfl
   rw[el];have tk:∀{a:Addr}{xs:List V},H2 a=some 0x23->(upd H2 ll (.lst ((ni++[t']).map V.ref))) a=some 0x23:=fun h=>by rw[ak (aO h l2 0x6)];exact h
   refine k ll (ni++[t']) (sp++[⟨d,Yw,W.es,W.ks⟩]) _ (fun a u _ h2 ha=>by rw[ak h2];exact s2 _ _ ha) ?_ ⟨ao,A4w (Paired.imp' (fun a s h=>tk (s2 _ _ h)) LA.pr) ?_,fun s hs=>?_,fun s hs=>?_,by simp⟩ (.inr ⟨hd0,s0,hla,.inr ⟨hs,_,rfl,rfl,rfl⟩⟩) (by rw[iD];simp) 0x5F fun s hs=>?_
   ·rw[ak (aO hc LA.l 0x6)];exact s2 _ _ hc
   ·show(upd H2 ll _) t'=some (.tup [.int d,.ref Yw.x])
    rw[hqx];exact tk t1
   ·rcases A0l.mp hs with z|z
    ·exact((LA.kp s z).same s2).lst l2
    ·rw[A0b.mp z];exact(K1.same st).lst l2
   ·rcases A0l.mp hs with z|z
    ·exact LA.dy s z
    ·rw[A0b.mp z];exact hd
   ·rcases A0l.mp hs with z|z
    ·exact .inl z
    ·rw[A0b.mp z];exact .inr FK
abbrev ur:Stmt:=top 46
structure Ab(e e':aQ):Prop where
 n:e.n=e'.n
 lord:e.lord=e'.lord
 man:e.man=e'.man
 own:e.own=e'.own
 br:e.br=e'.br
 due:e.due=e'.due
abbrev mY:List aQ->List aQ->Prop:=Paired Ab
def mY.nms{es es':List aQ}(h:mY es es'):nms es=nms es':=by
 induction h with
 |nil=>rfl
 | @cons x y xs ys a _ ih=>
  show x.n::M.nms xs=y.n::M.nms ys
  rw[a.n,ih]
def mY.mem{es es':List aQ}(h:mY es es'):∀{e:aQ},e∈es->∃e'∈es',Ab e e':=by
 induction h with
 |nil=>intro e h;cases h
 | cons a _ ih=>
  intro e he;rcases A0d.mp he with rfl|h
  ·exact⟨_,A0o,a⟩
  ·obtain⟨e',h1,h2⟩:=ih h;exact⟨e',jK _ h1,h2⟩
def mY.map{es es':List aQ}{g g':aQ->aQ}(h:mY es es')(hg:∀e e',Ab e e'->Ab (g e) (g' e')):mY (es.map g) (es'.map g'):=by
 induction h with
 |nil=>exact .nil
 |cons a _ ih=>exact .cons (hg _ _ a) ih
def mY.filter{es es':List aQ}{m:Str}(h:mY es es'):mY (es.filter fun y=>decide (y.n≠m)) (es'.filter fun y=>decide (y.n≠m)):=by
 induction h with
 |nil=>exact .nil
 | @cons x y xs ys a _ ih=>
  by_cases c:x.n=m
  ·rw[A1r 0x3D,A1r (by rw[<-a.n];simpa using c)];exact ih
  ·rw[A1g 0x3D,A1g (by rw[<-a.n];simpa using c)];exact .cons a ih
def mY.mod{es es':List aQ}{g g':aQ->aQ}{m m':Str}(h:mY es es')(hm:m=m')(hg:∀e e',Ab e e'->Ab (g e) (g' e')):mY (mod m g es) (mod m' g' es'):=by
 subst hm;refine mY.map h fun e e' a=>?_
 by_cases c:e.n=m
 ·rw[A0i c,A0i (a.n▸ c)];exact hg e e' a
 ·rw[A0f c,A0f (fun z=>c (a.n.trans z))];exact a
def mY.snoc{es es':List aQ}{x x':aQ}(h:mY es es')(a:Ab x x'):mY (es++[x]) (es'++[x']):=A4w h a
def V2{es es':List aQ}{cN:Rw}{y y':aQ}{t1' t2' b1' b2':Addr}(h:mY es es')(hy:Ab y y'):mY 0x42 (stp y' es' t1' t2' b1' b2' cN):=by
 cases cN with
 |grant e n m a s=>exact mY.snoc (mY.mod h hy.n fun e e' q=>⟨q.n,q.lord,q.man,by show e.own-a=e'.own-a;rw[q.own],q.br,q.due⟩) ⟨rfl,by show some y.n=some y'.n;rw[hy.n],rfl,rfl,rfl,rfl⟩
 |part e n m a=>exact mY.snoc (mY.mod h hy.n fun e e' q=>⟨q.n,q.lord,q.man,by show e.own-a=e'.own-a;rw[q.own],by show e.br-a=e'.br-a;rw[q.br],by show oY (e.due.1*(e.br-a)) (e.due.2*e.br)=oY (e'.due.1*(e'.br-a)) (e'.due.2*e'.br);rw[q.due,q.br]⟩) ⟨rfl,hy.lord,rfl,rfl,rfl,by show oY (y.due.1*a) (y.due.2*y.br)=oY (y'.due.1*a) (y'.due.2*y'.br);rw[hy.due,hy.br]⟩
 |convey e m=>exact mY.mod h hy.n fun e e' q=>⟨q.n,q.lord,rfl,q.own,q.br,q.due⟩
 | gq e=>
  show mY (cO y.n 0x7F y.own es) (cO y'.n (y'.lord.getD "") y'.own es')
  rw[hy.n,hy.lord,hy.own];refine mY.map (mY.filter h) fun e e' q=>⟨q.n,?_,q.man,?_,q.br,q.due⟩
  ·show(if e.lord=_ then _ else e.lord)=(if e'.lord=_ then _ else e'.lord);rw[q.lord]
  ·show(if e.n=_ then e.own+_ else e.own)=(if e'.n=_ then e'.own+_ else e'.own);rw[q.n,q.own]
structure Mix(E ek es:List aQ):Prop where
 ab:mY E es
 a1:kO E=kO ek
 a2:hoL E=hoL ek
 a3:lV E=lV ek
 a4:T8 E=T8 ek
 a5:PB E=PB ek
 b1:kO E=kO es
 b2:hoL E=hoL es
 b3:lV E=lV es
 b4:qO E=qO es
 fa:∀e∈E,∃a∈ek,e.ta=a.ta/\e.due=a.due
 fb:∀e∈E,∃b∈es,e.tb=b.tb/\e.due=b.due
def AbW(W W':Wo):Prop:=mY W.es W'.es/\W.ks=W'.ks/\W.hs=W'.hs/\W.dd=W'.dd/\W.lg=W'.lg
def mY.bound{es es':List aQ}(h:mY es es'){m:Str}(b:Bound es m l):Bound es' m l:=by
 obtain⟨y,hy,h1,h2,z,hz,h3,h4⟩:=b;obtain⟨y',hy',a⟩:=h.mem hy;obtain⟨z',hz',c⟩:=h.mem hz;exact⟨y',hy',a.man▸ h1,a.n▸ h2,z',hz',by rw[<-a.lord,h3,c.n],c.man▸ h4⟩
def mY.symm{es es':List aQ}(h:mY es es'):mY es' es:=by
 induction h with
 |nil=>exact .nil
 |cons a _ ih=>exact .cons ⟨a.n.symm,a.lord.symm,a.man.symm,a.own.symm,a.br.symm,a.due.symm⟩ ih
def mY.held{es es':List aQ}(h:mY es es')(m:Str):(es.filter fun y=>decide (y.man=m)).map (·.n)=(es'.filter fun y=>decide (y.man=m)).map (·.n):=by
 induction h with
 |nil=>rfl
 | @cons x y xs ys a _ ih=>
  by_cases c:x.man=m
  ·rw[A1g 0x3D,A1g (by rw[<-a.man];simpa using c),A0h,A0h,ih,a.n]
  ·rw[A1r 0x3D,A1r (by rw[<-a.man];simpa using c),ih]
def Fo.inv{es es':List aQ}{L:List Str}(f:Fo r es L es'):∀{ss:List Str}{n:Str},L=ss++[n]->∃e1 y,Fo r es ss e1/\y∈e1/\y.n=n/\es'=stp y e1 0 0 0 0 (vM r n):=by
 cases f with
 |nil=>intro ss n e;simp at e
 | snoc f hy hn=>
  intro ss n e;obtain⟨e1,e2⟩:=List.append_inj' e rfl;injection e2 with e2;subst e1;subst e2;exact⟨_,_,f,hy,rfl,rfl⟩
def Fo.det{es es' e1:List aQ}(h:mY es es')(f:Fo r es ss e1):∀{e1':List aQ},(∀{ss' e2},Fo r es' ss' e2->(nms e2).Nodup)->Fo r es' ss e1'->mY e1 e1':=by
 induction f with
 | nil=>
  intro e1' _ f';generalize hL:([]:List Str)=L at f';cases f' with
  |nil=>exact h
  |snoc _ _ _=>exact absurd (A1R List.length hL) 0xA
 | snoc f hy hn ih=>
  intro e1' nd f';obtain⟨e2,y',f2,hy',hn',rfl⟩:=f'.inv rfl;have a:=ih nd f2;obtain⟨y'',hm,ay⟩:=a.mem hy;have:=gC (nd f2) hm hy' (ay.n.symm.trans hn'.symm);subst this;exact V2 a ay
def Jo.det{W W1 W2 W3:Wo}{ro:Ro}{w w':Str}(h:AbW W W1)(R:Wp W1 ls j wd)(hls:∀n∈ls,n≠""/\PyData.strOk n=true)(J:Jo W dy ro w W2)(J':Jo W1 dy ro w' W3):w=w'/\AbW W2 W3:=by
 obtain⟨es,ks,hs,dd,lg⟩:=W;obtain⟨es1,ks1,hs1,dd1,lg1⟩:=W1;obtain⟨h,e1,e2,e3,e4⟩:=h;dsimp only at h e1 e2 e3 e4;subst e1;subst e2;subst e3;subst e4;have hn:=h.nms;have nd:=R.E.P.W.nd;have mm:∀{l:List aQ}{y:aQ}{e:Str},y∈l->y.n=e->e∈nms l:=fun hy e=>e▸ A0e.mpr ⟨_,hy,rfl⟩;have one:∀{y y':aQ}{e:Str},y∈es->y'∈es1->y.n=e->y'.n=e->Ab y y':=fun{y y' e}hy hy' a b=>by
  obtain⟨z,hz,az⟩:=h.mem hy;have:=gC nd hz hy' (az.n.symm.trans (a.trans b.symm));subst this;exact az
 have old:AbW ⟨es,ks,hs,dd,lg⟩ ⟨es1,ks,hs,dd,lg⟩:=⟨h,rfl,rfl,rfl,rfl⟩;cases J with
 | no q=>
  dsimp only at q;rw[hn]at q;cases J' with
  |no _=>exact⟨rfl,old⟩
  |tk _ p _=>exact absurd p q
  |de _ p _ _=>exact absurd p q
  |ac _ p1 p2 _ _ _=>exact absurd (mm p1 p2) q
  |st _ _ _ _ p _=>exact absurd (mm p.est.1 p.est.2.1) q
 | tk f q q2=>
  dsimp only at q;rw[hn]at q;cases J' with
  |no p=>exact absurd q p
  |tk _ _ _=>exact⟨rfl,old⟩
  |de _ _ p _=>exact absurd q2 (p _ f)
  |ac g _ _ p _ _=>rw[f]at g;injection g with g;subst g;exact absurd q2 p
  |st _ _ _ _ p _=>exact absurd q2 (p.est.2.2 _ f).1
 | de f q q2 q3=>
  dsimp only at q;rw[hn]at q;cases J' with
  |no p=>exact absurd q p
  |tk g _ p=>exact absurd p (q2 _ g)
  |de _ _ _ _=>exact⟨rfl,old⟩
  |ac _ _ _ _ p _=>exact absurd q3 (p _ f)
  |st _ _ _ _ _ p=>exact absurd q3 (p _ f)
 | ac f q1 q2 q3 q4 q5=>
  cases J' with
  |no p=>exact absurd (hn▸ mm q1 q2) p
  |tk g _ p=>rw[f]at g;injection g with g;subst g;exact absurd p q3
  |de g _ _ p=>exact absurd p (q4 _ g)
  |ac _ _ _ _ _ _=>exact⟨rfl,old⟩
  |st _ _ _ _ p _=>have:=(one q1 p.est.1 q2 p.est.2.1).own;have:=(p.est.2.2 _ f).2;lia
 | @st r y t1 t2 b1 b2 q qm=>
  cases J' with
  |no p=>exact absurd (hn▸ mm q.est.1 q.est.2.1) p
  |tk g _ p=>exact absurd p (q.est.2.2 _ g).1
  |de g _ _ p=>exact absurd p (qm _ g)
  |ac g p1 p2 _ _ p5=>have:=(one q.est.1 p1 q.est.2.1 p2).own;have:=(q.est.2.2 _ g).2;lia
  | @st _ y' t1' t2' b1' b2' p _=>
   refine⟨rfl,?_,rfl,rfl,rfl,rfl⟩
   show mY (stp y es t1 t2 b1 b2 r) (stp y' es1 t1' t2' b1' b2' r)
   exact V2 h (one q.est.1 p.est.1 q.est.2.1 p.est.2.1)
 | hd q=>
  cases J' with
  |hd _=>exact⟨rfl,old⟩
  |hr p=>exact absurd q p
 | hr q=>
  cases J' with
  |hd p=>exact absurd p q
  |hr _=>exact⟨rfl,h,rfl,rfl,rfl,rfl⟩
 | ld q=>
  cases J' with
  |ld _=>exact⟨rfl,old⟩
  |lb p _=>exact absurd q p
  |lr p _=>exact absurd q p
 | lb q q2=>
  cases J' with
  |ld p=>exact absurd p q
  |lb _ _=>exact⟨rfl,old⟩
  |lr _ p=>exact absurd (h.symm.bound p) q2
 | lr q q2=>
  cases J' with
  |ld p=>exact absurd p q
  |lb _ p=>exact absurd (h.bound q2) p
  |lr _ _=>exact⟨rfl,h,rfl,rfl,rfl,rfl⟩
 | dx q=>
  cases J' with
  |dx _=>exact⟨rfl,old⟩
  |di p _ _ _=>exact absurd q p
 | di q qt qh qf=>
  cases J' with
  |dx p=>exact absurd p q
  | di p pt ph pf=>
   have er:=qt.det pt;subst er;have es:=Hr (qh.1.trans (by rw[h.held];exact ph.1.symm)) qh.2 ph.2;subst es;refine⟨rfl,Fo.det h qf (fun f=>(f.eo R.E (fun z e=>Tk.ok (Pr:=fun z=>PyData.strOk z=true) (fun _ _=>oH R.hv) pt (fun z e=>oH R.hv e) z e) hls).P.W.nd) pf,rfl,rfl,rfl,rfl⟩
inductive JL(W0:Wo):List (Int×Ro)->List Str->Wo->Prop
 |nil:JL W0 [] [] W0
 |snoc {rs:List (Int×Ro)}{ws:List Str}{W W':Wo}{dy:Int}{ro:Ro}{w:Str}:JL W0 rs ws W->Jo W dy ro w W'->JL W0 (rs++[(dy,ro)]) (ws++[w]) W'
def JL.inv{W0 W:Wo}{L:List (Int×Ro)}(h:JL W0 L ws W):∀{rs:List (Int×Ro)}{dy:Int}{ro:Ro},L=rs++[(dy,ro)]->∃ws0 w W1,ws=ws0++[w]/\JL W0 rs ws0 W1/\Jo W1 dy ro w W:=by
 cases h with
 |nil=>intro rs dy ro e;simp at e
 | snoc h J=>
  intro rs dy ro e;obtain⟨e1,e2⟩:=List.append_inj' e rfl;injection e2 with e2;injection e2 with e3 e4;subst e1;subst e3;subst e4;exact⟨_,_,_,rfl,h,J⟩
def JL.wp{W0 W:Wo}{rs:List (Int×Ro)}{n:Int}(hls:∀n∈ls,n≠""/\PyData.strOk n=true)(R:Wp W0 ls 0 n)(J:JL W0 rs ws W):(∀r∈rs,r.2.Ok ls/\r.2.Tx)->Wp W ls rs.length n:=by
 induction J with
 |nil=>intro _;exact R
 | snoc _ D ih=>
  intro h;have q:=h _ (A0G _ (A0b.mpr rfl));rw[iD,A0t];exact D.wp (ih fun r hr=>h r (A0W _ hr)) q.1 q.2 hls
def JL.det{W0 W1 W:Wo}{rs:List (Int×Ro)}{n:Int}(hls:∀n∈ls,n≠""/\PyData.strOk n=true)(h0:AbW W0 W1)(R:Wp W1 ls 0 n)(J:JL W0 rs ws W):∀{ws':List Str}{W':Wo},(∀r∈rs,r.2.Ok ls/\r.2.Tx)->JL W1 rs ws' W'->ws=ws'/\AbW W W':=by
 induction J with
 | nil=>
  intro ws' W' _ J';generalize hL:([]:List (Int×Ro))=L at J';cases J' with
  |nil=>exact⟨rfl,h0⟩
  |snoc _ _=>exact absurd (A1R List.length hL) 0xA
 | snoc _ D ih=>
  intro ws' W' ho J';obtain⟨ws0,w,W2,rfl,J1,D'⟩:=J'.inv rfl;have ho':=fun r hr=>ho r (A0W _ hr);obtain⟨q1,q2⟩:=ih ho' J1;obtain⟨p1,p2⟩:=D.det q2 (J1.wp hls R ho') hls D';exact⟨by rw[q1,p1],p2⟩
abbrev uw:Stmt:=inClass (top 45) 0
structure jr(H:Hp)(jl:Addr)(ts:List Addr)(pr:List Addr)(ws:List Str):Prop where
 l:H jl=some (.lst (ts.map V.ref))
 lt:ts.length=pr.length
 lw:ws.length=pr.length
 at':∀(i:Nat)(t r:Addr)(w:Str),ts[i]?=some t->pr[i]?=some r->ws[i]?=some w->H t=some (.tup [.ref r,.str w])
def jr.keep(a:jr H jl ts pr ws)(h1:H' jl=H jl)(h2:∀c xs,H c=some 0x23->H' c=some 0x23):jr H' jl ts pr ws:=
 ⟨by rw[h1];exact a.l,a.lt,a.lw,fun i t r w e1 e2 e3=>h2 _ _ (a.at' i t r w e1 e2 e3)⟩
def jr.snoc{t r:Addr}{w:Str}(a:jr H jl ts pr ws)(ht:H t=some (.tup [.ref r,.str w])):jr (upd H jl (.lst (ts.map V.ref++[V.ref t]))) jl (ts++[t]) (pr++[r]) (ws++[w]):=by
 refine⟨by rw[ao,j9];rfl,by rw[iD,iD,a.lt];rfl,by rw[iD,iD,a.lw];rfl,fun i t' r' w' e1 e2 e3=>?_⟩;have nt:∀{c:Addr}{xs:List V},H c=some 0x23->(upd H jl (.lst (ts.map V.ref++[V.ref t]))) c=some 0x23:=fun hc=>by rw[ak (aO hc a.l 0x6)];exact hc
 by_cases hi:i<pr.length
 ·rw[A1k (by rw[a.lt];exact hi)]at e1;rw[A1k hi]at e2;rw[A1k (by rw[a.lw];exact hi)]at e3;exact nt (a.at' i t' r' w' e1 e2 e3)
 ·have hl:=(A0j.mp e2).1;rw[iD,A0t]at hl;have:i=pr.length:=by lia
  subst this;rw[A0X 0x33,A3l]at e2;rw[A0X (by rw[a.lt];exact A0g _),a.lt,A3l]at e1;rw[A0X (by rw[a.lw];exact A0g _),a.lw,A3l]at e3;injection e1 with e1;injection e2 with e2;injection e3 with e3;subst e1;subst e2;subst e3;exact nt ht
structure qY(CC CR CK C:Addr)(H:Hp)(c dc jl ll:Addr)(m:Rm)(q:Ad)(W:Wo)(ls:List Str)(sp:List PN)(ni ts pr:List Addr)(ws:List Str)(n b:Int):Prop where
 o:H c=some 0x5D
 R:cR CR CK C H m q W
 S:Sep m q
 P:Wp W ls pr.length n
 fr:∀e∈W.es,je H e.ta e.due.1 e.due.2
 Ld:Ly C H ll ni sp W.ks
 J:jr H jl ts pr ws
 jn:jl≠ll
 ln:ni.length<=pr.length+1
 kx:∀s∈sp,s.q.x≠c
 kq:∀s∈sp,s.q.x≠q.x/\∀a∈[s.q.a1,s.q.a2,s.q.a3,s.q.a4,s.q.a5],a∉lF m q
 nj:NL H m.li jl
 nl:NL H m.li ll
 mc:m.z≠c/\q.x≠c/\m.k≠c
def Yx(ks:List Str)(r:Rw):ks<+:stK ks r:=by
 cases r<;>first|exact List.prefix_append _ _|exact A3T _
def Jo.pre{W W':Wo}{ro:Ro}{w:Str}(h:Jo W dy ro w W'):W.ks<+:W'.ks:=by
 cases h<;>first|exact A3T _|exact Yx _ _
def Kept.Ax{CR:Addr}{m:Rm}{q qk:Ad}{W:Wo}{ek:List aQ}{kk:List Str}(K:Kept C H qk ek kk ks)(R:cR CR CK C H m q W)(kq:∀a∈[qk.a1,qk.a2,qk.a3,qk.a4,qk.a5],a∉lF m q)(o:gW m q H H')(p:ks<+:ks'):Kept C H' qk ek kk ks':=
 ⟨⟨R.out o 0x26 K.L.o,R.O7 o (kq _ 0xA) K.L.l1,R.O7 o (kq _ 0xA) K.L.l2,R.O7 o (kq _ 0xA) K.L.l3,R.O7 o (kq _ 0xA) K.L.l4,R.O7 o (kq _ 0xA) K.L.l5⟩,fun e he=>R.out o 0x26 (K.fr e he),K.W,K.M,K.o,K.pre.trans p⟩
def cR.oth{CR:Addr}{m:Rm}{q:Ad}{W:Wo}(a:cR CR CK C H m q W)(hd:∀b kvs,H b=some 0x16->c≠b)(h1:m.z≠c)(h2:q.x≠c)(h3:m.k≠c)(G:FQ (upd H c o) m.li W.lg):cR CR CK C (upd H c o) m q W:=by
 have d:∀{b:Addr}{kvs:List 0x2B},H b=some 0x16->(upd H c o) b=some 0x16:=fun h=>by rw[ak (hd _ _ h).symm];exact h
 exact⟨by rw[ak h1];exact a.o,⟨by rw[ak h3];exact a.K.o,d a.K.h,d a.K.g⟩,d a.U,d a.D,G,⟨by rw[ak h2];exact a.L.o,d a.L.l1,d a.L.l2,d a.L.l3,d a.L.l4,d a.L.l5⟩⟩
def cR.lst{CR:Addr}{m:Rm}{q:Ad}{W:Wo}(a:cR CR CK C H m q W)(hc:H c=some 0x4D)(n:NL H m.li c):cR CR CK C (upd H c o) m q W:=
 a.oth (fun _ _ h=>(aO h hc 0x6).symm) (aO a.o hc 0x6) (aO a.L.o hc 0x6) (aO a.K.o hc 0x6) (a.G.ZV n (fun kvs h=>by rw[ak (aO h hc 0x6)];exact h) (fun b ys hb h=>by rw[ak hb];exact h) fun b ys h=>by rw[ak (aO h hc 0x6)];exact h)
def cR.store{CR:Addr}{m:Rm}{q:Ad}{W:Wo}{fs:List 0x81}(a:cR CR CK C H m q W)(hc:H c=some (.ins CC dc fs))(h1:m.z≠c)(h2:q.x≠c)(h3:m.k≠c):cR CR CK C (upd H c (.ins CC dc fs')) m q W:=
 a.oth (fun _ _ h=>(aO h hc 0x6).symm) h1 h2 h3 (a.G.keep (fun u h=>by obtain⟨gs,G⟩:=a.G;rw[ak (aO G.d hc 0x6)];exact h) (fun b ys h=>by rw[ak (aO h hc 0x6)];exact h) fun b ys h=>by rw[ak (aO h hc 0x6)];exact h)
def qY.judge{CR:Addr}{r t:Addr}{m:Rm}{q:Ad}{W W':Wo}{sp:List PN}{n b:Int}{ro:Ro}{w:Str}(A:qY CC CR CK C H c dc jl ll m q W ls sp ni ts pr ws n b)
  (hok:ro.Ok ls)(hx:ro.Tx)(hls:∀n∈ls,n≠""/\PyData.strOk n=true)(J:Jo W dy ro w W')(R':cR CR CK C H1 m q W')(fr':∀e∈W'.es,je H1 e.ta e.due.1 e.due.2)(o:gW m q H H1)(ht:H1 t=none):
  qY CC CR CK C (upd (upd H1 t (.tup [.ref r,.str w])) jl (.lst (ts.map V.ref++[V.ref t]))) c dc jl ll m q W' ls sp ni (ts++[t]) (pr++[r]) (ws++[w]) n b:=by
 apply 0o1 H1 t ht st t1 H2
 have oj:=A.R.Ue o A.J.l A.nj;have ol:=A.R.Ue o A.Ld.l A.nl;have j1:=st _ _ oj.1;have nj:=oj.2.same st;have nl:=ol.2.same st;have tupk:∀c' xs,H c'=some 0x23->H2 c'=some 0x23:=fun c' xs h=>st _ _ (A.R.out o 0x26 h);have J1:jr H2 jl ts pr ws:=A.J.keep (by rw[j1,A.J.l]) tupk;have c1:=st _ _ (A.R.out o 0x26 A.o);have l1:=st _ _ ol.1;have R1:=R'.same st;have K1:=fun s hs=>((A.Ld.kp s hs).Ax A.R (A.kq s hs).2 o J.pre).same st;have f1:∀e∈W'.es,je H2 e.ta e.due.1 e.due.2:=fun e he=>st _ _ (fr' e he);have nt:∀{c':Addr}{xs:List V},H2 c'=some 0x23->(upd H2 jl (.lst (ts.map V.ref++[V.ref t]))) c'=some 0x23:=fun hc=>by rw[ak (aO hc j1 0x6)];exact hc
 refine⟨by rw[ak (aO c1 j1 0x6)];exact c1,R1.lst j1 nj,A.S,?_,fun e he=>nt (f1 e he),⟨by rw[ak (A0m A.jn)];exact l1,Paired.imp' (fun a s h=>nt (tupk _ _ h)) A.Ld.pr,fun s hs=>(K1 s hs).lst j1,A.Ld.dy,A.Ld.ne⟩,J1.snoc t1,A.jn,by rw[iD];have:=A.ln;lia,A.kx,A.kq,nj.Yi j1,nl.Yi j1,A.mc⟩
 ·rw[iD];exact J.wp A.P hok hx hls
def cR.V3{CR:Addr}{m:Rm}{q:Ad}{W:Wo}(R:cR CR CK C H m q W)(hm:a∈lF m q)(h0:H a=none):False:=by
 simp only[lF,A0d,A0s,A1d]at hm;have k:=fun{b:Addr}{u:HO}(e:a=b)(h:H b=some u)=>(show False by rw[e,h]at h0;cases h0)
 obtain⟨gs,G⟩:=R.G;rcases hm with z|z|z|z|z|z|z|z|z|z
 ·exact k z R.L.l1
 ·exact k z R.L.l2
 ·exact k z R.L.l3
 ·exact k z R.L.l4
 ·exact k z R.L.l5
 ·exact k z R.U
 ·exact k z R.K.h
 ·exact k z R.K.g
 ·exact k z R.D
 ·exact k z G.d
def qY.day{CR:Addr}{Iw:Addr}{m:Rm}{q:Ad}{W:Wo}{sp FN:List PN}{Ez:List Addr}{n b:Int}(A:qY CC CR CK C H c dc jl ll m q W ls sp ni ts pr ws n b)
  (f:∀a u,a≠c->a≠ll->H a=some u->H' a=some u)(o:H' c=some (.ins CC dc (FT n b m.z jl Iw)))(L':Ly C H' Iw Ez FN W.ks)(len:Ez.length<=pr.length+1)(hl:Iw=ll\/H Iw=none)(hq:∀s∈FN,s∈sp\/Fk H s.q):
  qY CC CR CK C H' c dc jl Iw m q W ls FN Ez ts pr ws n b:=by
 have d:∀{a:Addr}{kvs:List 0x2B},H a=some 0x16->H' a=some 0x16:=fun h=>f _ _ (aO h A.o 0x6) (aO h A.Ld.l 0x6) h;have i:∀{a D dx:Addr}{fs:List 0x81},a≠c->H a=some (.ins D dx fs)->H' a=some (.ins D dx fs):=fun hn h=>f _ _ hn (aO h A.Ld.l 0x6) h;have t:∀c' xs,H c'=some 0x23->H' c'=some 0x23:=fun c' xs h=>f _ _ (aO h A.o 0x6) (aO h A.Ld.l 0x6) h;have R:=A.R;refine⟨o,⟨i A.mc.1 R.o,⟨i A.mc.2.2 R.K.o,d R.K.h,d R.K.g⟩,d R.U,d R.D,R.G.ZV A.nl (fun kvs h=>d h) (fun c' xs hn h=>f _ _ (aO h A.o 0x6) hn h) t,⟨i A.mc.2.1 R.L.o,d R.L.l1,d R.L.l2,d R.L.l3,d R.L.l4,d R.L.l5⟩⟩,A.S,A.P,fun e he=>t _ _ (A.fr e he),L',A.J.keep ?_ t,?_,len,fun s hs=>?_,fun s hs=>?_,A.nj.mv fun _ h=>d h,?_,A.mc⟩
 ·rw[f jl _ (aO A.J.l A.o 0x6) A.jn A.J.l,A.J.l]
 ·rcases hl with e|e
  ·rw[e];exact A.jn
  ·exact au A.J.l e
 ·rcases hq s hs with e|e
  ·exact A.kx s e
  ·exact(au A.o e.1).symm
 ·rcases hq s hs with e|e
  ·exact A.kq s e
  ·refine⟨(au R.L.o e.1).symm,fun a ha hm=>?_⟩;have h0:=e.2 a ha;exact R.V3 hm h0
 ·rcases hl with e|e
  ·rw[e];exact A.nl.mv fun _ h=>d h
  ·exact(R.newN e).mv fun _ h=>d h
def V4(n:Int)(t:Addr)(ls:List Str)(n1:1<=n)(n2:n<=9999):Pu [Ie n t] [] ls 0 n:=by
 refine⟨⟨by simp[nms],⟨Ie n t,[],rfl,rfl,rfl,trivial⟩,fun e he=>?_,fun e he=>?_,fun e he=>?_⟩,fun e he=>?_,fun e he hn=>?_,A0g _,A0g _,fun e he=>?_,?_⟩
 ·rw[A0b.mp he];exact⟨by show 0<=n;lia,by show 0<=n;lia,n2⟩
 ·rw[A0b.mp he]
  show n=n+Sb [Ie n t] ""
  have:Sb [Ie n t] ""=0:=by unfold Sb;rfl
  lia
 ·rw[A0b.mp he];show PyData.strOk ("":Str)=true;decide+kernel
 ·rw[A0b.mp he];exact⟨by show(0:Int).natAbs<_;decide,by show(0:Int)<1;decide,by show(1:Int).natAbs<_;decide⟩
 ·rw[A0b.mp he]at hn;exact absurd rfl hn
 ·rw[A0b.mp he];exact .inl rfl
 ·show n+0=n;lia
def qY.same{CR:Addr}{m:Rm}{q:Ad}{W:Wo}{sp:List PN}{n b:Int}(A:qY CC CR CK C H c dc jl ll m q W ls sp ni ts pr ws n b)(s:Same H H'):qY CC CR CK C H' c dc jl ll m q W ls sp ni ts pr ws n b:=
 ⟨s _ _ A.o,A.R.same s,A.S,A.P,fun e he=>s _ _ (A.fr e he),⟨s _ _ A.Ld.l,Paired.imp' (fun a x h=>s _ _ h) A.Ld.pr,fun x hx=>(A.Ld.kp x hx).same s,A.Ld.dy,A.Ld.ne⟩,A.J.keep (by rw[s _ _ A.J.l,A.J.l]) fun c' xs h=>s _ _ h,A.jn,A.ln,A.kx,A.kq,A.nj.same s,A.nl.same s,A.mc⟩
def qZ{n:Int}{e:aQ}(P:Pu [e] [] ls 0 n)(h1:e.n="")(h2:e.man="")(h3:e.br=n):Wp (W0 e) ls 0 n:=by
 have one:∀{z:aQ},z∈(W0 e).es->z=e:=fun h=>A0b.mp h;refine⟨⟨P,fun z hz _=>by rw[one hz];exact h2,fun z hz=>by rw[one hz,h2];decide+kernel,?_,e,A0b.mpr rfl,h1,h3⟩,(fun p hp=>nomatch hp),A0g _,A0g _,A3L,A0g _⟩
 show[e.n]=_
 rw[h1];rfl
def rY(gs:List Cd)(i:Nat):List Addr:=((gs.take i).map (·.rs)).flatten
def rZ{gs:List Cd}{x:Cd}(h:gs[i]?=some x):rY gs (i+1)=rY gs i++x.rs:=by
 unfold rY;rw[A1e,h,j9,A2H];simp
def V5(gs:List Cd):rY gs gs.length=(gs.map (·.rs)).flatten:=by unfold rY;rw[A1f]
def Fb{gs:List Cd}(i:Nat):(rY gs i).length<=((gs.map (·.rs)).flatten).length:=by
 unfold rY;have h:gs.map (·.rs)=(gs.take i).map (·.rs)++(gs.drop i).map (·.rs):=by rw[<-j9,List.take_append_drop]
 rw[h,A2H,iD];lia
structure Yy(H Hx:Hp)(c D:Addr)(u:HO)(gs:List Cd)(jl ll li:Addr):Prop where
 old:∀a v,a≠c->H a=some v->Hx a=some v
 fz:Hx D=some u
 g:Lw Hx gs
 gn:∀x∈gs,x.g≠jl/\x.g≠ll
 l0:H ll=none
 gN:∀x∈gs,NL Hx li x.g
 oN:∀a v,a≠c->H a=some v->NL Hx li a
def Ro.dayE(dy:Int)(ro:Ro):iy 0x7A=dy:=by
 cases ro with
 |land r=>cases r<;>rfl
 |_=>rfl
inductive wz(vs:List V)(H:Hp)(Q:VK)(cH:XK):Prop
 |mk(n b:Int)(_:vs=[.int n,.int b])(_:1<=n)(_:n<=9999)(_:0<=b)(_:b<=99)(_:Q .non H):wz vs H Q cH
structure Fd(dat:Addr->List V)(jW:Addr->Int)(nH:Addr->Ro)(ls:List Str)(a:Addr):Prop where
 e:dat a=Ro.vs (jW a) (nH a)
 ok:(nH a).Ok ls
 tx:(nH a).Tx
 d0:0<=jW a
 d1:jW a<=9999
inductive wA(CC CR CK C:Addr)(K:W.Frag)(vs:List V)(H:Hp)(Q:VK)(cH:XK):Prop
 |mk(c dc l:Addr)(n b:Int)(all:List Addr)(dat:Addr->List V)(jW:Addr->Int)(nH:Addr->M.Ro)(ls:List Str)(_:vs=[.ref c,.int n,.int b,.ref l])(_:H c=some (.ins CC dc []))(_:1<=n)(_:n<=9999)(_:0<=b)(_:b<=99)(_:bY K H l 0x4A)(_:all.length<=30)(_:jg H all dat)(_:(∀a∈all,Fd dat jW nH ls a))(_:0x62)(_:∀jl ll m q W sp ni ts out ws t0 H',(∀a u,a≠c->H a=some u->H' a=some u)->out.Perm all->Ir dat out->JL (W0 (Ie n t0)) (out.map fun a=>(jW a,nH a)) ws W->qY CC CR CK C H' c dc jl ll m q W ls sp ni ts out ws n b->Q .non H'):wA CC CR CK C K vs H Q cH
def oM:aP ["self","acres","bears","rows","day","judged_then","row"] A5x (aJ uw):=0x0
def Oq(TC:oK K CC)(TR:gP K CR)(T:fK K C)(F:fj K "__init__" "Court.__init__" uw f fd){g0:Addr}{d0:FuncData}
  (G0:aL P w K mg base bL 3 g0 d0 A5H wz)(M0:Ms K mg "check_land" g0 d0 A5H)
  (G1:aL P w K mg base bL 5 g1 d1 A5s (vR CR CK C))(MK1:Mk K CR g1)(mR:mg "Realm"=some (.ref CR))(b1:Binds K d1 A5s [])
  (G2:aL P w K mg base bL 5 g2 d2 A5z (qR C))(m2:Meth K C "twin" g2)(b2:Binds K d2 A5z [])
  (G3:aL P w K mg base bL 5 g3 d3 ["rows"] (w6 K))(M3:Ms K mg "by_days" g3 d3 ["rows"])
  (G4:aL P w K mg base bL 6 g4 d4 A5b (Ay CR CK C))(M4:Ms K mg "judge" g4 d4 A5b)
  (G5:aL P w K mg base bL 6 g5 d5 ["self","day"] (wk CC CR CK C))(m5:Meth K CC "end_day" g5)(b5:Binds K d5 ["self","day"] []):
  aL P w K mg base bL 7 f fd A5x (wA CC CR CK C K):=by
 refine F.ok oM 0x1 0x3;obtain⟨c,dc,l,n,b,all,dat,jW,nH,ls,rfl,hc,n1,n2,b1',b2',hl,h30,RO,RW,hls,k⟩:=h;have Sq:cG 3 _:=hr.mono 0x5;have Px:cG 5 _:=hr.mono 0x5;refine⟨_,aq (bM (bG G0 Sq rfl M0.m M0.k M0.b .nil bC (aj 0xF 0x65)))
  (aq (eF 0x32 0xF rfl)
  (aq (eF 0x32 0x3B rfl)
  (aq (eF 0x32 (zm (CX:=bL) (E:=E0) MK1 G1 hr rfl mR b1 .nil bC 0x2C) rfl)
  (aq (eF 0x32 (cL aC) rfl)
  (aq (eF 0x32 (cL (aj (cu (aj aA (aj (nY (CX:=bL) (E:=E0) (bf 0xB rfl) T.cl m2 G2 Px b2 .nil bC) aC))) aC)) rfl)
  (aG (gF A0Q rfl (v7 (a3F (bG G3 Px rfl M3.m M3.k M3.b .nil bC 0x90))) (jN rfl (bR (bB (i:=4) oM.nd rfl 0x8) (bR (bB (i:=5) oM.nd rfl 0x8) gJ)))
   (aq (gF A0Q rfl (fu (pv 5)) (bB (i:=6) oM.nd rfl 0x8)
    (aG (bM (j8 A0K A0R A0S dw 0xB (aj (cu (aj (pv 6) (aj (bG (CX:=bL) (E:=E0) G4 hr rfl M4.m M4.k M4.b .nil bC (aj 0xB (aj (pv 6) aC))) aC))) aC)))))
   (aG (bM (bZ (CX:=bL) (E:=E0) 0x32 TC.cl m5 G5 hr b5 .nil bC (aj (pv 4) aC)))))))))))),?_⟩
 refine⟨_,rfl,_,rfl,n,b,rfl,n1,n2,b1',b2',?_⟩;refine⟨_,rfl,_,rfl,c,CC,dc,_,rfl,hc,TC.cl,TC.n1,A0y rfl,?_⟩;generalize hH1:upd _ c _=H1;have c1:H1 c=some (.ins CC dc [0x5A]):=by rw[<-hH1,ao];rfl
 have f1:∀a u,a≠c->H a=some u->H1 a=some u:=fun a u h1 h2=>by rw[<-hH1,ak h1];exact h2
 clear hH1;refine⟨_,rfl,_,rfl,c,CC,dc,_,rfl,c1,TC.cl,TC.n2,A0y rfl,?_⟩;generalize hH2:upd _ c _=H2;have c2:H2 c=some (.ins CC dc [0x5A,("coins",.int b)]):=by rw[<-hH2,ao];rfl
 have f2:∀a u,a≠c->H a=some u->H2 a=some u:=fun a u h1 h2=>by rw[<-hH2,ak h1];exact f1 a u h1 h2
 clear hH2 f1 c1;have nc:∀{a:Addr},H2 a=none->a≠c:=fun h z=>by rw[z,c2]at h;cases h
 refine⟨_,rfl,fun z dz hz0 hdz0 hnz=>⟨z,dz,n,rfl,ao,n1,n2,fun m q t0 H3 hmz hmd hwd kx RM SP FR fr0=>⟨rfl,?_⟩⟩⟩;subst hmz;subst hmd;have s3:Same H2 H3:=fun a u ha=>kx a u (au ha hz0) (by rw[ak (au ha hz0),ak (au ha hdz0)];exact ha);have qo:=fun a ha=>Yl (FR a ha);have qx0:=qo q.x 0xA;have qk0:=qo m.k 0xA;clear kx FR;have c3:=s3 _ _ c2;refine⟨_,rfl,c,CC,dc,_,rfl,c3,TC.cl,TC.n3,A0y rfl,?_⟩;have R4:=RM.store (fs':=[0x5A,("coins",.int b),("realm",.ref m.z)]) c3 (nc hz0) (nc qx0) (nc qk0);generalize yC:upd _ c _=H4;have eH4:upd H3 c (.ins CC dc [0x5A,("coins",.int b),("realm",.ref m.z)])=H4:=yC;rw[eH4]at R4;have c4:H4 c=some (.ins CC dc [0x5A,("coins",.int b),("realm",.ref m.z)]):=by rw[<-yC,ao];rfl
 have f4:∀a u,a≠c->H3 a=some u->H4 a=some u:=fun a u h1 h2=>by rw[<-yC,ak h1];exact h2
 have t4:je H4 t0 0 1:=f4 _ _ (aO fr0 c3 0x6) fr0;clear yC eH4 RM;refine⟨small 0xA,fun jl hjl=>?_⟩
 apply 0o1 H4 jl hjl sj j5 H5
 have c5:=sj _ _ c4;refine⟨_,rfl,c,CC,dc,_,rfl,c5,TC.cl,TC.n4,A0y rfl,?_⟩;have R6:=(R4.same sj).store (fs':=[0x5A,("coins",.int b),("realm",.ref m.z),("judged",.ref jl)]) c5 (nc hz0) (nc qx0) (nc qk0);generalize Yn:upd _ c _=H6;have eH6:upd H5 c (.ins CC dc [0x5A,("coins",.int b),("realm",.ref m.z),("judged",.ref jl)])=H6:=Yn;rw[eH6]at R6;have c6:H6 c=some (.ins CC dc [0x5A,("coins",.int b),("realm",.ref m.z),("judged",.ref jl)]):=by rw[<-Yn,ao];rfl
 have f6:∀a u,a≠c->H5 a=some u->H6 a=some u:=fun a u h1 h2=>by rw[<-Yn,ak h1];exact h2
 have j6:H6 jl=some 0x54:=f6 _ _ (aO j5 c5 0x6) j5;have t6:je H6 t0 0 1:=f6 _ _ (aO (sj _ _ t4) c5 0x6) (sj _ _ t4);have f26:∀a u,a≠c->H2 a=some u->H6 a=some u:=fun a u h1 h2=>f6 a u h1 (sj _ _ (f4 a u h1 (s3 _ _ h2)));have jl0:H2 jl=none:=by
  cases hq:H2 jl with
  |none=>rfl
  | some u=>
   by_cases e:jl=c
   ·rw[e,c4]at hjl;cases hjl
   ·rw[f4 jl u e (s3 _ _ hq)]at hjl;cases hjl
 clear Yn eH6 R4 c5 j5 t4 sj hjl;have PU0:=qZ (V4 n t0 ls n1 n2) rfl rfl rfl;have fr6:∀e∈[Ie n t0],je H6 e.ta e.due.1 e.due.2:=fun e he=>by rw[A0b.mp he];exact t6
 refine⟨_,rfl,c,CC,dc,_,_,rfl,c6,TC.cl,TC.n3,rfl,m.z,CR,m.dz,_,_,rfl,R6.o,TR.cl,TR.n1,rfl,q.x,q.dx,_,rfl,R6.L.o,rfl,?_⟩;dsimp only[lC,List.cons_append,List.nil_append];refine⟨q.x,q.dx,q.a1,q.a2,q.a3,q.a4,q.a5,_,_,_,_,_,n,rfl,R6.L,rfl,n1,n2,fun y dy y1 y2 y3 y4 y5 H7 s7 L7 hy0 hy1 hy2 hy3 hy4 hy5 _=>⟨small 0xA,fun t ht=>⟨small 0xA,fun ll hll=>?_⟩⟩⟩;have st:=aK ht 0x79;have t7:(upd H7 t 0x79) t=some 0x79:=ao;generalize upd H7 t 0x79=H8 at st t7 hll ⊢
 apply 0o1 H8 ll hll sl l9 H9
 have V6:H6 ll=none:=(s7.trans st).free hll;have s9:Same H6 H9:=s7.trans (st.trans sl);have c9:=s9 _ _ c6;have t9:=sl _ _ t7;refine⟨_,rfl,c,CC,dc,_,rfl,c9,TC.cl,TC.n5,A0y rfl,?_⟩;have nyc:y≠c:=fun z=>by rw[z,c6]at hy0;cases hy0
 have R10:=(R6.same s9).store (fs':=FT n b m.z jl ll) c9 (nc hz0) (nc qx0) (nc qk0);have K10:Kept C _ (adL y dy y1 y2 y3 y4 y5 n) [Ie n t0] [] []:=Kept.store (fs':=FT n b m.z jl ll) ⟨L7.same (st.trans sl),fun e he=>s9 _ _ (fr6 e he),PU0.E.P.W,PU0.E.M,PU0.E.O,A3T _⟩ c9 nyc;have A0:qY CC CR CK C (upd H9 c 0x5D) c dc jl ll m q (W0 (Ie n t0)) ls [⟨0,adL y dy y1 y2 y3 y4 y5 n,[Ie n t0],[]⟩] [t] [] [] [] n b:=by
  have tk:∀{a:Addr}{xs:List V},H9 a=some 0x23->(upd H9 c 0x5D) a=some 0x23:=fun h=>by rw[ak (aO h c9 0x6)];exact h
  have lk:∀{a:Addr}{xs:List V},H9 a=some 0x4D->(upd H9 c 0x5D) a=some 0x4D:=fun h=>by rw[ak (aO h c9 0x6)];exact h
  refine⟨ao,R10,SP,PU0,fun e he=>tk (s9 _ _ (fr6 e he)),⟨lk l9,.cons (tk t9) .nil,fun s hs=>(by rw[A0b.mp hs];exact K10),fun s hs=>(by rw[A0b.mp hs];exact(by decide:(0:Int)<=9999)),by simp⟩,⟨lk (s9 _ _ j6),rfl,rfl,fun i t' r' w' e1 _ _=>by simp at e1⟩,au j6 V6,A0g _,(fun s hs=>by rw[A0b.mp hs];exact nyc),(fun s hs=>?_),R10.noN rfl,R10.noN rfl,nc hz0,nc qx0,nc qk0⟩;rw[A0b.mp hs];refine⟨(au R6.L.o hy0).symm,fun a ha hm=>?_⟩;have h0:H6 a=none:=by
   simp only[adL,A0d,A0s,A1d]at ha;rcases ha with z|z|z|z|z<;>(rw[z];assumption)
  exact R6.V3 hm h0
 have Ws:∀a u,a≠c->H a=some u->(upd H9 c 0x5D) a=some u:=fun a u h1 h2=>by rw[ak h1];exact s9 _ _ (f26 a u h1 (f2 a u h1 h2))
 have hd:upd H9 c (.ins CC dc (nW "lands" (.ref ll) [0x5A,("coins",.int b),("realm",.ref m.z),("judged",.ref jl)]))=upd H9 c 0x5D:=rfl;rw[hd];have ll2:H2 ll=none:=by
  cases hq:H2 ll with
  |none=>rfl
  | some u=>
   by_cases e:ll=c
   ·rw[e,c6]at V6;cases V6
   ·rw[f26 ll u e hq]at V6;cases V6
 generalize upd H9 c 0x5D=HA at A0 Ws R10 K10 ⊢;clear c9 t9 l9 s9 sl st t7 s7 L7 R6 c6 j6 t6 f26 fr6 K10 R10 hd f6 f4 c4 c3 s3;have fH:∀{a:Addr},H2 a=none->H a=none:=fun{a}h=>by
  cases hq:H a with
  |none=>rfl
  | some u=>
   by_cases e:a=c
   ·rw[e,c2]at h;cases h
   ·rw[f2 a u e hq]at h;cases h
 replace jl0:=fH jl0
 replace ll2:=fH ll2
 replace qo:∀a∈lF m q,H a=none:=fun a ha=>fH (qo a (jK _ (jK _ ha)))
 have hlA:bY K HA l 0x4A:=by
  rcases hl with(h|⟨o,h⟩)|h
  ·exact .inl (.inl (Ws _ _ (aO h hc 0x6) h))
  ·exact .inl (.inr ⟨o,Ws _ _ (aO h hc 0x6) h⟩)
  ·exact .inr h
 have ROA:jg HA all dat:=⟨fun a ha=>⟨Ws _ _ (aO (RO.1 a ha).1 hc 0x6) (RO.1 a ha).1,(RO.1 a ha).2⟩,RO.2⟩;refine⟨_,rfl,l,all,dat,rfl,hlA,by lia,ROA,fun D gs out HB sB sX hDB GA GO hp hu fg=>⟨D,_,rfl,hDB,fun oD=>⟨D,oD,_,rfl,ao,?_⟩⟩⟩;have nDA:∀{a:Addr}{u:HO},HA a=some u->a≠D:=fun h=>au h sX;have sF:Same HA (upd HB D 0x80):=fun a u h=>by rw[ak (nDA h)];exact sB _ _ h
 have GF:Lw (upd HB D 0x80) gs:=fun x hx=>by rw[ak (aO (GA x hx) hDB 0x6)];exact GA x hx
 have DF:(upd HB D 0x80) D=some 0x80:=ao;generalize upd HB D 0x80=HF at sF GF DF ⊢;have AF:=A0.same sF;have S0:Yy H HF c D 0x80 gs jl ll m.li:=⟨fun a v h1 h2=>sF _ _ (Ws a v h1 h2),DF,GF,fun x hx=>⟨fun z=>(by have:=fg x hx;rw[z,A0.J.l]at this;cases this),fun z=>(by have:=fg x hx;rw[z,A0.Ld.l]at this;cases this)⟩,ll2,fun x hx=>AF.R.noN rfl,fun a v _ _=>AF.R.noN rfl⟩;have Yz:∀r∈out,H r=some (.tup (dat r))/\Fd dat jW nH ls r:=fun r hr=>⟨(RO.1 r (hp.mem_iff.mp hr)).1,RW r (hp.mem_iff.mp hr)⟩;have ol:out.length<=30:=by rw[hp.length_eq];exact h30
 have cat:=GO.cat;have gm:∀x∈gs,∀r∈x.rs,r∈out:=fun x hx r hr=>by rw[<-cat];exact List.mem_flatten.mpr ⟨_,A0e.mpr ⟨x,hx,rfl⟩,hr⟩
 clear sF GF DF A0 Ws nDA GA sB hDB hlA ROA fg sX;refine Ol (a:=D) (o:=oD) (kvs:=rE gs) (fun i σ Hx=>∃(u4 u5 u6:Option V)(ll:Addr)(W:Wo)(ws:List Str)(sp:List PN)(ni ts:List Addr),σ=[some (.ref c),some (.int n),some (.int b),some (.ref l),u4,u5,u6]/\Yy H Hx c D 0x80 gs jl ll m.li/\
   qY CC CR CK C Hx c dc jl ll m q W ls sp ni ts (rY gs i) ws n b/\JL (W0 (Ie n t0)) ((rY gs i).map fun a=>(jW a,nH a)) ws W)
  ⟨none,none,none,ll,_,_,_,_,_,rfl,S0,AF,.nil⟩ (fun i σ Hx _ h=>by obtain⟨_,_,_,_,_,_,_,_,_,_,h,_⟩:=h;exact h.fz) ?_ ?_
 ·rintro i kv σ Hx p hkv ⟨u4,u5,u6,ll,W,ws,sp,ni,ts,rfl,SX,AX,JX⟩ hp0;unfold rE at hkv;rw[pF]at hkv;obtain⟨x,hx,rfl⟩:=A0J.mp hkv;have hxm:=wU hx;have sp:=aK hp0 (.tup [V.int x.d,V.ref x.g]);have hpt:(upd Hx p (.tup [V.int x.d,V.ref x.g])) p=some (.tup [V.int x.d,V.ref x.g]):=ao;refine⟨p,_,rfl,bN.of hpt,rfl,_,_,rfl,_,_,rfl,rfl,?_⟩;have SY:Yy H (upd Hx p (.tup [V.int x.d,V.ref x.g])) c D 0x80 gs jl ll m.li:=⟨fun a v h1 h2=>sp _ _ (SX.old a v h1 h2),sp _ _ SX.fz,fun y hy=>sp _ _ (SX.g y hy),SX.gn,SX.l0,fun y hy=>(SX.gN y hy).same sp,fun a v h1 h2=>(SX.oN a v h1 h2).same sp⟩;have AY:=AX.same sp
  show Gb _ _ _ _ (upd Hx p (.tup [V.int x.d,V.ref x.g]))
  generalize upd Hx p (.tup [V.int x.d,V.ref x.g])=HY at SY AY ⊢;clear sp hpt hp0 SX AX;refine⟨_,rfl,x.g,rfl,⟨_,bY.of (SY.g x hxm)⟩,?_⟩;refine gA (K:=K) (a:=x.g) (xs:=x.rs.map V.ref) (fun j σ Hz=>∃(u6:Option V)(W:Wo)(ws:List Str)(ts:List Addr),σ=[some (.ref c),some (.int n),some (.int b),some (.ref l),some (.int x.d),some (.ref x.g),u6]/\Yy H Hz c D 0x80 gs jl ll m.li/\
    qY CC CR CK C Hz c dc jl ll m q W ls sp ni ts (rY gs i++x.rs.take j) ws n b/\JL (W0 (Ie n t0)) ((rY gs i++x.rs.take j).map fun a=>(jW a,nH a)) ws W)
   ⟨_,W,ws,ts,rfl,SY,by rw[List.take_zero,A1t];exact AY,by rw[List.take_zero,A1t];exact JX⟩ (fun j σ Hz _ h=>by obtain⟨_,_,_,_,_,h,_⟩:=h;exact bY.of (h.g x hxm)) ?_ ?_
  ·rintro j v σ Hz hv ⟨u6,W,ws,ts,rfl,SZ,AZ,JZ⟩;rw[pF]at hv;obtain⟨r,hr,rfl⟩:=A0J.mp hv;obtain⟨hrt,Wt⟩:=Yz r (gm x hxm r (wU hr));rw[Wt.e]at hrt;have hrz:=SZ.old r _ (aO hrt hc 0x6) hrt;have tk:x.rs.take (j+1)=x.rs.take j++[r]:=by rw[A1e,hr];rfl
   have plen:(rY gs i++x.rs.take j).length<=30:=by
    have h1:=Fb (gs:=gs) (i+1);rw[rZ hx,cat,iD]at h1;rw[iD,A0H];lia
   refine⟨_,rfl,c,CC,dc,_,_,rfl,AZ.o,TC.cl,TC.n4,rfl,.inl ⟨rfl,_,bY.of AZ.J.l⟩,_,rfl,_,rfl,c,CC,dc,_,_,rfl,AZ.o,TC.cl,TC.n3,rfl,_,rfl,?_⟩;refine⟨m,q,W,ls,_,r,nH r,jW r,n,rfl,AZ.R,AZ.S,AZ.P,AZ.fr,Wt.ok,Wt.tx,hls,by lia,hrz,fun w' W' H' J R' fr' o=>⟨small 0xA,fun t ht=>?_⟩⟩;have nt:=aK ht 0x92;have jt:=nt _ _ (AZ.R.Ue o AZ.J.l AZ.nj).1;have oo:=fun(a:Addr)(v:HO)(h1:a≠c)(h2:H a=some v)=>o a v (fun hm=>by rw[qo a hm]at h2;cases h2) (SZ.oN a v h1 h2) (SZ.old a v h1 h2);refine⟨jl,_,_,rfl,rfl,jt,bO (by rw[cM,AZ.J.lt];lia),?_⟩;refine⟨_,W',ws++[w'],ts++[t],rfl,⟨fun a v h1 h2=>?_,?_,fun y hy=>?_,SZ.gn,SZ.l0,fun y hy=>((AZ.R.Ue o (SZ.g y hy) (SZ.gN y hy)).2.same nt).Yi jt,fun a v h1 h2=>((oo a v h1 h2).2.same nt).Yi jt⟩,?_,?_⟩
   ·rw[ak (au h2 jl0)];exact nt _ _ (oo a v h1 h2).1
   ·have R:=AZ.R;have h:=SZ.fz;rw[ak (aO h AZ.J.l 0x6)];exact nt _ _ (R.out o 0x26 h)
   ·rw[ak (SZ.gn y hy).1];exact nt _ _ (AZ.R.Ue o (SZ.g y hy) (SZ.gN y hy)).1
   ·rw[tk,<-A3c];exact AZ.judge Wt.ok Wt.tx hls J R' fr' o ht
   ·rw[tk,<-A3c,j9];exact .snoc JZ J
  ·rintro σ Hz ⟨u6,W,ws,ts,rfl,SZ,AZ,JZ⟩;rw[cM,A1f,<-rZ hx]at AZ JZ;have hday:x.d<=9999:=by
    obtain⟨a,ha⟩:=List.exists_mem_of_ne_nil _ (GO.ne x hxm);have h1:=GO.day x hxm a ha;obtain⟨_,RWa⟩:=Yz a (gm x hxm a ha);rw[RWa.e]at h1;have h2:iy (Ro.vs (jW a) (nH a))=jW a:=Ro.dayE _ _;rw[h2]at h1;rw[<-h1];exact RWa.d1
   have ln1:ni.length+1<=(rY gs (i+1)).length+1:=by
    have h1:=AY.ln;have h2:0<x.rs.length:=List.length_pos_iff.mpr (GO.ne x hxm);rw[rZ hx,iD];lia
   have pl2:=Fb (gs:=gs) (i+1);rw[cat]at pl2;refine⟨_,rfl,c,dc,_,rfl,AZ.o,rfl,_,rfl,?_⟩;refine⟨c,dc,jl,ll,m,q,W,sp,ni,n,b,x.d,rfl,AZ.o,AZ.R,AZ.P.E.P.W,AZ.P.E.M,AZ.P.E.O,AZ.fr,AZ.P.E.B.val AZ.P.E.P.W.nd,n1,n2,hday,AZ.Ld,by lia,fun Iw Ez FN H' fr o' L' NS len hl' hq'=>?_⟩;have md:∀kvs,Hz m.li=some 0x16->H' m.li=some 0x16:=fun kvs h=>fr _ _ (aO h AZ.o 0x6) (aO h AZ.Ld.l 0x6) h;refine⟨_,_,_,Iw,W,ws,FN,Ez,ts,rfl,⟨fun a v h1 h2=>fr a v h1 (au h2 SZ.l0) (SZ.old a v h1 h2),fr _ _ (aO SZ.fz AZ.o 0x6) (aO SZ.fz AZ.Ld.l 0x6) SZ.fz,fun y hy=>fr _ _ (aO (SZ.g y hy) AZ.o 0x6) (SZ.gn y hy).2 (SZ.g y hy),fun y hy=>⟨(SZ.gn y hy).1,?_⟩,?_,fun y hy=>(SZ.gN y hy).mv md,fun a v h1 h2=>(SZ.oN a v h1 h2).mv md⟩,AZ.day fr o' L' 0x4 hl' hq',JZ⟩
   ·rcases hl' with e|e
    ·rw[e];exact(SZ.gn y hy).2
    ·exact au (SZ.g y hy) e
   ·rcases hl' with e|e
    ·rw[e];exact SZ.l0
    ·cases hq2:H Iw with
     |none=>rfl
     | some v=>
      by_cases ec2:Iw=c
      ·rw[ec2,AZ.o]at e;cases e
      ·rw[SZ.old Iw v ec2 hq2]at e;cases e
 ·rintro σ Hx ⟨u4,u5,u6,ll,W,ws,sp,ni,ts,rfl,SX,AX,JX⟩;have e:(rE gs).length=gs.length:=cM ..;rw[e,V5,cat]at AX JX;exact k jl ll m q W sp ni ts out ws t0 Hx SX.old hp hu JX AX
abbrev V7:Stmt:=inClass (top 45) 5
structure ModB(K:PySem.W.Frag)(P:Params)(mg:Str->Option Value):Prop where
 bounds:∃a b1 b2 b3 b4 b5 b6 b7,mg "BOUNDS"=some 0x4E/\KD K P a [("day",.ref b1),("acres",.ref b2),("service",.ref b3),("bears",.ref b4),("edge",.ref b5),("number",.ref b6),("entry",.ref b7)]/\KTp K b4 [.int 0,.int 99]
inductive Iz(vs:List V)(H:Hp)(Q:VK)(cH:XK):Prop
 |mk(n:Int)(_:vs=[.str "bears",.int n])(_:0<=n)(_:n<=99)(_:Q (.bl true) H):Iz vs H Q cH
def YB{p r:Addr}{Q:VK}(hp:H p=some 0x23)(hr:H r=some (.tup ys))(fx:xs.all eZ=true)(fy:ys.all eZ=true)(k:Q (.bl (decide (xs=ys))) H):X8 0x46 0x60 H Q:=by
 refine⟨.tuple (xs.map iH),.tuple (ys.map iH),.tup hp (lW xs fx),.tup hr (lW ys fy),jT xs fx,jT ys fy,?_,?_⟩
 ·have:=qW xs
  show PyData.depthAll (xs.map iH)+1<=8
  lia
 ·show Q (.bl (PyData.eqvAll (xs.map iH) (ys.map iH))) H
  rw[kY xs ys fx fy];exact k
def Fe:aP A5H A5H (aJ ur):=0x0
def Ot(F:fj K "check_land" "check_land" ur f fd)(G1:aL P w K mg base bL 2 g1 d1 ["acres"] DN)(M1:Ms K mg "check_acres" g1 d1 ["acres"])
  (G2:aL P w K mg base bL 1 g2 d2 A5w Iz)(M2:Ms K mg "fits" g2 d2 A5w):aL P w K mg base bL 3 f fd A5H wz:=by
 refine F.ok Fe 0x1 0x3;obtain⟨n,b,rfl,n1,n2,b1,b2,k⟩:=h;have hr1:cG 1 _:=hr.mono 0x5;refine⟨_,aq (bM (bG G1 hr rfl M1.m M1.k M1.b .nil bC (aj 0x32 aC)))
  (aG (bK (ig (dJ (bG G2 hr1 rfl M2.m M2.k M2.b .nil bC (aj aM 0x2C)))) cD aR)),?_⟩
 exact⟨_,rfl,n,rfl,n1,n2,_,rfl,b,rfl,b1,b2,_,rfl,cg k⟩
end
end M
namespace L2
open PySem PySem.Spec PyProof.Rows PySem.W
def a1R(C:Addr)(sp:Sp)(jB:List V)(E:St->XK)(t:TA):TE:=fun σ H Q=>t σ H fun vs H1=>∀x dx,H1 x=none->H1 dx=none->dx≠x->
 sp (.ref x::(vs++jB)) (upd (upd H1 dx (.own x)) x (.ins C dx [])) (fun v H2=>v=.non/\Q (.ref x) H2) (E σ)
section
variable{k:Nat}{E:St->XK}{x m:Str}{p:Pos}{o:Expr}{t:TA}
def Ou{Q:VK}{vs:List V}(M:Mk X.K C f)(F:aL X.prog X.w X.K X.mg X.base CX k f fd ps sp)(hr:cG (k+1) X.A)(hb:Binds X.K fd ps ds)(hd:Vals jB ds)
  (hx:qG CX X E)(I:Inv X pins σ H s)(r:Vals vs us)
  (h:∀x dx,H x=none->H dx=none->dx≠x->sp (.ref x::(vs++jB)) (upd (upd H dx (.own x)) x (.ins C dx [])) (fun v H2=>v=.non/\Q (.ref x) H2) (E σ)):
  wpAny 0x9 X.A (call 0x59 us) 0x37 X.xe s:=by
 have hq:=h 0x11 s.heap.objs.size (I.hok.fresh (A2i _)) 0x4B (A0M (A3Q _));have I2:=Inv.made (C:=C) I;have r2:Vals (V.ref 0x11::(vs++jB)) (Value.ref 0x11::(us++ds)):=.cons rfl (r.append hd);have hl:(Value.ref 0x11::us++ds).length=ps.length:=by
  have e:=r2.length;rw[F.len _ _ _ _ hq]at e;exact e.symm
 refine A3R (Cu (f:=f) I.lZ M.makes M.init (A2P.mp M.fn) (A2Q (F.run _ X.stack _ _ ⟨Value.ref 0x11::us,[]⟩ (Value.ref 0x11::(us++ds)) _ _ (E σ) (hr.make C us [])
  (I2.env0.make C us []) (hb _ (Value.ref 0x11::us) I2.lZ hl) r2 hq) fun r s' hq'=>?_))
 cases r with
 |error e=>exact hx pins σ _ _ e s' I2 hq'
 | ok fl=>
  cases fl with
  | ret u=>
   obtain⟨v,H',I3,rv,ev,q3⟩:=I2.after hq';subst ev;exact⟨rv,⟨V.ref 0x11,H',I3,rfl,q3⟩⟩
  |next=>exact False.elim hq'
  |brk=>exact False.elim hq'
  |cont=>exact False.elim hq'
def V8(M:Mk X.K C f)(F:aL X.prog X.w X.K X.mg X.base CX k f fd ps sp)(hr:cG (k+1) X.A)(hg:Gl X x)(hm:X.mg x=some 0x59)(hb:Binds X.K fd ps ds)(hd:Vals jB ds)(hx:qG CX X E)
  (ha:PA X (e::es) t)(hdb:0x24=false:=by decide)(he:starEach (e::es) X.env=0x2D::starEach es X.env:=by rfl)(hpl:(0x70).any (·.1)=false:=by rfl):
  PE X (.Call (.Name x p) (e::es) [] pos) (a1R C sp jB E t):=by
 intro pins s σ H Q I h;refine A1z (jY I hg hm ?_ hdb);refine A2l (h₀:=X.base) I.ok.mod.kin M.kp (cP 0x6C fun us s1 ⟨vs,H1,I1,r,q⟩=>⟨I1.lZ,?_⟩) he hpl;exact Ou M F hr hb hd hx I1 r q
end
section
variable{k:Nat}
def aL.lift(CX:xK)(F:aL P w K mg base bL k f fd ps sp):aL P w K mg base CX k f fd ps sp:=by
 refine⟨F.len,fun A outer s H args us vs Q E hr he hb hv hs=>A2Q (F.run A outer s H args us vs Q E hr he hb hv hs) fun r s' h=>?_⟩;cases r with
 |error e=>exact False.elim h
 | ok fl=>
  cases fl with
  |ret u=>exact h
  |next=>exact False.elim h
  |brk=>exact False.elim h
  |cont=>exact False.elim h
def aL.or{s1 s2:Sp}(F:aL P w K mg base CX k f fd ps s1)(G:aL P w K mg base CX k f fd ps s2):aL P w K mg base CX k f fd ps (fun vs H Q E=>s1 vs H Q E\/s2 vs H Q E):=
 ⟨fun vs H Q E h=>h.elim (F.len vs H Q E) (G.len vs H Q E),fun A outer s H args us vs Q E hr he hb hv hs=>hs.elim (F.run A outer s H args us vs Q E hr he hb hv) (G.run A outer s H args us vs Q E hr he hb hv)⟩
end
inductive Fg(C:Addr)(m:Str)(sp:Sp)(jB:List V)(E:L2.St->XK)(t:TA)(σ:L2.St)(Q:VK)(x:V)(H1:Hp):Prop
 |mk(a dx:Addr)(fs:List (Prod Str V))(_:x=.ref a)(_:H1 a=some (.ins C dx fs))(_:fs.lookup m=none)(_:t σ H1 fun vs H2=>sp (x::(vs++jB)) H2 Q (E σ)):Fg C m sp jB E t σ Q x H1
def a1S(C:Addr)(m:Str)(sp:Sp)(jB:List V)(E:St->XK)(ta:TE)(t:TA):TE:=fun σ H Q=>ta σ H fun x H1=>Fg C m sp jB E t σ Q x H1
section
variable{k:Nat}{E:St->XK}{x m:Str}{p:Pos}{o:Expr}{t:TA}
def V9(he:PE X o ta)(c:Cls X.K C)(hm:Meth X.K C m f)(F:aL X.prog X.w X.K X.mg X.base CX k f fd ps sp)(hr:cG k X.A)(hb:Binds X.K fd ps ds)(hd:Vals jB ds)(hx:qG CX X E)(ha:PA X (e::es) t)
  (hst:starEach (e::es) X.env=0x2D::starEach es X.env:=by rfl)(hpl:(0x70).any (·.1)=false:=by rfl)
  (ht:eval (.Call (.Attribute o m apos) (e::es) [] pos) X.env=(do
   let ov<-eval o X.env
   standAt apos.atName
   let(f,first)<-holding [ov] (getMethod ov m pl)
   callWith pos f first (backTo pos (starEach (e::es) X.env)) (backToKw pos (keywordEach [] X.env))):=by rfl):
  PE X (.Call (.Attribute o m apos) (e::es) [] pos) (a1S C m sp jB E ta t):=by
 intro pins s σ H Q I h;refine A3N (pl:=pl) (cP 0x49 fun u s1 ⟨x,H1,I1,rx,a,dx,fs,ex,ea,l,q⟩=>?_) ht;subst ex;obtain rfl:u=Value.ref a:=rx;refine pU I1 ea c hm l ?_;refine A2l (first:=[.ref a]) (h₀:=X.base) I.ok.mod.kin hm.kp (cP (ha pos pins s1 σ H1 _ I1 q) fun us s2 ⟨vs,H2,I2,r,q2⟩=>⟨I2.lZ,?_⟩) hst hpl
 exact Xb (us:=.ref a::us) (vs:=.ref a::vs) F hr hb hd hx I2 (.cons rfl r) q2
end
end L2
namespace M
open PySem L2 PyProof.Rows
abbrev a1T:Stmt:=top 73
abbrev a1U:Stmt:=top 74
abbrev a1V:Stmt:=inClass (top 45) 2
abbrev a1W:Stmt:=inClass (top 45) 3
def xq:bootBuiltins "ValueError"=some (.type "ValueError"):=by decide+kernel
def iB(h:X.K=K:=by rfl):gO X 0x8F (a0N K):=h▸ R7
def FW(lo hi n:Int):Bool:=decide (lo<=n)&&decide (n<=hi)
def rm{n:Int}(h:FW lo hi n=true):lo<=n/\n<=hi:=by
 unfold FW at h
 rwa [A0Y,A1l,A1l]at h
def YC(n b:Int):Bool:=FW 1 9999 n&&FW 0 99 b
def IK:List V:=[.bl true,.bl false,.bl false,.bl false]
def IV:List V:=[.bl true,.bl true,.bl false,.bl false]
inductive qd(s:Str)(lo hi:Int)(vs:List V)(H:Hp)(Q:VK)(cH:XK):Prop
 |mk(n:Int)(_:vs=[.str s,.int n])(_:Q (.bl (FW lo hi n)) H):qd s lo hi vs H Q cH
inductive Va(NL:Addr)(vs:List V)(H:Hp)(e_2:VK)(E:XK):Prop
 |mk(n:Int)(_:vs=[.int n])(_:FW 1 9999 n=false)(_:E (.ref NL) none H):Va NL vs H e_2 E
inductive IW(NL:Addr)(vs:List V)(H:Hp)(e_2:VK)(E:XK):Prop
 |mk(n b:Int)(_:vs=[.int n,.int b])(_:YC n b=false)(_:E (.ref NL) none H):IW NL vs H e_2 E
inductive wD(NL:Addr)(vs:List V)(H:Hp)(e_2:VK)(E:XK):Prop
 |mk(c l:Addr)(n b:Int)(_:vs=[.ref c,.int n,.int b,.ref l])(_:YC n b=false)(_:E (.ref NL) none H):wD NL vs H e_2 E
def Vb{n:Int}(h1:lo<=n)(h2:n<=hi):FW lo hi n=true:=by unfold FW;rw[A0k h1,A0k h2];rfl
def fitA{vs:List V}{Q:VK}{E:XK}(h:Hh vs H Q E):qd "acres" 1 9999 vs H Q E:=by
 obtain⟨n,e,h1,h2,k⟩:=h;exact⟨n,e,by rw[Vb h1 h2];exact k⟩
def fitB{vs:List V}{Q:VK}{E:XK}(h:Iz vs H Q E):qd "bears" 0 99 vs H Q E:=by
 obtain⟨n,e,h1,h2,k⟩:=h;exact⟨n,e,by rw[Vb h1 h2];exact k⟩
structure Classes(K:PySem.W.Frag)(mg:Str->Option Value)(L NF NE NS NL:Addr):Prop where
 mL:mg "LandError"=some (.ref L)
 mF:mg "NoForm"=some (.ref NF)
 mE:mg "NoEntry"=some (.ref NE)
 mS:mg "NoEstate"=some (.ref NS)
 mN:mg "NoLand"=some (.ref NL)
 hE:PySem.W.excIn K NE Dh "ValueError.__new__"=true
 hN:PySem.W.excIn K NL Dh "ValueError.__new__"=true
 xE:XC K NE
 xN:XC K NL
 eE:PySem.W.exmOne K (.ref NE) (.ref L)=some true
 eN:PySem.W.exmOne K (.ref NL) (.ref L)=some true
 k0:PySem.W.kitOne K (.ref NE) (.type "ValueError")=some true
 k1:PySem.W.kitOne K (.ref NE) (.ref NE)=some true
 k2:PySem.W.kitOne K (.ref NE) (.ref NL)=some false
 k3:PySem.W.kitOne K (.ref NE) (.ref NF)=some false
 j1:PySem.W.kitOne K (.ref NL) (.ref NL)=some true
 j2:PySem.W.kitOne K (.ref NL) (.ref NE)=some false
 j3:PySem.W.kitOne K (.ref NL) (.ref NS)=some false
 j4:PySem.W.kitOne K (.ref NL) (.ref NF)=some false
section
variable{CR:Addr}
def YD(F:fj K "fits" "fits" Km f fd)(mo:XD K w.params mg):aL P w K mg base bL 1 f fd A5w (qd "acres" 1 9999):=by
 obtain⟨aB,b1,b2,b3,b4,b5,b6,b7,mB,kB,t2⟩:=mo.bounds;refine F.ok rO 0x1 0x3;obtain⟨n,rfl,k⟩:=h;refine⟨_,aq (bK (aU K7 0x32 (cj rfl mB rfl (v:=.ref aB)) 0x12)
   (aq (nP (aN K8 (cj rfl mB rfl (v:=.ref aB)) 0x32 0x2) (jN rfl (bR (bB (i:=2) rO.nd rfl 0x8) (bR (bB (i:=3) rO.nd rfl 0x8) gJ))))
   (aG (aZ (Cq sE sE 0x3B 0xF 0x52)))) aR) cD,?_⟩
 refine⟨_,rfl,_,aB,_,rfl,rfl,kB,_,rfl,cW ?_⟩;refine⟨_,rfl,aB,_,_,_,rfl,rfl,kB,rfl,?_⟩;refine⟨b2,_,rfl,t2.sq _,rfl,_,_,rfl,_,_,rfl,rfl,?_⟩;refine⟨_,rfl,_,rfl,_,_,rfl,rfl,_,rfl,?_⟩;refine iu (fun h1=>⟨_,rfl,_,_,rfl,rfl,?_⟩) (fun h1=>?_)
 ·unfold FW at k;rw[h1,A3V]at k;exact k
 ·unfold FW at k;rw[A2v.mpr h1,A3H]at k;exact k
def Vc(F:fj K "fits" "fits" Km f fd)(mo:ModB K w.params mg):aL P w K mg base bL 1 f fd A5w (qd "bears" 0 99):=by
 obtain⟨aB,b1,b2,b3,b4,b5,b6,b7,mB,kB,t2⟩:=mo.bounds;refine F.ok rO 0x1 0x3;obtain⟨n,rfl,k⟩:=h;refine⟨_,aq (bK (aU K7 0x32 (cj rfl mB rfl (v:=.ref aB)) 0x12)
   (aq (nP (aN K8 (cj rfl mB rfl (v:=.ref aB)) 0x32 0x2) (jN rfl (bR (bB (i:=2) rO.nd rfl 0x8) (bR (bB (i:=3) rO.nd rfl 0x8) gJ))))
   (aG (aZ (Cq sE sE 0x3B 0xF 0x52)))) aR) cD,?_⟩
 refine⟨_,rfl,_,aB,_,rfl,rfl,kB,_,rfl,cW ?_⟩;refine⟨_,rfl,aB,_,_,_,rfl,rfl,kB,rfl,?_⟩;refine⟨b4,_,rfl,t2.sq _,rfl,_,_,rfl,_,_,rfl,rfl,?_⟩;refine⟨_,rfl,_,rfl,_,_,rfl,rfl,_,rfl,?_⟩;refine iu (fun h1=>⟨_,rfl,_,_,rfl,rfl,?_⟩) (fun h1=>?_)
 ·unfold FW at k;rw[h1,A3V]at k;exact k
 ·unfold FW at k;rw[A2v.mpr h1,A3H]at k;exact k
def a1X(F:fj K "check_acres" "check_acres" Xz f fd){NL:Addr}(mC:mg "NoLand"=some (.ref NL))(hC:PySem.W.excIn K NL Dh "ValueError.__new__"=true){g:Addr}{gd:FuncData}(G:aL P w K mg base bL 1 g gd A5w (qd "acres" 1 9999))
  (MG:Ms K mg "fits" g gd A5w):aL P w K mg base (wQ P w) 2 f fd ["acres"] (Va NL):=by
 obtain⟨oc,od,kV,doc,pm,an,cdv,ct,osl,rfl,lk,hcd⟩:=F.ex;refine xR lk hcd ZL (fun vs H Q E h=>?_) fun A outer s H vs Q E hr h=>?_
 ·obtain⟨n,rfl,_⟩:=h;rfl
 obtain⟨n,rfl,h1,h⟩:=h;refine⟨_,aG (bK (ig (dJ (bG (E:=E0) G hr rfl MG.m MG.k MG.b .nil (fun _ _ _ _ _ _ _ z=>z.elim) (aj aM (aj 0x32 aC)))))
  (aG (uW (C:=NL) (E:=E) rfl (fun pins σ H1 s1 h' e C' vs I hx q=>mO I hx q) rfl mC hC (aj aM aC))) aR),?_⟩
 refine⟨_,rfl,n,rfl,_,rfl,?_⟩;rw[h1];exact cW ⟨jL 0xA |> A1P,h⟩
def YF(F:fj K "check_land" "check_land" ur f fd){NL:Addr}(mC:mg "NoLand"=some (.ref NL))(hC:PySem.W.excIn K NL Dh "ValueError.__new__"=true) 
  (G1:aL P w K mg base (wQ P w) 2 g1 d1 ["acres"] (fun vs H Q E=>DN vs H Q E\/Va NL vs H Q E))(M1:Ms K mg "check_acres" g1 d1 ["acres"])
  (G2:aL P w K mg base bL 1 g2 d2 A5w (qd "bears" 0 99))(M2:Ms K mg "fits" g2 d2 A5w):aL P w K mg base (wQ P w) 3 f fd A5H (IW NL):=by
 obtain⟨oc,od,kV,doc,pm,an,cdv,ct,osl,rfl,lk,hcd⟩:=F.ex;refine xR lk hcd Fe (fun vs H Q E h=>?_) fun A outer s H vs Q E hr h=>?_
 ·obtain⟨n,b,rfl,_⟩:=h;rfl
 obtain⟨n,b,rfl,h1,h⟩:=h;have hr1:cG 1 _:=hr.mono 0x5;refine⟨_,aq (bM (bG (CX:=wQ P w) (E:=E) G1 hr rfl M1.m M1.k M1.b .nil JQ (aj 0x32 aC)))
  (aG (bK (ig (dJ (bG (E:=E0) G2 hr1 rfl M2.m M2.k M2.b .nil (fun _ _ _ _ _ _ _ z=>z.elim) (aj aM 0x2C))))
  (aG (uW (C:=NL) (E:=E) rfl (fun pins σ H1 s1 h' e C' vs I hx q=>mO I hx q) rfl mC hC (aj aM aC))) aR)),?_⟩
 cases oa:FW 1 9999 n with
 |false=>exact⟨_,rfl,.inr ⟨n,rfl,oa,h⟩⟩
 | true=>
  unfold YC at h1;rw[oa,A3V]at h1;refine⟨_,rfl,.inl ⟨n,rfl,(rm oa).1,(rm oa).2,_,rfl,b,rfl,_,rfl,?_⟩⟩;rw[h1];exact cW ⟨jL 0xA |> A1P,h⟩
def Ov(F:fj K "__init__" "Court.__init__" uw f fd){NL:Addr}(G1:aL P w K mg base (wQ P w) 3 g1 d1 A5H (IW NL))(M1:Ms K mg "check_land" g1 d1 A5H):aL P w K mg base (wQ P w) 7 f fd A5x (wD NL):=by
 have G1:=aL.mono (k:=6) G1 0x4;obtain⟨oc,od,kV,doc,pm,an,cdv,ct,osl,rfl,lk,hcd⟩:=F.ex;refine xR lk hcd oM (fun vs H Q E h=>?_) fun A outer s H vs Q E hr h=>?_
 ·obtain⟨c,l,n,b,rfl,_⟩:=h;rfl
 obtain⟨c,l,n,b,rfl,h1,h⟩:=h;refine⟨_,aq (bM (bG (CX:=wQ P w) (E:=E) G1 hr rfl M1.m M1.k M1.b .nil JQ (aj 0xF 0x65))) cD,?_⟩;exact⟨_,rfl,_,rfl,n,b,rfl,h1,h⟩
inductive Vd(CC CR CK C:Addr)(K:W.Frag)(vs:List V)(H:Hp)(Q:VK)(cH:XK):Prop
 |mk(l:Addr)(n b:Int)(all:List Addr)(dat:Addr->List V)(jW:Addr->Int)(nH:Addr->M.Ro)(ls:List Str)(_:vs=[.int n,.int b,.ref l])(_:bY K H l 0x4A)(_:all.length<=30)(_:jg H all dat)(_:(∀a∈all,Fd dat jW nH ls a))(_:0x62)(_:(YC n b=true->∀T lm c dc jl ll m q W sp ni ts out ws t0 H',Same H H'->H' T=some (.tup [.ref lm,.ref c])->H' lm=some 0x54->out.Perm all->Ir dat out->JL (W0 (Ie n t0)) (out.map fun a=>(jW a,nH a)) ws W->qY CC CR CK C H' c dc jl ll m q W ls sp ni ts out ws n b->Q (.ref T) H'))(_:(YC n b=false->∀T lm H',Same H H'->H' T=some (.tup [.ref lm,.non])->H' lm=some (.lst IK)->Q (.ref T) H')):Vd CC CR CK C K vs H Q cH
def yR:aP ["_law_acres","_law_bears_so","_law_rows_here","_law_marks","_law_found","e"] A5q (aJ a1T):=0x0
def a1Y(F:fj K "_law_why_court" "_law_why_court" a1T f fd)(mi:mg "isinstance"=none){NF NS NL:Addr}(cl:Classes K mg L NF NE NS NL) 
  (G1:aL P w K mg base (wQ P w) 7 g1 d1 A5x (fun vs H Q E=>wA CC CR CK C K vs H Q E\/wD NL vs H Q E))(MK:Mk K CC g1)(mC:mg "Court"=some (.ref CC))(b1:Binds K d1 A5x []):
  aL P w K mg base bL 9 f fd A5q (Vd CC CR CK C K):=by
 refine F.ok yR 0x1 0x3;obtain⟨l,n,b,all,dat,jW,nH,ls,rfl,hl,h30,RO,RW,hls,k1,k2⟩:=h;refine⟨_,aq (aV (i:=3) yR.nd rfl 0x8 (cL aC))
  (aq (aV (i:=4) yR.nd rfl 0x8 m7)
  (aq (Rb (i:=5) (L:=L) rfl rfl yR.nd rfl rfl rfl cl.mL
    (fun pn xe E hp=>aG (aV (i:=4) yR.nd rfl 0x8 (V8 (CX:=wQ P w) (E:=E) MK G1 hr rfl mC b1 .nil hp (aj 0x32 (aj 0xF 0x65)))))
    (fun ea=>aG (aV (i:=3) yR.nd rfl 0x8 (cL (aj (bH (iB (K:=K)) rfl mi bT (aj (pv 5) (aj (cj rfl cl.mN rfl (v:=.ref NL)) aC))) (aj (bH (iB (K:=K)) rfl mi bT (aj (pv 5) (aj (cj rfl cl.mE rfl (v:=.ref NE)) aC))) (aj (bH (iB (K:=K)) rfl mi bT (aj (pv 5) (aj (cj rfl cl.mS rfl (v:=.ref NS)) aC))) (aj (bH (iB (K:=K)) rfl mi bT (aj (pv 5) (aj (cj rfl cl.mF rfl (v:=.ref NF)) aC))) aC))))))))
  (aG (aZ (cu (aj 0x52 (aj (pv 4) aC))))))),?_⟩
 refine⟨small 0xA,fun lm YG=>?_⟩;have s1:Same H (upd H lm 0x54):=aK YG _;have m1:(upd H lm 0x54) lm=some 0x54:=ao;dsimp only[qj];generalize upd H lm 0x54=H1 at s1 m1 ⊢;refine⟨_,rfl,_,rfl,_,rfl,fun x dx hx hdx hne=>?_⟩;have s0:Same H1 (upd (upd H1 dx (.own x)) x (.ins CC dx [])):=(aK hdx _).trans (aK (by rw[ak (A0m hne)];exact hx) _);have sH:=s1.trans s0;cases ok:YC n b with
 | true=>
  have ob:=ok;unfold YC at ob;rw[A0Y]at ob;have o1:=rm ob.1;have o2:=rm ob.2;refine .inl ⟨x,dx,l,n,b,all,dat,jW,nH,ls,rfl,ao,o1.1,o1.2,o2.1,o2.2,sH.seq hl,h30,⟨fun a ha=>⟨sH _ _ (RO.1 a ha).1,(RO.1 a ha).2⟩,RO.2⟩,RW,hls,fun jl ll m q W sp ni ts out ws t0 H' kp pm up J ct=>⟨rfl,?_⟩⟩;have s3:Same H1 H':=fun a u h=>kp a u (au h hx) (s0 _ _ h);refine⟨_,rfl,_,rfl,small 0xA,fun T hT=>?_⟩;have sT:=aK hT (.tup [.ref lm,.ref x]);exact k1 ok T lm x dx jl ll m q W sp ni ts out ws t0 _ ((s1.trans s3).trans sT) ao (sT _ _ (s3 _ _ m1)) pm up J (ct.same sT)
 | false=>
  refine .inr ⟨x,l,n,b,rfl,ok,NL,rfl,cl.eN,fun ea hea=>?_⟩;have s3:=s0.trans (aK hea (Wn NL ea));have e3:(upd (upd (upd H1 dx (.own x)) x (.ins CC dx [])) ea (Wn NL ea)) ea=some (Wn NL ea):=ao;generalize upd (upd (upd H1 dx (.own x)) x (.ins CC dx [])) ea (Wn NL ea)=H3 at s3 e3 ⊢;refine⟨_,rfl,ea,NL,_,_,rfl,e3,cl.xN,.inr ⟨_,rfl⟩,cl.j1,?_⟩;refine⟨_,rfl,ea,NL,_,_,rfl,e3,cl.xN,.inr ⟨_,rfl⟩,cl.j2,?_⟩;refine⟨_,rfl,ea,NL,_,_,rfl,e3,cl.xN,.inr ⟨_,rfl⟩,cl.j3,?_⟩;refine⟨_,rfl,ea,NL,_,_,rfl,e3,cl.xN,.inr ⟨_,rfl⟩,cl.j4,?_⟩;refine⟨small 0xA,fun q1 h1=>⟨_,rfl,_,rfl,small 0xA,fun T hT=>?_⟩⟩;have sq:=aK h1 (.lst IK);have sT:=aK hT (.tup [.ref q1,.non]);exact k2 ok T q1 _ ((s1.trans s3).trans (sq.trans sT)) ao (sT _ _ ao)
inductive Ve(CC:Addr)(vs:List V)(H:Hp)(Q:VK)(cH:XK):Prop
 |mk(c dc z jl ll:Addr)(n b:Int)(_:vs=[.ref c])(_:H c=some (.ins CC dc (FT n b z jl ll)))(_:Q (.int n) H):Ve CC vs H Q cH
inductive Vf(CC:Addr)(vs:List V)(H:Hp)(Q:VK)(cH:XK):Prop
 |mk(c dc z jl ll:Addr)(n b:Int)(_:vs=[.ref c])(_:H c=some (.ins CC dc (FT n b z jl ll)))(_:Q (.int b) H):Vf CC vs H Q cH
def a3G:aP A5z A5z (aJ a1V):=0x0
def a3H:aP A5z A5z (aJ a1W):=0x0
def a1Z(TC:oK K CC)(F:fj K "acres" "Court.acres" a1V f fd):aL P w K mg base bL 1 f fd A5z (Ve CC):=by
 refine F.ok a3G 0x1 0x3;obtain⟨c,dc,z,jl,ll,n,b,rfl,hc,k⟩:=h;exact⟨_,aG (aZ 0xB),_,rfl,c,CC,dc,_,_,rfl,hc,TC.cl,TC.n1,rfl,k⟩
def a2a(TC:oK K CC)(F:fj K "bears" "Court.bears" a1W f fd):aL P w K mg base bL 1 f fd A5z (Vf CC):=by
 refine F.ok a3H 0x1 0x3;obtain⟨c,dc,z,jl,ll,n,b,rfl,hc,k⟩:=h;exact⟨_,aG (aZ 0xB),_,rfl,c,CC,dc,_,_,rfl,hc,TC.cl,TC.n2,rfl,k⟩
inductive Vg(CC NE:Addr)(vs:List V)(H:Hp)(Q:VK)(E:XK):Prop
 |mk(c dc z jl ll:Addr)(n b:Int)(ts pr:List Addr)(ws:List Str)(dat:Addr->List V)(r:Addr)(xs:List V)(_:vs=[.ref c,.ref r])(_:H c=some (.ins CC dc (FT n b z jl ll)))(_:jr H jl ts pr ws)(_:(∀a∈pr,H a=some (.tup (dat a))/\(dat a).all eZ=true))(_:(pr.map dat).Nodup)(_:H r=some 0x23)(_:xs.all eZ=true)(_:((∃(i:Nat)(w:Str),(pr.map dat)[i]?=some xs/\ws[i]?=some w/\Q (.str w) H)\/(xs∉pr.map dat/\E (.ref NE) none H))):Vg CC NE vs H Q E
def Vh:aP ["self","row","charter","word"] ["self","row"] (aJ V7):=0x0
def a2b(TC:oK K CC)(F:fj K "verdict" "Court.verdict" V7 f fd)(mC:mg "NoEntry"=some (.ref NE))(hC:PySem.W.excIn K NE Dh "ValueError.__new__"=true):aL P w K mg base (wQ P w) 2 f fd ["self","row"] (Vg CC NE):=by
 obtain⟨oc,od,kV,doc,pm,an,cdv,ct,osl,rfl,lk,hcd⟩:=F.ex;refine xR lk hcd Vh (fun vs H Q E h=>?_) fun A outer s H vs Q E hr h=>?_
 ·obtain⟨c,dc,z,jl,ll,n,b,ts,pr,ws,dat,r,xs,rfl,_⟩:=h;rfl
 obtain⟨c,dc,z,jl,ll,n,b,ts,pr,ws,dat,r,xs,rfl,hc,J,hd,nd,hrr,hxs,h⟩:=h;refine⟨_,aq (gF (fun e s' h=>wpAny_leaving_again (SameStack.refl _) h) rfl (fu 0xB) (jN rfl (bR (bB (i:=2) Vh.nd rfl 0x8) (bR (bB (i:=3) Vh.nd rfl 0x8) gJ)))
  (aG (bK (aU (QX (u64 hr)) 0x3B 0xF 0x61) (aG (aZ 0x52)) aR)))
  (aG (uW (C:=NE) (E:=E) rfl (fun pins σ H1 s1 h' e C' vs I hx q=>mO I hx q) rfl mC hC (aj aM aC))),?_⟩
 refine⟨_,rfl,c,CC,dc,_,_,rfl,hc,TC.cl,TC.n4,rfl,jl,rfl,⟨_,bY.of J.l⟩,?_⟩;refine gA (K:=K) (a:=jl) (xs:=ts.map V.ref) (fun j σ Hx=>∃(u2 u3:Option V),σ=[some (.ref c),some 0x60,u2,u3]/\Hx=H/\∀a∈pr.take j,dat a≠xs)
  ⟨none,none,rfl,rfl,fun a ha=>nomatch ha⟩ (fun j σ Hx _ h=>by obtain⟨_,_,_,h,_⟩:=h;rw[h];exact bY.of J.l) ?_ ?_
 ·rintro j v σ Hx hv ⟨u2,u3,rfl,rfl,hji⟩;rw[pF]at hv;obtain⟨t,ht,rfl⟩:=A0J.mp hv;have hj:j<pr.length:=by rw[<-J.lt];exact(A0j.mp ht).1
  obtain⟨p,hp⟩:∃p,pr[j]?=some p:=⟨_,lG hj⟩;obtain⟨w1,hw1⟩:∃w1,ws[j]?=some w1:=⟨_,lG (by rw[J.lw];exact hj)⟩;have tt:=J.at' j t p w1 ht hp hw1;have pm:=wU hp;refine⟨t,_,rfl,bN.of tt,rfl,_,_,rfl,_,_,rfl,rfl,?_⟩;refine⟨_,rfl,_,rfl,YB (hd p pm).1 hrr (hd p pm).2 hxs ⟨_,rfl,iu (fun e=>?_) (fun e=>?_)⟩⟩
  ·have ed:dat p=xs:=qg e;have a:(pr.map dat)[j]?=some xs:=by rw[pF,hp,<-ed];rfl
   rcases h with⟨i,w0,hi,hw,k⟩|⟨hn,_⟩
   ·have eij:=(List.getElem?_inj (by rw[cM];exact hj) nd).mp (a.trans hi.symm);subst eij;rw[hw]at hw1;injection hw1 with hw1;subst hw1;exact⟨_,rfl,k⟩
   ·exact absurd (wU a) hn
  ·refine⟨_,_,rfl,rfl,fun a ha=>?_⟩;rw[A1e,hp]at ha;rcases A0l.mp ha with q|q
   ·exact hji a q
   ·rw[A0b.mp q];exact fun z=>e (A0k z)
 ·rintro σ Hx ⟨u2,u3,rfl,rfl,hji⟩;rw[cM,J.lt,A1f]at hji;rcases h with⟨i,w0,hi,_⟩|⟨_,h⟩
  ·obtain⟨a,ha,e⟩:=A0e.mp (wU hi);exact absurd e (hji a ha)
  ·exact⟨jL 0xA |> A1P,h⟩
inductive Vi(CC:Addr)(vs:List V)(H:Hp)(Q:VK)(cH:XK):Prop
 |mk(c dc z jl ll:Addr)(n b:Int)(ts pr:List Addr)(ws:List Str)(dat:Addr->List V)(r:Addr)(xs:List V)(_:vs=[.ref c,.ref r])(_:H c=some (.ins CC dc (FT n b z jl ll)))(_:jr H jl ts pr ws)(_:(∀a∈pr,H a=some (.tup (dat a))/\(dat a).all eZ=true))(_:(pr.map dat).Nodup)(_:H r=some 0x23)(_:xs.all eZ=true)(_:((∃(i:Nat)(w:Str),(pr.map dat)[i]?=some xs/\ws[i]?=some w/\∀T lm H',Same H H'->H' T=some (.tup [.ref lm,.str w])->H' lm=some 0x54->Q (.ref T) H')\/(xs∉pr.map dat/\∀T lm H',Same H H'->H' T=some (.tup [.ref lm,.str ""])->H' lm=some (.lst IV)->Q (.ref T) H'))):Vi CC vs H Q cH
def yS:aP ["_law_court","_law_row_here","_law_marks","_law_word_here","e"] ["_law_court","_law_row_here"] (aJ a1U):=0x0
def a2c(TC:oK K CC)(F:fj K "_law_why_verdict" "_law_why_verdict" a1U f fd)(mi:mg "isinstance"=none)(mv:mg "ValueError"=none){NF NS NL:Addr}(cl:Classes K mg L NF NE NS NL) 
  (G1:aL P w K mg base (wQ P w) 2 g1 d1 ["self","row"] (Vg CC NE))(m1:Meth K CC "verdict" g1)(b1:Binds K d1 ["self","row"] []):
  aL P w K mg base bL 3 f fd ["_law_court","_law_row_here"] (Vi CC):=by
 refine F.ok yS 0x1 0x3;obtain⟨c,dc,z,jl,ll,n,b,ts,pr,ws,dat,r,xs,rfl,hc,J,hd,nd,hrr,hxs,h⟩:=h;refine⟨_,aq (aV (i:=2) yS.nd rfl 0x8 (cL aC))
  (aq (aV (i:=3) yS.nd rfl 0x8 aM)
  (aq (Rb (i:=4) (L:=L) rfl rfl yS.nd rfl rfl rfl cl.mL
    (fun pn xe E hp=>aG (aV (i:=3) yS.nd rfl 0x8 (V9 (CX:=wQ P w) (E:=E) 0x32 TC.cl m1 G1 hr b1 .nil hp 0x2C)))
    (fun ea=>aG (aV (i:=2) yS.nd rfl 0x8 (cL (aj (bH (iB (K:=K)) rfl mi bT (aj (pv 4) (aj (jh rfl mv xq rfl (v:=.ty "ValueError")) aC))) (aj (bH (iB (K:=K)) rfl mi bT (aj (pv 4) (aj (cj rfl cl.mE rfl (v:=.ref NE)) aC))) (aj (bH (iB (K:=K)) rfl mi bT (aj (pv 4) (aj (cj rfl cl.mN rfl (v:=.ref NL)) aC))) (aj (bH (iB (K:=K)) rfl mi bT (aj (pv 4) (aj (cj rfl cl.mF rfl (v:=.ref NF)) aC))) aC))))))))
  (aG (aZ (cu (aj 0x3B 0x90)))))),?_⟩
 refine⟨small 0xA,fun lm YG=>?_⟩;have s1:Same H (upd H lm 0x54):=aK YG _;have m1':(upd H lm 0x54) lm=some 0x54:=ao;dsimp only[qj];generalize upd H lm 0x54=H1 at s1 m1' ⊢;have J1:jr H1 jl ts pr ws:=J.keep (by rw[s1 _ _ J.l,J.l]) fun c xs h=>s1 _ _ h;refine⟨_,rfl,c,dc,_,rfl,s1 _ _ hc,rfl,_,rfl,c,dc,z,jl,ll,n,b,ts,pr,ws,dat,r,xs,rfl,s1 _ _ hc,J1,fun a ha=>⟨s1 _ _ (hd a ha).1,(hd a ha).2⟩,nd,s1 _ _ hrr,hxs,?_⟩;rcases h with⟨i,w0,hi,hw,k⟩|⟨hn,k⟩
 ·refine .inl ⟨i,w0,hi,hw,_,rfl,_,rfl,small 0xA,fun T hT=>?_⟩;have sT:=aK hT (.tup [.ref lm,.str w0]);exact k T lm _ (s1.trans sT) ao (sT _ _ m1')
 ·refine .inr ⟨hn,NE,rfl,cl.eE,fun ea hea=>?_⟩
  apply 0o1 H1 ea hea s3 e3 H3
  refine⟨_,rfl,ea,NE,_,_,rfl,e3,cl.xE,.inl ⟨_,rfl⟩,cl.k0,?_⟩;refine⟨_,rfl,ea,NE,_,_,rfl,e3,cl.xE,.inr ⟨_,rfl⟩,cl.k1,?_⟩;refine⟨_,rfl,ea,NE,_,_,rfl,e3,cl.xE,.inr ⟨_,rfl⟩,cl.k2,?_⟩;refine⟨_,rfl,ea,NE,_,_,rfl,e3,cl.xE,.inr ⟨_,rfl⟩,cl.k3,?_⟩;refine⟨small 0xA,fun q1 h1=>⟨_,rfl,_,rfl,small 0xA,fun T hT=>?_⟩⟩;have sq:=aK h1 (.lst IV);have sT:=aK hT (.tup [.ref q1,.str ""]);exact k T q1 _ ((s1.trans s3).trans (sq.trans sT)) ao (sT _ _ ao)
end
end M
namespace L2
open PySem PySem.Spec PySem.W PySem.Calls PyProof.Rows
def Ow:typeLookup (.type "list") "keys"=pure none:=am_miss_of_fast 0x7
def yU:entryFor table "dict.update.loop"=some Builtin.«dict.update.loop»:=entryFor_of_tree (by kernel_rfl)
def pC:plainId "dict.update.loop"=true:=by decide+kernel
def Ox{o:Obj}{xs:Array Value}{k:Nat}{Q:Option Value->Shared->Prop}
  (hx:s.heap.get? a=some o)(hc:o.cls=.type "list")(hdat:o.data=.seq xs k)(hd:o.dict=none)(hA:A.handled=none)
  (h:∀h' tk e,Heap.NewExcOf s.heap h' e "AttributeError"->Q none {s with heap:=h',toks:=tk}):
  wpAny 0x13 A (getAttr? 0x4E "keys") Q E s:=by
 obtain⟨c,dct,dat,sl⟩:=o;simp only at hc hdat hd;subst hc hdat hd;obtain⟨hp,g,d,tk,os⟩:=s;have hT:∀tk',(⟨hp,g,d,tk',os⟩:Shared).TypeIs 0x4E "list":=fun _=>⟨_,hx,rfl⟩;have f1:=sub_AttributeError;have f3:=A2N.lookup;have f4:=A2N.bind 0x4E;have f5:=am_list_getattr_none;unfold getAttr? getAttrBy? getAttrBy
 repeat (any_goals (first|assumption|exact hT _|((with_reducible show wpAny _ _ (call (Value.builtin "list.__getattribute__") _ _) _ _ _);refine A4o A2N (hT _) am_entry_list_getattribute (PySem.F.args_list_getattribute_2 _ _) (meets_getattribute_miss_list a xs k sl "keys" _ Ow (by decide+kernel) (by decide+kernel)) ⟨hx,hA,fun h' tk' e hx'=>?_⟩)|wp_step))
 obtain⟨t',u',he⟩:=hx'.there
 show wpAny _ _ (getattributeRaised _ _ _ _ _ _ _) _ _ _
 unfold getattributeRaised
 repeat (any_goals (first|assumption|wp_step))
 exact h _ _ _ hx'.of
abbrev KTs(K:Type):=List K×Addr×Value
def oO{K:Type}[DecidableEq K](knd:KeyKind prog w K)(h:Heap)(its:List Value)(ps:List (KTs K)):Prop:=
 its.length=ps.length/\∀(i:Nat)v,its[i]?=some v->∃k a u b o n,ps[i]?=some (k,a,u)/\v=Value.ref b/\h.get? b=some o/\o.cls=.type "tuple"/\o.data=.seq #[.ref a,u] n/\(0x6B).is h k a
def Vj{K:Type}[DecidableEq K]{knd:KeyKind prog w K}{k:List K}(x:(0x6B).is h k a)(q:∀b o,h.get? b=some o->o.cls=.type "tuple"->h'.get? b=some o):(0x6B).is h' k a:=by
 obtain⟨o,its,n,h1,h2,h3⟩:=x;exact⟨o,its,n,q _ _ h1 h2,h2,h3⟩
def oO.at{K:Type}[DecidableEq K]{knd:KeyKind prog w K}{ps:List (KTs K)}(x:oO knd h its ps)(q:∀b o,h.get? b=some o->o.cls=.type "tuple"->h'.get? b=some o):oO knd h' its ps:=
 ⟨x.1,fun i v hv=>by
  obtain⟨k,a,u,b,o,n,h1,h2,h3,h4,h5,h6⟩:=x.2 i v hv;exact⟨k,a,u,b,o,n,h1,h2,q b o h3 h4,h4,h5,Vj h6 q⟩⟩
def rB{K:Type}[DecidableEq K]{knd:KeyKind prog w K}{S:Addr}{xs:List (KTs K)}(x:h.DictOfH 0x6B S xs)(e:∀o,h.get? S=some o->h'.get? S=some o)(q:∀b o,h.get? b=some o->o.cls=.type "tuple"->h'.get? b=some o):h'.DictOfH 0x6B S xs:=by
 obtain⟨o,es,ep,h1,h2,h3,h4,h5,h6⟩:=x;exact⟨o,es,ep,e _ h1,h2,h3,h4,fun y hy=>Vj (h5 y hy) q,h6⟩
def Fi{K:Type}[DecidableEq K](xs:List (K×Addr×Value))(k:K)(a:Addr)(v:Value):(storedH xs k a v).length<=xs.length+1:=by
 unfold storedH
 split<;>simp
section
variable{K:Type}[DecidableEq K]{knd:KeyKind prog w K}
def pair_items{o:Obj}{key:Value}{Q:List Value->Shared->Prop}(hb:s.heap.get? b=some o)(hc:o.cls=.type "tuple")(hd:o.data=.seq #[key,u] n)(h:Q [key,u] s):wpAny 0x13 A (Builtin.Dict.pairItems (.ref b)) Q E s:=by
 obtain⟨c,dct,dat,sl⟩:=o;simp only at hc hd;subst hc hd;obtain⟨hp,g,d,tk,os⟩:=s;have hT:(⟨hp,g,d,tk,os⟩:Shared).TypeIs (.ref b) "tuple":=⟨_,hb,rfl⟩;unfold Builtin.Dict.pairItems
 repeat (any_goals (first|assumption|wp_step))
variable{R:Result->Shared->Prop}{I:Addr}{wr:List Addr}{G:Array GenState->Array GenState->Prop}{P:Nat->Value->Prop}{St:Nat->Shared->Prop}
def Fj(hu:A.units+1<cLine)(W:WalksS prog w A.in1 I fp wr G n P St)(S:Addr)(hSf:S∉fp)(its:List Value)(l:List (KTs K))(hn:l.length=n)(hval:∀i v,P i v->its[i]?=some v)(hb:n<=1000)
  (hwr:∀(s:Shared)(i:Nat),St i s->∀b∈wr,∃o,s.heap.get? b=some o/\o.cls≠.type "tuple"):
  ∀ (k i:Nat)(j:Int)(t:Tok)(s:Shared)(acc:List (KTs K)),n-i=k->i<=n->acc.length<=i->St i s->s.heap.DictOfH 0x6B S acc->oO knd s.heap its l->(∀s',Moved (S::wr) G s s'->s'.heap.DictOfH 0x6B S ((l.drop i).foldl (fun a p=>storedH a p.1 p.2.1 p.2.2) acc)->R (.ok (.ret .none)) s')->
   codeAny 0x13 A (.builtin "dict.update.loop" ⟨[.ref S,.ref I,.int j t,.none],[]⟩) R s:=by
 have hSw:S∉wr:=fun h=>hSf (W.sub _ h);have sub:∀b∈wr,b∈S::wr:=fun b hb=>jK _ hb;have keep:∀{s s':Shared}{i:Nat},St i s->Moved wr G s s'->∀b o,s.heap.get? b=some o->o.cls=.type "tuple"->s'.heap.get? b=some o:=fun{s s' i}st hm b o hbo hc=>by
  refine hm.heap b _ (fun hbw=>?_) hbo;obtain⟨o',ho',hne⟩:=hwr s i st b hbw;rw[hbo]at ho';injection ho' with ho';exact hne (by rw[<-ho'];exact hc)
 intro k
 induction k with
 | zero=>
  intro i j t s acc hk hi ha st hS hT hR;have hin:i=n:=by lia
  subst hin;refine A4P yU ?_;rw[Around.under_plainId pC _]
  show wpAny _ A.in1 (pyNext (.ref I)>>=_) _ _ s
  refine A0a (W.done s _ _ st fun s' hm=>?_);rw[<-hn,List.drop_length]at hR;exact A0a (A0n (A0n (hR s' (hm.mono sub) (rB hS (fun o e=>hm.heap _ _ hSw e) (keep st hm)))))
 | succ k ih=>
  intro i j t s acc hk hi ha st hS hT hR;have hlt:i<n:=by lia
  refine A4P yU ?_;rw[Around.under_plainId pC _]
  show wpAny _ A.in1 (pyNext (.ref I)>>=_) _ _ s
  refine A0a (W.item i s _ _ hlt st fun v s' hP st' hm=>?_);have hS':=rB hS (fun o e=>hm.heap _ _ hSw e) (keep st hm);have hT':oO knd s'.heap its l:=hT.at (keep st hm);obtain⟨kx,ax,ux,bx,ob,nb,hk1,rfl,hk2,hk3,hk4,hk5⟩:=hT'.2 i v (hval i v hP)
  show wpAny _ A.in1 (holding [Value.ref bx] _>>=_) _ _ s'
  refine A0a (A1U (A0a (wpAny_tryCatch (pair_items hk2 hk3 hk4 ?_))));refine A1U (wpAny_dictSet_heap (A2d hu) hk5 hS' (fun h' hD sb=>?_) ?hsz)
  case hsz=>exact A0z ha (A0z (A1P hlt) (A0z hb 0x7))
  have eI:l.drop i=(kx,ax,ux)::l.drop (i+1):=by
   have hi':i<l.length:=by lia
   rw[A3n hi'];rw[lG hi']at hk1;injection hk1 with hk1;rw[hk1]
  rw [eI,A1c]at hR;have hT3:oO knd h' its l:=hT'.at fun b o hbo hc=>by
   have hne:b≠S:=fun e=>by
    subst e;obtain⟨oS,es,ep,hoS,hcS,r⟩:=hS';rw[hoS]at hbo;injection hbo with hbo;rw[<-hbo,hcS.1]at hc;injection hc with hc;exact absurd hc 0x5
   exact sb.extBut _ _ hne hbo
  refine A0n ⟨plainId_quiet pC _,ih (i+1) _ _ _ _ 0x4 hlt (A0z (Fi ..) 0x4) (W.frame _ s' _ _ st' (Nat.le_add_right _ _) fun b hb o e=>?_) hD hT3 fun s2 hm2 hS2=>?_⟩
  ·rw[sb.2 b (fun h:b=S=>hSf (by rw[<-h];exact hb))];exact e
  ·refine hR s2 (Moved.trans W.gtrans ((hm.mono sub).then_heap (Nat.le_add_right _ _) fun b o hb e=>?_) hm2) hS2;rw[sb.2 b (fun h:b=S=>hb (by rw[h];exact A0o))];exact e
set_option maxRecDepth 100000 in
def J0{o:Addr}{l:List (KTs K)}(hu:A.units+3<cLine)(hh:A.handled=none)(hl:PlainL s.heap o its.toArray)(hi:oO knd s.heap its l)(hb:l.length<=1000)
  (h:∀(h':Heap)(tk:Nat),h'.DictOfH 0x6B s.heap.objs.size (l.foldl (fun a p=>storedH a p.1 p.2.1 p.2.2) [])->(∀b o,s.heap.get? b=some o->h'.get? b=some o)->Q 0x30 {s with heap:=h',toks:=tk}):
  wpAny 0x13 A (call (.type "dict") [.ref o]) Q E s:=by
 refine callType_codes (Q₁:=fun obj s₁=>obj=.ref s.heap.objs.size/\s₁={s with heap:=s.heap.push {cls:=.type "dict",data:=.dict #[]}}) PySem.F.kt_called_dict (PySem.F.kt_typeCall_dict_1 _) PySem.F.entry_dict_init (kt_code_dict_new _ ⟨rfl,rfl⟩) ?_;rintro obj s₁ ⟨rfl,rfl⟩;have hnew:(s.heap.push {cls:=.type "dict",data:=.dict #[]}).DictOfH 0x6B s.heap.objs.size []:=Heap.DictOfH.new s.heap;obtain⟨ol,nl,hol,hc,hd,hs⟩:=hl;have hol':(s.heap.push {cls:=.type "dict",data:=.dict #[]}).get? o=some ol:=A0c _ hol;have hT:Shared.TypeIs {s with heap:=s.heap.push {cls:=.type "dict",data:=.dict #[]}} (.ref o) "list":=⟨_,hol',hc⟩;refine⟨hnew.typeIs,PySem.F.args_dict_init_2 _ _,?_⟩;unfold Builtin.«dict.__init__»;refine A0a ?_;unfold Builtin.Dict.selfAndRest;refine A0a (wpAny_notOrdered_dict hnew.typeIs ?_)
 show wpAny _ _ (pure (s.heap.objs.size,[Value.ref o])) _ _ _
 refine A0n ?_
 show wpAny _ _ (Builtin.Dict.updateFrom "dict.__init__" s.heap.objs.size (.ref o) [] .none) _ _ _
 unfold Builtin.Dict.updateFrom;refine A0a (A4N hT ?_);rw[A0i 0x5];refine A0a (Ox hol' hc hs hd (by simp[hh]) fun h' tk e hx=>?_);rw[A0i (show(none:Option Value).isNone=true from rfl)]
 have a0c:h'.DictOfH 0x6B s.heap.objs.size []:=rB hnew (fun o e=>hx.keeps _ _ e) fun b o e _=>hx.keeps _ _ e;have hl1:h'.IsList o its.toArray:=⟨_,hx.keeps _ _ hol',hc,nl,hs⟩;refine A0a (A3P (A0a (A4r hl1 ?_)));have lS:o<s.heap.objs.size:=A0v hol;have sS:s.heap.objs.size<h'.objs.size:=by
  obtain⟨o,es,ep,ho,r⟩:=a0c;exact A0v ho
 have ne_:o≠h'.objs.size:=A0M (A3k lS sS);have h3:A.in1.in1.handled=none:=by simp[hh]
 have nS:s.heap.objs.size∉[h'.objs.size,o]:=by
  simp only[A0d,A0b,A0s,A1d,A4a];exact⟨A0M sS,A3i lS⟩
 have hz:its.length=l.length:=hi.1;refine A0n ⟨plainId_quiet pC _,?_⟩;refine Fj (knd:=knd) (l:=l) (show A.units+1+1<cLine by lia) ((Walks.list h3 _ o ne_ its.toArray).toS) s.heap.objs.size nS its (by simp[hz]) (fun i v hv=>by simpa using hv) (by simpa[hz]using hb) ?hwr _ 0 _ _ _ [] rfl (A1j _) 0x33 ⟨⟨_,A0x _ rfl,rfl,rfl⟩,(hl1.push _)⟩ (rB a0c (fun o e=>A0c _ e) fun b o e _=>A0c _ e) (hi.at fun b o hbo _=>A0c _ (hx.keeps _ _ (A0c _ hbo))) ?hR
 case hwr=>
  intro s' i st b hb;obtain⟨⟨o,ho,hc,_⟩,_⟩:=st;rw[A0b.mp hb];refine⟨o,ho,fun e=>?_⟩;rw[hc]at e;injection e with e;exact absurd e 0x5
 case hR=>
  intro s' hm hS';obtain⟨h2,g',d',tk',os'⟩:=s';have eg:g'=s.gens:=hm.gens;have ed:d'=s.drawn:=hm.drawn;have eo:os'=s.os:=hm.os;subst eg;subst ed;subst eo;refine⟨rfl,h h2 tk' hS' fun b o e=>?_⟩;have hlt:=A0v e;have b1:b≠s.heap.objs.size:=A0M hlt;have b2:b≠h'.objs.size:=A0M (A3k hlt sS);exact hm.heap b o (by simp only[A0d,A0b,A0s,A1d,A4a];exact⟨b1,b2⟩) (A0c _ (hx.keeps _ _ (A0c _ e)))
end
def iU(kvs more:List 0x38):List 0x38:=more.foldl (fun acc kv=>putK acc kv.1 kv.2) kvs
theorem pO:∀(more kvs:List 0x38),(iU kvs more).length<=kvs.length+more.length
 |[],kvs=>A0g _
 | kv::more,kvs=>by
  have h1:=pO more (putK kvs kv.1 kv.2);have h2:=cB kvs kv.1 kv.2
  show(iU (putK kvs kv.1 kv.2) more).length<=_
  rw[wO];lia
def KT.merge:∀{ps:List 0x38}{rs:List (KTs Key)}{kvs:List 0x38}{xs:List (KTs Key)},KT H ps rs->KT H kvs xs->KT H (iU kvs ps) (rs.foldl (fun a p=>storedH a p.1 p.2.1 p.2.2) xs):=by
 intro ps rs kvs xs h
 induction h generalizing kvs xs with
 |nil=>exact id
 | @cons p q ps qs hq t ih=>
  intro r;obtain⟨e1,e2,e3⟩:=hq;have:=KT.put r p.1 e2 e3;rw[A1c,<-e1];exact ih this
inductive Vk(K:W.Frag)(xs:List V)(H:Hp)(Q:VK):Prop
 |mk(p:Addr)(as:List Addr)(ps:List (Prod (List L2.Key) V))(_:xs=[.ref p])(_:bY K H p (as.map V.ref))(_:Paired (fun a q=>∃r,H a=some (.tup [.ref r,q.2])/\H r=some (.tup (q.1.map kV))) as ps)(_:ps.length<=1000)(_:∀l,H l=none->Q (.ref l) (upd H l (.dT (iU [] ps)))):Vk K xs H Q
def Oz{ps:List 0x38}(ok:m6 P w H h)(hP:Paired (fun a q=>∃r,H a=some (.tup [.ref r,q.2])/\H r=some (.tup (q.1.map kV))) as ps):∃rs,oO (bW P w) h (as.map Value.ref) rs/\KT H ps rs:=by
 induction hP with
 |nil=>exact⟨[],⟨rfl,fun i v hv=>by simp at hv⟩,.nil⟩
 | @cons a q as ps ha t ih=>
  obtain⟨rs,⟨i1,i2⟩,r⟩:=ih;obtain⟨b,ha,hb⟩:=ha;obtain⟨z,its,rv,⟨o,ho,hc,n,hd⟩⟩:=Rd.ok (.inl ha) ok;cases rv with
  | cons hk rv=>
   cases rv with
   | cons hv rv=>
    cases rv;cases hk;refine⟨(q.1,b,_)::rs,⟨by rw[A0h,wO,wO,i1],fun i v hv'=>?_⟩,.cons ⟨rfl,hb,hv⟩ r⟩;cases i with
    | zero=>
     rw[A0h,A3x]at hv';injection hv' with hv';exact⟨_,_,_,_,o,n,rfl,hv'.symm,ho,hc,hd,ou ok hb⟩
    | succ j=>
     rw[A0h,A2L]at hv';obtain⟨k,c,u,b,o',n',h1,h2⟩:=i2 j v hv';exact⟨k,c,u,b,o',n',by rw[A2L];exact h1,h2⟩
def Fl(hu:X.A.units+3<cLine)(hin:X.A.handled=none):gO X (.type "dict") (Vk X.K):=by
 intro pins s σ H xs us Q I r h;obtain⟨p,as,ps,rfl,hq,hP,hl,q⟩:=h;obtain⟨u,rfl,ru⟩:=vals1 r;cases ru;obtain⟨its,rv,pl,hz⟩:=I.list hq;have Ux:=um rv;subst Ux;obtain⟨rs,hT,rel⟩:=Oz I.hok hP;have low:(s.heap.objs.size==sysModules)=false:=by
  obtain⟨m,F⟩:=I.fr;have h1:sysModules<X.base.objs.size:=modules_low I.mod.nolimit;have h2:X.base.objs.size<=X.env.locals:=F.above;have h3:X.env.locals<s.heap.objs.size:=F.ns.lt;exact A1n.mpr (A3i (A3k (A0q h1 h2) h3))
 refine J0 (knd:=bW X.prog X.w) hu hin pl hT (by rw[<-A2Y rel];exact hl) fun h' tk hS hk=>?_;have hf:H s.heap.objs.size=none:=I.hok.fresh 0x33;have hm:=KT.merge rel (.nil:KT H ([]:List 0x38) []);have h0:(iU [] ps).length<=sizeLine:=by
  have:=pO ps [];exact A0z this (A0z (by simpa using hl) 0x7)
 obtain⟨o,es,ep,a1,a2,a3,a4,_,a5⟩:=hS;exact⟨.ref s.heap.objs.size,_,I.laid (o:=.dT (iU [] ps)) (t':=tk) hk 0x33 ⟨h0,low,_,hm.keeps (fun c ys ec=>by rw[ak (au ec hf)];exact ec),o,es,ep,a1,a2,a3,a4,a5⟩,rfl,q _ hf⟩
end L2
namespace M
open PySem L2 PyProof.Rows
abbrev a2d:Stmt:=top 58
def pD(h:Str)(l:List Str):inV (V.str h) (l.map V.str)=decide (h∈l):=by
 unfold inV
 induction l with
 |nil=>rfl
 | cons x r ih=>
  rw[A0h,A2k,ih]
  show((x==h)||decide (h∈r))=_
  rw[A1h,Bool.or_eq_true,A1l,A1l,A0d,A2P]
  constructor
  ·rintro(e|e)
   ·exact .inl e.symm
   ·exact .inr e
  ·rintro(e|e)
   ·exact .inl e.symm
   ·exact .inr e
def iC(l:List Str):(l.map V.str).all qy=true:=by
 rw[List.all_map];exact A1L.mpr fun x _=>rfl
def gQ{k:Str}{b:Bool}{A:Prop}(h:decide (k∈ls)=b)(g:if b=true then A else B):if(if(false:Bool)=true then !inV (V.str k) (ls.map V.str)else inV (V.str k) (ls.map V.str))=true then A else B:=by
 rw[A0f A0r,pD,h];exact g
def jU{k:Str}{b:Bool}{A:Prop}(h:decide (k=l)=b)(g:if b=true then A else B):if decide (V.str k=V.str l)=true then A else B:=by
 rw[gZ,h];exact g
def Bj{k:Str}{b:Bool}{A:Prop}(h:decide (k=l)=b)(g:if(!b)=true then A else B):if(!decide (V.str k=V.str l))=true then A else B:=by
 rw[gZ,h];exact g
def uy{h:Str}{l:List Str}{A:Prop}(h1:h∈l->A)(h2:h∉l->B):if(if(false:Bool)=true then !inV (V.str h) (l.map V.str)else inV (V.str h) (l.map V.str))=true then A else B:=by
 rw[A0f A0r,pD];exact iu (fun c=>h1 (qg c)) fun c=>h2 fun z=>c (A0k z)
abbrev Bx(q:Ad)(H:Hp)(W:Wo):Prop:=BxL H q.kvs q.he q.dd q.lg W.hs (PJ W.lg) W.gone
inductive Vl(vs:List V)(H:Hp)(Q:VK)(cH:XK):Prop
 |mk(q:Ad)(W:M.Wo)(r:Addr)(ro:M.Ro)(dy:Int)(_:vs=[.ref q.B,.ref r])(_:Ap q)(_:Bk q H W.es W.ks)(_:Bx q H W)(_:WF W.es)(_:W.es.length<64)(_:H r=some (.tup 0x7A))(_:∀(z:Str)(H':Hp),Same H H'->Wd2 W dy ro z->Q (.str z) H'):Vl vs H Q cH
def Vm(dy:Int)(ro:Ro):(∃(rr:Rw)(kd e n m:Str)(a:Int),ro=.land rr/\(Ro.vs dy (.land rr))[0]?=some (.str kd)/\(Ro.vs dy (.land rr))[2]?=some (.str e)/\(Ro.vs dy (.land rr))[3]?=some (.str n)/\(Ro.vs dy (.land rr))[4]?=some (.str m)/\(Ro.vs dy (.land rr))[5]?=some (.int a)/\rr.est=e/\rr.new=some n/\rr.man=some m/\rr.acr=a/\
  (∀{es:List aQ}{ks:List Str},∀y∈es,y.n=e->n∉ks->a<=y.own->dR es ks y rr)/\decide (kd∈(A5r:List Str))=true/\decide (kd∈(A5t:List Str))=true/\decide (kd="convey")=false/\decide (kd="surrender")=false/\decide (kd="liege")=false)\/(∃e m,ro=.land (.convey e m))\/(∃e,ro=.land (.gq e))\/∀rr,ro≠.land rr:=by
 cases ro with
 | land rr=>
  cases rr with
  |grant e n m a s=>exact .inl ⟨_,"grant",e,n,m,a,rfl,rfl,rfl,rfl,rfl,rfl,rfl,rfl,rfl,rfl,(fun y a b c d=>⟨a,b,c,d⟩),by decide+kernel,by decide+kernel,by decide+kernel,by decide+kernel,by decide+kernel⟩
  |part e n m a=>exact .inl ⟨_,"part",e,n,m,a,rfl,rfl,rfl,rfl,rfl,rfl,rfl,rfl,rfl,rfl,(fun y a b c d=>⟨a,b,c,d⟩),by decide+kernel,by decide+kernel,by decide+kernel,by decide+kernel,by decide+kernel⟩
  |convey e m=>exact .inr (.inl ⟨_,_,rfl⟩)
  |gq e=>exact .inr (.inr (.inl ⟨_,rfl⟩))
 |_=>exact .inr (.inr (.inr fun rr h=>by cases h))
def Fp:aP ["_law_book_here","_law_row_here","_law_kind","_law_man"] A5g (aJ a2d):=0x0
def a2e(F:fj K "_law_why" "_law_why" a2d f fd)(G1:aL P w K mg base bL 2 g1 d1 A5d Ky)(M1:Ms K mg "_law_bound_to" g1 d1 A5d):aL P w K mg base bL 3 f fd A5g Vl:=by
 refine F.ok Fp 0x1 0x3;obtain⟨q,W,r,ro,dy,rfl,ap,b0,x0,Wf,h64,hx,k⟩:=h;have nd:=Wf.nd;refine⟨_,(aq (aV (i:=2) Fp.nd rfl 0x8 0x1A)
  (aq (bK (PW.pt (lA (aU iz 0x3B (cu (aj aM (aj aM (aj aM (aj aM aC))))) 0x12) (ji (pQ (yu 0x17 0x1A 0x1B) 0x12)))) 0x84 aR)
  (aq (bK (PW.pt (lA (aU iz 0x3B (cu (aj aM (aj aM aC))) 0x12) (ji (aU iz 0x1A 0x1B 0x12)))) 0x84 aR)
  (aq (aV (i:=3) Fp.nd rfl 0x8 0x1A)
  (aq (bK (aU iz 0x3B (cu (aj aM (aj aM aC))) 0x12) (aG (aV (i:=3) Fp.nd rfl 0x8 0x1A)) aR)
  (aq (bK (aU fJ 0x3B aM 0x61) (aG (aV (i:=3) Fp.nd rfl 0x8 0x1A)) aR)
  (aq (bK (PW.pt (lA (aU nU 0x3B aM 0x61) (ji (aU iz 0x52 0x1B 0x12)))) 0x84 aR)
  (aq (bK (PW.pt (lA (aU iz 0x3B (cu (aj aM (aj aM aC))) 0x12) (ji (aU Qk 0x1A (bA 0x17 0x1B 0x1A 0x2) 0x61)))) 0x84 aR)
  (aq (bK (PW.pt (lA (aU fJ 0x3B aM 0x61) (ji (aU mH 0x1A (bG G1 hr rfl M1.m M1.k M1.b .nil bC (aj 0x32 0x90)) 0x12)))) 0x84 aR)
  (aG (aZ aM))))))))))),?_⟩
 rcases Vm dy ro with⟨rr,kd,e,n,m,a,rfl,h0,h2,h3,h4,h5,r1,r2,r3,r4,r5,e1,e2,e3,e4,e5⟩|⟨e,m,rfl⟩|⟨e,rfl⟩|hg
 ·have al:m∉W.gone->∀z,rr.man=some z->z∉W.gone:=fun h z e=>by rw[r3]at e;injection e with e;rw[<-e];exact h
  refine⟨_,rfl,r,_,_,_,rfl,rfl,bN.of hx,aH (j:=0) h0,?_⟩;refine⟨_,rfl,small 0xA,fun t1 ht1=>⟨t1,_,rfl,.inr 0x75,rfl,rfl,_,rfl,gQ (k:=kd) (ls:=A5r) e1 ?_⟩⟩
  apply 0o1 H t1 ht1 s1 hk0 H1
  have b1:=b0.same s1;have x1:=s1 _ _ hx;refine cW ?_;refine⟨_,rfl,r,_,_,_,rfl,rfl,bN.of x1,aH (j:=2) h2,_,rfl,q.B,_,rfl,b1.gl,q.l,_,rfl,dj.k (k:=.inr e) b1.l,_,rfl,?_⟩;rw[gU]
  by_cases he:e∈nms W.es
  rotate_left
  ·rw[A0p he];exact cW (k _ _ s1 (.inl ⟨by decide+kernel,.no (r1▸ he)⟩))
  rw[A0k he];refine cg ?_;obtain⟨y,hy,rfl⟩:=dF he;refine⟨_,rfl,small 0xA,fun t2 Vn=>⟨t2,_,rfl,.inr 0x75,rfl,rfl,_,rfl,gQ (k:=kd) (ls:=A5t) e2 ?_⟩⟩
  apply 0o1 H1 t2 Vn n2 hk0 H2
  have s2:=s1.trans n2;have b2:=b1.same n2;have x2:=n2 _ _ x1;refine cW ?_;refine⟨_,rfl,r,_,_,_,rfl,rfl,bN.of x2,aH (j:=3) h3,_,rfl,q.B,_,rfl,b2.gk,q.kn,_,rfl,.inl (bY.of b2.k),rfl,iC _,_,rfl,uy (fun hk=>?_) (fun hn=>?_)⟩
  ·exact k _ _ s2 (.inl ⟨by decide+kernel,.tk r2 (r1▸ he) hk⟩)
  refine⟨_,rfl,r,_,_,_,rfl,rfl,bN.of x2,aH (j:=2) h2,?_⟩;refine⟨_,rfl,small 0xA,fun t3 YH=>⟨t3,_,rfl,.inr 0x75,rfl,rfl,_,rfl,gQ (k:=kd) (ls:=A5t) e2 ?_⟩⟩
  apply 0o1 H2 t3 YH n3 hk0 H3
  have s3:=s2.trans n3;have b3:=b2.same n3;have x3:=n3 _ _ x2;refine cW ?_;refine⟨_,rfl,r,_,_,_,rfl,rfl,bN.of x3,aH (j:=4) h4,?_⟩;refine⟨_,rfl,rfl,_,rfl,jU e3 (cg ?_)⟩;refine⟨_,rfl,rfl,_,rfl,Bj e4 ?_⟩;refine cW ⟨_,rfl,_,rfl,q.B,_,rfl,b3.gx,q.dd,_,rfl,.inl (bY.of (x0.same s3).x),rfl,iC _,_,rfl,uy (fun hd=>?_) (fun hd=>?_)⟩
  ·exact k _ _ s3 (.inl ⟨by decide+kernel,.de r3 (r1▸ he) (fun z e=>by rw[r2]at e;injection e with e;rw[<-e];exact hn) hd⟩)
  refine⟨_,rfl,small 0xA,fun t4 Vo=>⟨t4,_,rfl,.inr 0x75,rfl,rfl,_,rfl,gQ (k:=kd) (ls:=A5t) e2 ?_⟩⟩
  apply 0o1 H3 t4 Vo n4 hk0 H4
  have s4:=s3.trans n4;have b4:=b3.same n4;have x4:=n4 _ _ x3;refine cW ?_;refine⟨_,rfl,r,_,_,_,rfl,rfl,bN.of x4,aH (j:=5) h5,_,rfl,q.B,_,rfl,b4.go,_,rfl,r,_,_,_,rfl,rfl,bN.of x4,aH (j:=2) h2,q.o,_,rfl,ZQ b4.o nd hy,_,_,rfl,rfl,_,rfl,?_⟩;refine iu (fun hgt=>?_) (fun hle=>?_)
  ·exact k _ _ s4 (.inl ⟨by decide+kernel,.ac r2 hy r1.symm hn (al hd) (by have h:=hgt;simp only[A1Y]at h;rw[r4];exact h)⟩)
  refine⟨_,rfl,rfl,_,rfl,jU e5 (cg (cg ?_))⟩;exact k _ _ s4 (.inr ⟨rfl,y,r5 y hy rfl hn (by have h:=hle;simp only[A1Y]at h;lia),al hd⟩)
 ·refine⟨_,rfl,r,_,_,_,rfl,rfl,bN.of hx,aH (j:=0) rfl,?_⟩;refine⟨_,rfl,small 0xA,fun t1 ht1=>⟨t1,_,rfl,.inr 0x75,rfl,rfl,_,rfl,gQ (k:="convey") (ls:=A5r) (b:=true) 0x7 (cW ?_)⟩⟩
  apply 0o1 H t1 ht1 s1 hk0 H1
  refine⟨_,rfl,r,_,_,_,rfl,rfl,bN.of (s1 _ _ hx),aH (j:=2) rfl,_,rfl,q.B,_,rfl,(b0.same s1).gl,q.l,_,rfl,dj.k (k:=.inr e) (b0.same s1).l,_,rfl,?_⟩;rw[gU]
  by_cases he:e∈nms W.es
  rotate_left
  ·rw[A0p he];exact cW (k _ _ s1 (.inl ⟨by decide+kernel,.no he⟩))
  rw[A0k he];refine cg ?_;refine⟨_,rfl,small 0xA,fun t2 Vn=>⟨t2,_,rfl,.inr 0x75,rfl,rfl,_,rfl,gQ (k:="convey") (ls:=A5t) (b:=false) 0x7 (cg (cg ?_))⟩⟩;have s2:=s1.trans (aK Vn 0x14);generalize upd H1 t2 0x14=H2 at s2 ⊢;refine⟨_,rfl,r,_,_,_,rfl,rfl,bN.of (s2 _ _ hx),aH (j:=2) rfl,?_⟩;refine⟨_,rfl,small 0xA,fun t3 YH=>⟨t3,_,rfl,.inr 0x75,rfl,rfl,_,rfl,gQ (k:="convey") (ls:=A5t) (b:=false) 0x7 (cg ?_)⟩⟩;have s3:=s2.trans (aK YH 0x14);generalize upd H2 t3 0x14=H3 at s3 ⊢;refine⟨_,rfl,rfl,_,rfl,jU (b:=true) 0x7 (cW ?_)⟩;refine⟨_,rfl,r,_,_,_,rfl,rfl,bN.of (s3 _ _ hx),aH (j:=3) rfl,?_⟩;refine⟨_,rfl,rfl,_,rfl,Bj (b:=false) 0x7 ?_⟩;refine cW ⟨_,rfl,_,rfl,q.B,_,rfl,(b0.same s3).gx,q.dd,_,rfl,.inl (bY.of (x0.same s3).x),rfl,iC _,_,rfl,uy (fun hd=>?_) (fun hd=>?_)⟩
  ·exact k _ _ s3 (.inl ⟨by decide+kernel,.de rfl he (fun z e=>nomatch e) hd⟩)
  refine⟨_,rfl,small 0xA,fun t4 Vo=>⟨t4,_,rfl,.inr 0x75,rfl,rfl,_,rfl,gQ (k:="convey") (ls:=A5t) (b:=false) 0x7 (cg (cg ?_))⟩⟩;have s4:=s3.trans (aK Vo 0x14);generalize upd H3 t4 0x14=H4 at s4 ⊢;refine⟨_,rfl,rfl,_,rfl,jU (b:=false) 0x7 (cg (cg ?_))⟩;obtain⟨y,hy,wX⟩:=dF he;exact k _ _ s4 (.inr ⟨rfl,y,⟨hy,wX⟩,fun z e=>by injection e with e;rw[<-e];exact hd⟩)
 ·refine⟨_,rfl,r,_,_,_,rfl,rfl,bN.of hx,aH (j:=0) rfl,?_⟩;refine⟨_,rfl,small 0xA,fun t1 ht1=>⟨t1,_,rfl,.inr 0x75,rfl,rfl,_,rfl,gQ (k:="surrender") (ls:=A5r) (b:=true) 0x7 (cW ?_)⟩⟩
  apply 0o1 H t1 ht1 s1 hk0 H1
  refine⟨_,rfl,r,_,_,_,rfl,rfl,bN.of (s1 _ _ hx),aH (j:=2) rfl,_,rfl,q.B,_,rfl,(b0.same s1).gl,q.l,_,rfl,dj.k (k:=.inr e) (b0.same s1).l,_,rfl,?_⟩;rw[gU]
  by_cases he:e∈nms W.es
  rotate_left
  ·rw[A0p he];exact cW (k _ _ s1 (.inl ⟨by decide+kernel,.no he⟩))
  rw[A0k he];refine cg ?_;refine⟨_,rfl,small 0xA,fun t2 Vn=>⟨t2,_,rfl,.inr 0x75,rfl,rfl,_,rfl,gQ (k:="surrender") (ls:=A5t) (b:=false) 0x7 (cg (cg ?_))⟩⟩;have s2:=s1.trans (aK Vn 0x14);generalize upd H1 t2 0x14=H2 at s2 ⊢;refine⟨_,rfl,r,_,_,_,rfl,rfl,bN.of (s2 _ _ hx),aH (j:=2) rfl,?_⟩;refine⟨_,rfl,small 0xA,fun t3 YH=>⟨t3,_,rfl,.inr 0x75,rfl,rfl,_,rfl,gQ (k:="surrender") (ls:=A5t) (b:=false) 0x7 (cg ?_)⟩⟩;have s3:=s2.trans (aK YH 0x14);generalize upd H2 t3 0x14=H3 at s3 ⊢;refine⟨_,rfl,rfl,_,rfl,jU (b:=false) 0x7 (cg ?_)⟩;refine⟨_,rfl,rfl,_,rfl,Bj (b:=true) 0x7 (cg (cg ?_))⟩;refine⟨_,rfl,small 0xA,fun t4 Vo=>⟨t4,_,rfl,.inr 0x75,rfl,rfl,_,rfl,gQ (k:="surrender") (ls:=A5t) (b:=false) 0x7 (cg (cg ?_))⟩⟩;have s4:=s3.trans (aK Vo 0x14);generalize upd H3 t4 0x14=H4 at s4 ⊢;refine⟨_,rfl,rfl,_,rfl,jU (b:=false) 0x7 (cg (cg ?_))⟩;obtain⟨y,hy,wX⟩:=dF he;exact k _ _ s4 (.inr ⟨rfl,y,⟨hy,wX⟩,fun z e=>nomatch e⟩)
 ·obtain⟨kd,z,h0,h2,e1,e2,e3,e4,hv,hs⟩:∃kd z:Str,(Ro.vs dy ro)[0]?=some (.str kd)/\(Ro.vs dy ro)[2]?=some (.str z)/\decide (kd∈(A5r:List Str))=false/\decide (kd∈(A5t:List Str))=false/\decide (kd="convey")=false/\decide (kd="surrender")=false/\(z∈W.gone->Jo W dy ro "dead" W)/\(z∉W.gone->(decide (kd="liege")=false/\St W ro)\/∃l,kd="liege"/\ro=.liege z l):=by
   cases ro with
   |land rr=>exact absurd rfl (hg rr)
   |heir a b=>exact⟨"heir",a,rfl,rfl,by decide+kernel,by decide+kernel,by decide+kernel,by decide+kernel,.hd,fun h=>.inl ⟨by decide+kernel,h⟩⟩
   |liege a b=>exact⟨"liege",a,rfl,rfl,by decide+kernel,by decide+kernel,by decide+kernel,by decide+kernel,.ld,fun h=>.inr ⟨b,rfl,rfl⟩⟩
   |death a=>exact⟨"death",a,rfl,rfl,by decide+kernel,by decide+kernel,by decide+kernel,by decide+kernel,.dx,fun h=>.inl ⟨by decide+kernel,h⟩⟩
  refine⟨_,rfl,r,_,_,_,rfl,rfl,bN.of hx,aH (j:=0) h0,?_⟩;refine⟨_,rfl,small 0xA,fun t1 ht1=>⟨t1,_,rfl,.inr 0x75,rfl,rfl,_,rfl,gQ (k:=kd) (ls:=A5r) e1 (cg (cg ?_))⟩⟩
  apply 0o1 H t1 ht1 s1 hk0 H1
  refine⟨_,rfl,small 0xA,fun t2 Vn=>⟨t2,_,rfl,.inr 0x75,rfl,rfl,_,rfl,gQ (k:=kd) (ls:=A5t) e2 (cg (cg ?_))⟩⟩;have s2:=s1.trans (aK Vn 0x14);generalize upd H1 t2 0x14=H2 at s2 ⊢;refine⟨_,rfl,r,_,_,_,rfl,rfl,bN.of (s2 _ _ hx),aH (j:=2) h2,?_⟩;refine⟨_,rfl,small 0xA,fun t3 YH=>⟨t3,_,rfl,.inr 0x75,rfl,rfl,_,rfl,gQ (k:=kd) (ls:=A5t) e2 (cg ?_)⟩⟩;have s3:=s2.trans (aK YH 0x14);generalize upd H2 t3 0x14=H3 at s3 ⊢;refine⟨_,rfl,rfl,_,rfl,jU e3 (cg ?_)⟩;refine⟨_,rfl,rfl,_,rfl,Bj e4 ?_⟩;refine cW ⟨_,rfl,_,rfl,q.B,_,rfl,(b0.same s3).gx,q.dd,_,rfl,.inl (bY.of (x0.same s3).x),rfl,iC _,_,rfl,uy (fun hd=>?_) (fun hd=>?_)⟩
  ·exact k _ _ s3 (.inl ⟨by decide+kernel,hv hd⟩)
  refine⟨_,rfl,small 0xA,fun t4 Vo=>⟨t4,_,rfl,.inr 0x75,rfl,rfl,_,rfl,gQ (k:=kd) (ls:=A5t) e2 (cg (cg ?_))⟩⟩;have s4:=s3.trans (aK Vo 0x14);generalize upd H3 t4 0x14=H4 at s4 ⊢;rcases hs hd with⟨e5,hs⟩|⟨l,e5,rfl⟩
  ·refine⟨_,rfl,rfl,_,rfl,jU e5 (cg (cg ?_))⟩;exact k _ _ s4 (.inr ⟨rfl,hs⟩)
  ·refine⟨_,rfl,rfl,_,rfl,jU (b:=true) (A0k e5) (cW ?_)⟩;refine⟨_,rfl,r,_,_,_,rfl,rfl,bN.of (s4 _ _ hx),aH (j:=3) rfl,_,rfl,_,rfl,q,W.es,W.ks,z,rfl,ap,b0.same s4,Wf,h64,fun R ss H5 s5 hR0 hR hl hm=>⟨R,_,rfl,.inl (bY.of hR),rfl,iC _,_,rfl,?_⟩⟩;rw[A0i rfl,pD]
   by_cases c:l∈ss
   ·rw[A0k c];exact cg (k _ _ (s4.trans s5) (.inr ⟨rfl,hd,(hm l).mp c⟩))
   ·rw[A0p c];exact cW (k _ _ (s4.trans s5) (.inl ⟨by decide+kernel,.lb hd fun b=>c ((hm l).mpr b)⟩))
abbrev Bl:Stmt:=top 60
structure wF(H:Hp)(B h d:Addr)(kvs hs:List 0x2B)(bd:List Str):Prop where
 o:H B=some 0x16
 vh:bJ kvs (.inr "heirs")=some (.ref h)
 vd:bJ kvs (.inr "dead")=some (.ref d)
 h:H h=some (.dK hs)
 d:H d=some (.lst (bd.map V.str))
 len:kvs.length<=20
def wF.same{B h d:Addr}{bd:List Str}(k:wF H B h d kvs hs bd)(s:Same H H'):wF H' B h d kvs hs bd:=⟨s _ _ k.o,k.vh,k.vd,s _ _ k.h,s _ _ k.d,k.len⟩
inductive a2f(K:W.Frag)(vs:List V)(H:Hp)(Q:VK)(cH:XK):Prop
 |mk(B h d:Addr)(kvs hs:List 0x21)(bd:List Str)(hv:Str->Option Str)(gv:Str->Bool)(man:Str)(_:vs=[.ref B,.str man])(_:wF H B h d kvs hs bd)(_:HV hs hv)(_:(∀m,decide (m∈bd)=gv m))(_:hs.length<=900)(_:∀r H',Same H H'->Tk hv gv [man] (hv man) r->Q (rP r) H'):a2f K vs H Q cH
def a2g:aP ["_law_book_here","_law_man","_law_met","_law_one"] A5d (aJ Bl):=0x0
def a3I(F:fj K "_law_taker" "_law_taker" Bl f fd):aL P w K mg base bL 1 f fd A5d (a2f K):=by
 refine F.ok a2g 0x1 0x3;obtain⟨B,hA,d,kvs,hs,bd,hv,gv,man,rfl,bk,hH,hG,hl,k⟩:=h;refine⟨_,aq (aV (i:=2) a2g.nd rfl 0x8 (cL 0x2C))
  (aq (lH A0Q (pQ (uY 0x17 (aN bD 0x3B (uL pR aA) 0x2) 0x1B) 0x12)
   (aq (aV (i:=3) a2g.nd rfl 0x8 (bA 0x17 0x1B (aN bD 0x3B (uL pR aA) 0x2) 0x2))
   (aq (bK (aU iz 0x52 0x3B 0x12) (aG (aZ m7)) aR)
   (aq (bK (aU mH 0x52 0x1B 0x12) (aG (aZ 0x52)) aR)
   (aG (bM (j8 A0K A0R A0S dw 0x3B 0x90)))))))
  (aG (aZ m7))),?_⟩
 refine⟨_,rfl,small 0xA,fun t ht=>?_⟩;have s1:=aK ht (.lst [V.str man]);refine⟨fun m σ Hx=>∃(l0:List Str)(y:Str)(u3:Option V),m=hs.length+1-l0.length/\σ=[some (.ref B),some (.str man),some 0x58,u3]/\Same H Hx/\Hx t=some (.lst ((l0++[y]).map V.str))/\(l0++[y]).Nodup/\(∀z∈l0,(hv z).isSome=true)/\
   ∀r,Tk hv gv (l0++[y]) (hv y) r->Tk hv gv [man] (hv man) r,⟨_,[],man,none,rfl,rfl,s1,ao,by simp,(fun z hz=>nomatch hz),fun r h=>h⟩,?_⟩
 rintro m σ Hx ⟨l0,y,u3,rfl,rfl,sx,tx,nd,ha,hk⟩;have bx:=bk.same sx;have gh:dj Hx B (V.str "heirs") (some (.ref hA)):=by
  have:=dj.k (k:=.inr "heirs") bx.o;rw[bx.vh]at this;exact this
 have gd:dj Hx B (V.str "dead") (some (.ref d)):=by
  have:=dj.k (k:=.inr "dead") bx.o;rw[bx.vd]at this;exact this
 refine⟨_,rfl,_,rfl,t,_,_,_,rfl,rfl,bY.of tx,Kz l0 y,_,rfl,B,_,rfl,gh,hA,_,rfl,dj.k (k:=.inr y) bx.h,_,rfl,?_⟩;have eq:bJ hs (.inr y)=(hv y).map V.str:=hH y;cases hy:hv y with
 | none=>
  rw[hy]at eq;rw[eq];refine cg ?_;exact k none Hx sx (hk none (by rw[hy];exact .none))
 | some h=>
  rw [hy]at eq;rw[eq];have gy:dj Hx hA (V.str y) (some (V.str h)):=by
   have:=dj.k (k:=.inr y) bx.h;rw[eq]at this;exact this
  refine cW ⟨fun σ' H'=>∃(FP:List Str)(y':Str)(u3:Option V),hs.length+1-FP.length<hs.length+1-l0.length/\σ'=[some (.ref B),some (.str man),some 0x58,u3]/\Same H H'/\H' t=some (.lst ((FP++[y']).map V.str))/\(FP++[y']).Nodup/\(∀z∈FP,(hv z).isSome=true)/\
    ∀r,Tk hv gv (FP++[y']) (hv y') r->Tk hv gv [man] (hv man) r,fun σ' H' ⟨FP,y',u3,q1,q⟩=>⟨_,q1,FP,y',u3,rfl,q⟩,?_⟩
  refine⟨_,rfl,B,_,rfl,gh,_,rfl,_,rfl,t,_,_,_,rfl,rfl,bY.of tx,Kz l0 y,hA,_,rfl,gy,?_⟩;refine⟨_,rfl,_,rfl,t,_,rfl,.inl (bY.of tx),rfl,iC _,_,rfl,?_⟩
  show if inV (V.str h) ((l0++[y]).map V.str)=true then _ else _
  rw[pD];refine iu (fun hm=>?_) (fun hm=>?_)
  ·exact k none Hx sx (hk none (by rw[hy];exact .met (qg hm)))
  ·have hm':¬h∈l0++[y]:=fun e=>hm (A0k e);refine⟨_,rfl,_,rfl,B,_,rfl,gd,d,_,rfl,.inl (bY.of bx.d),rfl,iC _,_,rfl,?_⟩
   show if(!inV (V.str h) (bd.map V.str))=true then _ else _
   rw [pD,hG];have all1:∀z∈l0++[y],(hv z).isSome=true:=fun z hz=>by
    rcases A0l.mp hz with q|q
    ·exact ha z q
    ·rw[A0b.mp q,hy];rfl
   have hfew:=few hH nd all1;rw[iD,A0t]at hfew;cases hg:gv h with
   | false=>
    refine cW ⟨_,rfl,?_⟩;exact k (some h) Hx sx (hk (some h) (by rw[hy];exact .alive hm' hg))
   | true=>
    refine cg ?_;refine⟨_,rfl,.inl ⟨rfl,_,bY.of tx⟩,_,rfl,t,_,_,rfl,rfl,tx,(by rw[cM,iD,A0t];exact bO 0x4),?_⟩;refine⟨l0++[y],h,_,by rw[iD,A0t];lia,rfl,bU sx ht,?_,vL nd hm',all1,fun r q=>hk r (by rw[hy];exact .step hm' hg q)⟩;rw[ao,j9 (l₂:=[h])];rfl
abbrev sDo:Stmt:=top 62
def cJ{k:Str}{A:Prop}(h:decide (k=l)=false)(g:B):if decide (V.str k=V.str l)=true then A else B:=jU h (cg g)
def wG{k:Str}{A:Prop}(h:decide (k=l)=true)(g:A):if decide (V.str k=V.str l)=true then A else B:=jU h (cW g)
def iV(q:Ad):List Addr:=[q.l,q.h,q.o,q.d,q.kn,q.he,q.dd,q.lg]
def ju(q:Ad)(H H':Hp):Prop:=∀c u,c∉iV q->H c=some u->H' c=some u
def ju.trans{q:Ad}(a:ju q H H1)(b:ju q H1 H2):ju q H H2:=fun c u h e=>b c u h (a c u h e)
def ju.same{q:Ad}(s:Same H H'):ju q H H':=fun c u _ e=>s c u e
def ju.put{q:Ad}(h:a∈iV q):ju q H (upd H a o):=fun c u hc e=>by rw[ak fun z=>hc (by rw[z];exact h)];exact e
def dX.x{q:Ad}(o:dX q H H'):ju q H H':=fun c u h e=>by
 simp only[iV,A0d,A0s,A1d,A4a]at h;exact o c u h.1 h.2.1 h.2.2.1 h.2.2.2.1 h.2.2.2.2.1 e
def tM{q:Ad}{W:Wo}{es:List aQ}(b:Bk q H es ks)(x:Bx q H W)(o:ju q H H')(h:H c=some (.tup ys)):H' c=some (.tup ys):=by
 refine o c _ ?_ h;simp only[iV,A0d,A0s,A1d,A4a];exact⟨aO h b.l 0x6,aO h b.h 0x6,aO h b.o 0x6,aO h b.d 0x6,aO h b.k 0x6,aO h x.h 0x6,aO h x.x 0x6,aO h x.g 0x6⟩
def wH{q:Ad}{W:Wo}(ap:Ap q)(x:Bx q H W)(o:dX q H H'):Bx q H' W:=by
 have g:=fun{c:Addr}{u:HO}(j:Nat)(hj:[q.a1,q.a2,q.a3,q.a4,q.a5,q.B,q.l,q.h,q.o,q.d,q.kn,q.dd,q.he,q.lg][j]?=some c)(h:10<j)(e:H c=some u)=>o c u (bQ ap j 6 hj rfl 0x4) (bQ ap j 7 hj rfl 0x4) (bQ ap j 8 hj rfl 0x4) (bQ ap j 9 hj rfl 0x4) (bQ ap j 10 hj rfl 0x4) e;exact⟨x.vh,x.vg,g 12 rfl 0x5 x.h,g 13 rfl 0x5 x.g,g 11 rfl 0x5 x.x⟩
def J3{q:Ad}{es:List aQ}(ap:Ap q)(b:Bk q H es ks)(j:Nat)(hj:[q.a1,q.a2,q.a3,q.a4,q.a5,q.B,q.l,q.h,q.o,q.d,q.kn,q.dd,q.he,q.lg][j]?=some c)(h:10<j):Bk q (upd H c o) es ks:=by
 have g:=fun{a:Addr}{u:HO}(i:Nat)(hi:[q.a1,q.a2,q.a3,q.a4,q.a5,q.B,q.l,q.h,q.o,q.d,q.kn,q.dd,q.he,q.lg][i]?=some a)(hl:i<=10)(e:H a=some u)=>(show(upd H c o) a=some u by rw[ak (bQ ap i j hi hj 0x4)];exact e)
 exact⟨g 5 rfl 0x5 b.b,b.vl,b.vh,b.vo,b.vd,b.vk,b.vx,g 6 rfl 0x5 b.l,g 7 rfl 0x5 b.h,g 8 rfl 0x5 b.o,g 9 rfl 0x5 b.d,g 10 rfl 0x5 b.k,b.len⟩
def Lz{q:Ad}{es:List aQ}{y:aQ}{m:Str}(ap:Ap q)(b:Bk q H es ks)(W:WF es)(hy:y∈es):Bk q (upd H q.h (.dK (putK (hoL es) 0x50 (.str m)))) 0x20 ks:=by
 have b1:=fZ.uh (l':=putK (hoL es) 0x50 (.str m)) ap b;have e2:hoL 0x20=putK (hoL es) 0x50 (.str m):=jF (g:=nG m) 0xD W.nd hy;have e1:kO 0x20=kO es:=eY (g:=nG m) 0xD 0xD es;have e3:lV 0x20=lV es:=eY (g:=nG m) 0xD 0xD es;have e4:qO 0x20=qO es:=eY (g:=nG m) 0xD 0xD es
 show BQ q _ (kO 0x20) (hoL 0x20) (lV 0x20) (qO 0x20) ks
 rw[e1,e2,e3,e4];exact b1
inductive a2h(K:W.Frag)(vs:List V)(H:Hp)(Q:VK)(cH:XK):Prop
 |mk(q:Ad)(W:M.Wo)(ls:List Str)(j:Nat)(r:Addr)(ro:M.Ro)(dy wd:Int)(_:vs=[.ref q.B,.ref r])(_:Ap q)(_:Bk q H W.es W.ks)(_:Bx q H W)(_:Wp W ls j wd)(_:(∀e∈W.es,je H e.tb e.due.1 e.due.2))(_:St W ro)(_:Ro.Ok ls ro)(_:0x62)(_:j<=17)(_:H r=some (.tup 0x7A))(_:∀W' H',Jo W dy ro "stands" W'->Bk q H' W'.es W'.ks->Bx q H' W'->(∀e∈W'.es,je H' e.tb e.due.1 e.due.2)->ju q H H'->Q .non H'):a2h K vs H Q cH
def Vp{q:Ad}{es:List aQ}{y:aQ}{n m:Str}{a s:Int}{t:Addr}(W:WF es)(hy:y∈es)(hnn:n∉nms es)(b':BQ q H' (putK (kO es) 0x15 (.str y.n)) (putK (hoL es) 0x15 (.str m)) (putK (putK (lV es) 0x15 (.int a)) 0x50 (.int (y.own-a))) (putK (qO es) 0x15 0x58) (ks++[n])):Bk q H' (stp y es 0 0 t 0 0x51) (ks++[n]):=by
 have wX:y.n∈nms es:=A0e.mpr ⟨y,hy,rfl⟩;rw[vK wX hnn]at b';have e1:kO (stp y es 0 0 t 0 0x51)=putK (kO es) 0x15 (.str y.n):=by
  show kv _ (mod y.n (pH a) es++[tH y.n n m a s 0 t])=_
  rw[cX (g:=pH a) (x:=tH y.n n m a s 0 t) 0xD hnn,eY (g:=pH a) 0xD 0xD];rfl
 have e2:hoL (stp y es 0 0 t 0 0x51)=putK (hoL es) 0x15 (.str m):=by
  show kv _ (mod y.n (pH a) es++[tH y.n n m a s 0 t])=_
  rw[cX (g:=pH a) (x:=tH y.n n m a s 0 t) 0xD hnn,eY (g:=pH a) 0xD 0xD];rfl
 have e3:lV (stp y es 0 0 t 0 0x51)=putK (putK (lV es) 0x50 (.int (y.own-a))) 0x15 (.int a):=by
  show kv _ (mod y.n (pH a) es++[tH y.n n m a s 0 t])=_
  rw[cX (g:=pH a) (x:=tH y.n n m a s 0 t) 0xD hnn,jF (g:=pH a) 0xD W.nd hy];rfl
 have e4:qO (stp y es 0 0 t 0 0x51)=putK (qO es) 0x15 0x58:=by
  show kv _ (mod y.n (pH a) es++[tH y.n n m a s 0 t])=_
  rw[cX (g:=pH a) (x:=tH y.n n m a s 0 t) 0xD hnn,eY (g:=pH a) 0xD 0xD];rfl
 show BQ q H' _ _ _ _ (ks++[n])
 rw[e1,e2,e3,e4];exact b'
def YJ{q:Ad}{es:List aQ}{y:aQ}{n m:Str}{a:Int}{t u:Addr}(W:WF es)(hy:y∈es)(hnn:n∉nms es)(hp:y.lord=some p)(b6:BQ q H' (putK (kO es) 0x15 (.str p)) (putK (hoL es) 0x15 (.str m)) (putK (putK (lV es) 0x15 (.int a)) 0x50 (.int (y.own-a))) (putK (putK (qO es) 0x15 0x58) 0x50 (.ref u)) (ks++[n])):Bk q H' (stp y es 0 0 t u 0x69) (ks++[n]):=by
 have wX:y.n∈nms es:=A0e.mpr ⟨y,hy,rfl⟩;rw[vK wX hnn,vK wX hnn]at b6;have e1:kO (stp y es 0 0 t u 0x69)=putK (kO es) 0x15 (.str p):=by
  show kv _ (mod y.n (pI a 0 u) es++[tK y n m a 0 t])=_
  rw[cX (g:=pI a 0 u) (x:=tK y n m a 0 t) 0xD hnn,eY (g:=pI a 0 u) 0xD 0xD]
  show putK _ _ (lU y.lord)=_
  rw[hp];rfl
 have e2:hoL (stp y es 0 0 t u 0x69)=putK (hoL es) 0x15 (.str m):=by
  show kv _ (mod y.n (pI a 0 u) es++[tK y n m a 0 t])=_
  rw[cX (g:=pI a 0 u) (x:=tK y n m a 0 t) 0xD hnn,eY (g:=pI a 0 u) 0xD 0xD];rfl
 have e3:lV (stp y es 0 0 t u 0x69)=putK (putK (lV es) 0x50 (.int (y.own-a))) 0x15 (.int a):=by
  show kv _ (mod y.n (pI a 0 u) es++[tK y n m a 0 t])=_
  rw[cX (g:=pI a 0 u) (x:=tK y n m a 0 t) 0xD hnn,jF (g:=pI a 0 u) 0xD W.nd hy];rfl
 have e4:qO (stp y es 0 0 t u 0x69)=putK (putK (qO es) 0x50 (.ref u)) 0x15 0x58:=by
  show kv _ (mod y.n (pI a 0 u) es++[tK y n m a 0 t])=_
  rw[cX (g:=pI a 0 u) (x:=tK y n m a 0 t) 0xD hnn,jF (g:=pI a 0 u) 0xD W.nd hy];rfl
 show BQ q H' _ _ _ _ (ks++[n])
 rw[e1,e2,e3,e4];exact b6
def Vq:aP ["_law_book_here","_law_row_here","_law_whole","_law_wide","_law_taker_here","_law_estate"] A5g (aJ sDo):=0x0
def a3J(F:fj K "_law_do" "_law_do" sDo f fd){g6:Addr}{d6:FuncData}
  (G1:aL P w K mg base bL 1 g1 d1 A5k TJ)(M1:Ms K mg "_law_new" g1 d1 A5k)
  (G2:aL P w K mg base bL 1 g2 d2 A5d (a2f K))(M2:Ms K mg "_law_taker" g2 d2 A5d)
  (G3:aL P w K mg base bL 1 g3 d3 A5d Kw)(M3:Ms K mg "_law_held" g3 d3 A5d)
  (G4:aL P w K mg base bL 2 g4 d4 A5e a1r)(M4:Ms K mg "_law_fall" g4 d4 A5e)
  (G5:aL P w K mg base bL 2 g5 d5 A5e a1o)(M5:Ms K mg "_law_breadth" g5 d5 A5e)
  (G6:aL P w K mg base bL 1 g6 d6 ["_law_top","_law_bottom"] yx)(M6:Ms K mg "_law_low" g6 d6 ["_law_top","_law_bottom"]):
  aL P w K mg base bL 3 f fd A5g (a2h K):=by
 refine F.ok Vq 0x1 0x3;obtain⟨q,W,ls,j,r,ro,dy,wd,rfl,ap,bk,bx,WP,fr,hst,hok,hls,hj,hx,k⟩:=h;have G1:=aL.mono (k:=2) G1 0x4;have G2:=aL.mono (k:=2) G2 0x4;have G3:=aL.mono (k:=2) G3 0x4;have G6:=aL.mono (k:=2) G6 0x4;refine⟨_,(aq (bK (aU fJ 0x1A aM 0x61) (aG (bM (bG G1 hr rfl M1.m M1.k M1.b .nil bC (aj 0x32 (aj 0xF (aj 0x1A (aj (cu (aj 0x1A (aj aA aC))) aC))))))) aR)
  (aq (bK (aU fJ 0x1A aM 0x61) (aq (aV (i:=2) Vq.nd rfl 0x8 (bA 0x17 0x1B 0x1A 0x2))
  (aq (aV (i:=3) Vq.nd rfl 0x8 (bG G5 hr rfl M5.m M5.k M5.b .nil bC (aj 0x32 0x82)))
  (aq (bM (bG G1 hr rfl M1.m M1.k M1.b .nil bC (aj 0x32 (aj 0xF (aj (bA 0x17 0x1B 0x1A 0x2) (aj (bG G6 hr rfl M6.m M6.k M6.b .nil bC (aj (aX jD (aN aY 0x3B aA 0x2) 0x1A) (aj (aX jD (aN aY 0x3B aA 0x2) 0x52) aC))) aC))))))
  (aG (cQ 0x17 0x1B 0x1A (bG G6 hr rfl M6.m M6.k M6.b .nil bC (aj (aX jD (aN aY 0x3B aA 0x2) (aX nR 0x52 0x1A)) (aj (aX jD (aN aY 0x3B aA 0x2) 0x52) aC))) rfl))))) aR)
  (aq (bK (aU fJ 0x1A aM 0x61) (aG (cQ 0x17 0x1B 0x1A 0x1A rfl)) aR)
  (aq (bK (aU fJ 0x1A aM 0x61) (aG (bM (bG G4 hr rfl M4.m M4.k M4.b .nil bC (aj 0x32 0x82)))) aR)
  (aq (bK (aU fJ 0x1A aM 0x61) (aG (cQ 0x17 0x1B 0x1A 0x1A rfl)) aR)
  (aq (bK (aU fJ 0x1A aM 0x61) (aG (cQ 0x17 0x1B 0x1A 0x1A rfl)) aR)
  (aG (bK (aU fJ 0x1A aM 0x61)
   (aq (bM (j8 A0K A0R A0S dw 0x1B 0x82))
   (aq (aV (i:=4) Vq.nd rfl 0x8 (bG G2 hr rfl M2.m M2.k M2.b .nil bC (aj 0x32 0x82)))
   (aG (gF A0Q rfl (fu (bG G3 hr rfl M3.m M3.k M3.b .nil bC (aj 0x32 0x82))) (bB (i:=5) Vq.nd rfl 0x8)
    (aG (bK (aU Ql (pv 4) m7 0x61) (aG (bM (bG G4 hr rfl M4.m M4.k M4.b .nil bC (aj 0x32 (aj (pv 5) aC))))) (aG (cQ 0x17 0x1B (pv 5) (pv 4) rfl)))))))) aR)))))))),?_⟩
 have PU:=WP.E.P;have W0:=PU.W;have ln:=PU.ln;have lk:=PU.lk;have kl:∀{f:aQ->V},(kv f W.es).length<=800:=by intro f;rw[jx];lia
 cases ro with
 | land rr=>
  obtain⟨y,hs,hm⟩:=hst;cases rr with
  | grant e n m a s=>
   obtain⟨hy,rfl,hn,ha⟩:=hs;have hnn:=PU.new hn (hls n hok.1).1;refine 0x67;refine⟨_,rfl,_,rfl,_,rfl,r,_,_,_,rfl,rfl,bN.of hx,aH (j:=2) rfl,_,rfl,r,_,_,_,rfl,rfl,bN.of hx,aH (j:=6) rfl,small 0xA,fun t ht=>?_⟩
   apply 0o1 H t ht s1 ht1 H1
   have b1:=bk.same s1;have x1:=s1 _ _ hx;refine⟨q,_,_,_,_,W.ks,r,_,y.n,n,m,y.n,t,a,y.own,rfl,ap,b1,x1,rfl,rfl,rfl,rfl,?_,kl,kl,kl,kl,by lia,fun H' b' o'=>?_⟩
   ·rw[bI,A0f (fun z=>hnn (by rw[<-key_eq.mp z];exact A0e.mpr ⟨y,hy,rfl⟩))];exact dg W0.nd hy
   have x2:=fM b1 o' x1;refine⟨_,rfl,r,_,_,_,rfl,rfl,bN.of x2,aH (j:=0) rfl,rfl,_,rfl,cJ 0x7 ?_⟩;refine⟨_,rfl,r,_,_,_,rfl,rfl,bN.of x2,aH (j:=0) rfl,rfl,_,rfl,cJ 0x7 ?_⟩;refine⟨_,rfl,r,_,_,_,rfl,rfl,bN.of x2,aH (j:=0) rfl,rfl,_,rfl,cJ 0x7 ?_⟩;refine⟨_,rfl,r,_,_,_,rfl,rfl,bN.of x2,aH (j:=0) rfl,rfl,_,rfl,cJ 0x7 ?_⟩;refine⟨_,rfl,r,_,_,_,rfl,rfl,bN.of x2,aH (j:=0) rfl,rfl,_,rfl,cJ 0x7 ?_⟩;refine⟨_,rfl,r,_,_,_,rfl,rfl,bN.of x2,aH (j:=0) rfl,rfl,_,rfl,cJ 0x7 ?_⟩;have ox:ju q H H':=(ju.same s1).trans o'.x;refine k _ H' (.st 0 0 t 0 (y:=y) ⟨hy,rfl,hn,ha⟩ hm) (Vp W0 hy hnn b') (wH ap (bx.same s1) o') ?_ ox;have hS:dR W.es W.ks y 0x51:=⟨hy,rfl,hn,ha⟩;exact jq (u1:=t) (u2:=0) (t1:=0) (t2:=0) (b1:=t) (b2:=0) (·.tb) W0.nd hS (fun e he=>tM bk bx ox 0x86) (fM b1 o' ht1) 0x2 0x2 0x2 0x47 (fun _ _ _ _ _=>rfl) 0x47
  | part e n m a=>
   obtain⟨hy,rfl,hn,ha⟩:=hs;obtain⟨h1,h2,h3,h4⟩:=hok;have hnn:=PU.new hn (hls n h1).1;have hbd:=(PU.bd y hy).mono (show 10+5*j<=400 by lia)
   have hfr:=fr y hy;have hl:W.es.length<=18:=by lia
   obtain⟨p,hp,_,_⟩:=W0.lord y hy h4;have hbb:=W0.bnd y hy;have hob:=W0.vH y hy;have wX:y.n∈nms W.es:=A0e.mpr ⟨y,hy,rfl⟩;have q1:=jy hbd.1 0x5;have q2:=jy hbd.2.2 0x5;have q3:a.natAbs<o9:=jy (e:=5) 0x4 0x5;have q4:y.br.natAbs<o9:=jy (e:=5) 0x4 0x5;have q5:(y.br-a).natAbs<o9:=jy (e:=5) 0x4 0x5;have q6:(y.due.2*y.br).natAbs<o9:=jy (oF (f:=5) hbd.2.2 0x4) 0x5;have q7:y.due.2*y.br≠0:=A4h (A2O hbd.2.1 0x4);have gl:∀{Hx:Hp},Bk q Hx W.es W.ks->dj Hx q.l (V.str y.n) (some (.str p)):=fun b=>by
    have:=ZQ b.l W0.nd hy;rw[hp]at this;exact this
   refine 0x19;refine 0x67;refine⟨_,rfl,q.B,_,rfl,bk.gd,_,rfl,r,_,_,_,rfl,rfl,bN.of hx,aH (j:=2) rfl,q.d,_,rfl,ZQ bk.d W0.nd hy,?_⟩;refine⟨_,rfl,_,rfl,r,_,_,_,rfl,rfl,bN.of hx,aH (j:=2) rfl,q,W.es,W.ks,y,rfl,ap,bk,W0,hy,hl,fun H1 s1=>?_⟩;have b1:=bk.same s1;have x1:=s1 _ _ hx;have f1:H1 y.tb=some (.tup [.int y.due.1,.int y.due.2]):=s1 _ _ hfr;refine⟨_,rfl,_,rfl,_,rfl,q.B,_,rfl,b1.gl,_,rfl,r,_,_,_,rfl,rfl,bN.of x1,aH (j:=2) rfl,q.l,_,rfl,gl b1,?_⟩;refine⟨_,rfl,y.tb,_,_,_,rfl,rfl,bN.of f1,aH (j:=0) rfl,_,rfl,r,_,_,_,rfl,rfl,bN.of x1,aH (j:=5) rfl,_,_,rfl,rfl,⟨q1,q3⟩,_,rfl,y.tb,_,_,_,rfl,rfl,bN.of f1,aH (j:=1) rfl,_,rfl,_,_,rfl,rfl,⟨q2,q4⟩,_,_,rfl,q7,q6,fun t ht=>?_⟩
   apply 0o1 H1 t ht s2 Vn H2
   have b2:=b1.same s2;have x2:=s2 _ _ x1;have f2:=s2 _ _ f1;have o2:=dX.same (q:=q) (s1.trans s2);refine⟨q,_,_,_,_,W.ks,r,_,y.n,n,m,p,t,a,y.own,rfl,ap,b2,x2,rfl,rfl,rfl,rfl,?_,kl,kl,kl,kl,by lia,fun H3 b3 o3=>?_⟩
   ·rw[bI,A0f (fun z=>hnn (by rw[<-key_eq.mp z];exact wX))];exact dg W0.nd hy
   have x3:=fM b2 o3 x2;have f3:=fM b2 o3 f2;have YH:=fM b2 o3 Vn;have o4:=o2.trans o3;refine⟨_,rfl,y.tb,_,_,_,rfl,rfl,bN.of f3,aH (j:=0) rfl,_,rfl,_,rfl,r,_,_,_,rfl,rfl,bN.of x3,aH (j:=5) rfl,_,_,rfl,rfl,_,_,rfl,rfl,⟨q1,q5⟩,_,rfl,y.tb,_,_,_,rfl,rfl,bN.of f3,aH (j:=1) rfl,_,rfl,_,_,rfl,rfl,⟨q2,q4⟩,_,_,rfl,q7,q6,fun u hu=>?_⟩
   apply 0o1 H3 u hu s5 hu5 H5
   have b5:=b3.same s5;have x5:=s5 _ _ x3;have ht5:=s5 _ _ YH;have o5:=o4.trans (dX.same (q:=q) s5);have kl2:(0x77).length<=801:=A0z (cB _ _ _) (A2K kl);refine⟨_,rfl,q.B,_,rfl,b5.kd,_,rfl,r,_,_,_,rfl,rfl,bN.of x5,aH (j:=2) rfl,q.d,_,rfl,gK.k (k:=.inr y.n) b5.d 0x85,?_⟩;have b6:=b5.ud (l':=putK 0x77 0x50 (.ref u)) ap;have o6:=o5.trans (dX.ud (H:=H5) (o:=.dK (putK 0x77 0x50 (.ref u))));have x6:=fM b5 (dX.ud (H:=H5) (o:=.dK (putK 0x77 0x50 (.ref u)))) x5;have ht6:=fM b5 (dX.ud (H:=H5) (o:=.dK (putK 0x77 0x50 (.ref u)))) ht5;have hu6:=fM b5 (dX.ud (H:=H5) (o:=.dK (putK 0x77 0x50 (.ref u)))) hu5;generalize upd H5 q.d (.dK (putK 0x77 0x50 (.ref u)))=H6 at b6 o6 x6 ht6 hu6 ⊢;refine⟨_,rfl,r,_,_,_,rfl,rfl,bN.of x6,aH (j:=0) rfl,rfl,_,rfl,cJ 0x7 ?_⟩;refine⟨_,rfl,r,_,_,_,rfl,rfl,bN.of x6,aH (j:=0) rfl,rfl,_,rfl,cJ 0x7 ?_⟩;refine⟨_,rfl,r,_,_,_,rfl,rfl,bN.of x6,aH (j:=0) rfl,rfl,_,rfl,cJ 0x7 ?_⟩;refine⟨_,rfl,r,_,_,_,rfl,rfl,bN.of x6,aH (j:=0) rfl,rfl,_,rfl,cJ 0x7 ?_⟩;refine⟨_,rfl,r,_,_,_,rfl,rfl,bN.of x6,aH (j:=0) rfl,rfl,_,rfl,cJ 0x7 ?_⟩;have ox:ju q H H6:=o6.x;refine k _ H6 (.st 0 0 t u (y:=y) ⟨hy,rfl,hn,ha⟩ hm) (YJ W0 hy hnn hp b6) (wH ap bx o6) ?_ ox;have hS:dR W.es W.ks y 0x69:=⟨hy,rfl,hn,ha⟩;exact jq (u1:=t) (u2:=u) (t1:=0) (t2:=0) (b1:=t) (b2:=u) (·.tb) W0.nd hS (fun e he=>tM bk bx ox 0x86) ⟨ht6,hu6⟩ 0x2 0x2 0x2 0x47 (fun _ _ _ _ _=>rfl) 0x47
  | convey e m=>
   obtain⟨hy,rfl⟩:=hs;refine 0x19;refine 0x19;refine 0x67;refine⟨_,rfl,r,_,_,_,rfl,rfl,bN.of hx,aH (j:=3) rfl,_,rfl,q.B,_,rfl,bk.gh,_,rfl,r,_,_,_,rfl,rfl,bN.of hx,aH (j:=2) rfl,q.h,_,rfl,gK.k (k:=.inr y.n) bk.h (bO (A0O kl 0x5)),?_⟩;have b1:=Lz (m:=m) ap bk W0 hy;have o1:dX q H _:=dX.uh (H:=H) (o:=.dK (putK (hoL W.es) 0x50 (.str m)));have x1:=fM bk o1 hx;have J4:=wH ap bx o1;have BZ:=fun e he=>fM bk o1 0x86;generalize upd H q.h (.dK (putK (hoL W.es) 0x50 (.str m)))=H1 at o1 b1 x1 J4 BZ ⊢;refine 0x1C;refine 0x1C;refine 0x1C;refine 0x1C;exact k _ H1 (.st 0 0 0 0 (y:=y) ⟨hy,rfl⟩ hm) b1 J4 (jq (ks:=W.ks) (cN:=.convey y.n m) (u1:=0) (u2:=0) (t1:=0) (t2:=0) (b1:=0) (b2:=0) (·.tb) W0.nd ⟨hy,rfl⟩ BZ True.intro (fun _ _=>rfl) 0x2 0x2 0x47 (fun _ _ _ _ _=>rfl) 0x47) o1.x
  | gq e=>
   obtain⟨hy,rfl⟩:=hs;obtain⟨p,hp1,_,_⟩:=W0.lord y hy hok;refine 0x19;refine 0x19;refine 0x19;refine 0x67;refine⟨_,rfl,_,rfl,r,_,_,_,rfl,rfl,bN.of hx,aH (j:=2) rfl,q,W.es,W.ks,y,p,rfl,ap,bk,W0,hy,hok,hp1,by lia,fun H1 b1 o1=>?_⟩;have x1:=fM bk o1 hx;refine 0x1C;refine 0x1C;refine 0x1C;refine k _ H1 (.st 0 0 0 0 (y:=y) ⟨hy,rfl⟩ hm) ?_ (wH ap bx o1) (jq (ks:=W.ks) (cN:=.gq y.n) (u1:=0) (u2:=0) (t1:=0) (t2:=0) (b1:=0) (b2:=0) (·.tb) W0.nd ⟨hy,rfl⟩ (fun e he=>fM bk o1 0x86) True.intro (fun _ _=>rfl) 0x2 0x2 0x47 (fun _ _ _ _ _=>rfl) 0x47) o1.x
   show Bk q H1 (cO y.n 0x7F y.own W.es) W.ks
   rw[hp1];exact b1
 | heir a b=>
  refine 0x19;refine 0x19;refine 0x19;refine 0x19;refine 0x67;have hl:=WP.hl;refine⟨_,rfl,r,_,_,_,rfl,rfl,bN.of hx,aH (j:=3) rfl,_,rfl,q.B,_,rfl,gR bk.b bx.vh,_,rfl,r,_,_,_,rfl,rfl,bN.of hx,aH (j:=2) rfl,q.he,_,rfl,gK.k (k:=.inr a) bx.h 0x85,?_⟩;have o1:ju q H (upd H q.he (.dK (putK W.hs (.inr a) (.str b)))):=ju.put (by simp[iV]);have b1:=J3 (o:=.dK (putK W.hs (.inr a) (.str b))) ap bk 12 rfl 0x5;have x1:=tM bk bx o1 hx;have J4:Bx q (upd H q.he (.dK (putK W.hs (.inr a) (.str b)))) {W with hs:=putK W.hs (.inr a) (.str b)}:=⟨bx.vh,bx.vg,ao,by rw[ak (bQ ap 13 12 rfl rfl 0x5)];exact bx.g,by rw[ak (bQ ap 11 12 rfl rfl 0x5)];exact bx.x⟩;have BZ:=fun e he=>tM bk bx o1 0x86;generalize upd H q.he (.dK (putK W.hs (.inr a) (.str b)))=H1 at o1 b1 x1 J4 BZ ⊢;refine 0x1C;refine 0x1C;exact k _ H1 (.hr hst) b1 J4 BZ o1
 | liege a b=>
  refine 0x19;refine 0x19;refine 0x19;refine 0x19;refine 0x19;refine 0x67;have gl:=WP.gl;have ll:=Yh W.lg;refine⟨_,rfl,r,_,_,_,rfl,rfl,bN.of hx,aH (j:=3) rfl,_,rfl,q.B,_,rfl,gR bk.b bx.vg,_,rfl,r,_,_,_,rfl,rfl,bN.of hx,aH (j:=2) rfl,q.lg,_,rfl,gK.k (k:=.inr a) bx.g 0x85,?_⟩;have ep:putK (PJ W.lg) (.inr a) (.str b)=PJ (W.lg++[(a,dy,b)]):=(Ek W.lg (a,dy,b)).symm;rw[ep];have o1:ju q H (upd H q.lg (.dK (PJ (W.lg++[(a,dy,b)])))):=ju.put (by simp[iV]);have b1:=J3 (o:=.dK (PJ (W.lg++[(a,dy,b)]))) ap bk 13 rfl 0x5;have x1:=tM bk bx o1 hx;have J4:Bx q (upd H q.lg (.dK (PJ (W.lg++[(a,dy,b)])))) {W with lg:=W.lg++[(a,dy,b)]}:=⟨bx.vh,bx.vg,by rw[ak (bQ ap 12 13 rfl rfl 0x5)];exact bx.h,ao,by rw[ak (bQ ap 11 13 rfl rfl 0x5)];exact bx.x⟩;have BZ:=fun e he=>tM bk bx o1 0x86;generalize upd H q.lg (.dK (PJ (W.lg++[(a,dy,b)])))=H1 at o1 b1 x1 J4 BZ ⊢;refine 0x1C;exact k _ H1 (.lr hst.1 hst.2) b1 J4 BZ o1
 | death a=>
  refine 0x19;refine 0x19;refine 0x19;refine 0x19;refine 0x19;refine 0x19;refine 0x67;have dl:=WP.dl;have hl:=WP.hl;have gl:W.gone.length=W.dd.length:=cM ..;refine⟨_,rfl,q.B,_,rfl,gR bk.b bk.vx,.inl ⟨rfl,_,bY.of bx.x⟩,_,rfl,r,_,_,_,rfl,rfl,bN.of hx,aH (j:=2) rfl,q.dd,_,_,rfl,rfl,bx.x,(by rw[cM];exact bO 0x4),?_⟩;have eg:(0x7D).gone=W.gone++[a]:=by show(0x6A).map _=_;rw[j9];rfl
  have ex:W.gone.map V.str++[V.str a]=(0x7D).gone.map V.str:=by rw[eg,j9];rfl
  rw [ex];have o1:ju q H (upd H q.dd (.lst ((0x7D).gone.map V.str))):=ju.put (by simp[iV]);have b1:=J3 (o:=.lst ((0x7D).gone.map V.str)) ap bk 11 rfl 0x5;have x1:=tM bk bx o1 hx;have J4:Bx q (upd H q.dd (.lst ((0x7D).gone.map V.str))) ⟨W.es,W.ks,W.hs,W.dd++[(a,dy)],W.lg⟩:=⟨bx.vh,bx.vg,by rw[ak (bQ ap 12 11 rfl rfl 0x5)];exact bx.h,by rw[ak (bQ ap 13 11 rfl rfl 0x5)];exact bx.g,ao⟩;have BZ:=fun e he=>tM bk bx o1 0x86;generalize upd H q.dd (.lst ((0x7D).gone.map V.str))=H1 at o1 b1 x1 J4 BZ ⊢;have bkA:wF H1 q.B q.he q.dd q.kvs W.hs (W.gone++[a]):=⟨b1.b,J4.vh,b1.vx,J4.h,by rw[<-eg];exact J4.x,b1.len⟩;refine⟨_,rfl,_,rfl,r,_,_,_,rfl,rfl,bN.of x1,aH (j:=2) rfl,q.B,q.he,q.dd,q.kvs,W.hs,W.gone++[a],ZS W.hs,(fun z=>decide (z∈W.gone++[a])),a,rfl,bkA,U5 WP.hv,0xD,by lia,fun t H2 s2 tk=>?_⟩;refine⟨_,rfl,_,rfl,r,_,_,_,rfl,rfl,bN.of (s2 _ _ x1),aH (j:=2) rfl,q,W.es,W.ks,a,rfl,ap,b1.same s2,W0.nd,by lia,fun D ss H3 s3 sX hD hp hs=>?_⟩;have hb:vN W.es a ss:=⟨hp,hs⟩;have b2:=b1.same s2;have bx2:=J4.same s2;have hDn:D∉iV q:=fun z=>by
   simp only[iV,A0d,A0s,A1d]at z;rcases z with e|e|e|e|e|e|e|e<;>rw[e]at sX
   ·rw[b2.l]at sX;cases sX
   ·rw[b2.h]at sX;cases sX
   ·rw[b2.o]at sX;cases sX
   ·rw[b2.d]at sX;cases sX
   ·rw[b2.k]at sX;cases sX
   ·rw[bx2.h]at sX;cases sX
   ·rw[bx2.x]at sX;cases sX
   ·rw[bx2.g]at sX;cases sX
  have s23:=s2.trans s3;have tr:∀h,t=some h->PyData.strOk h=true:=fun h e=>Tk.ok (Pr:=fun z=>PyData.strOk z=true) (fun _ _=>oH WP.hv) tk (fun z e=>oH WP.hv e) h e;refine⟨D,rfl,⟨_,bY.of hD⟩,gA (K:=K) (a:=D) (xs:=ss.map V.str) (fun i σ Hx=>∃(u5:Option V)(e1:List aQ),σ=[some (.ref q.B),some 0x60,none,none,some (rP t),u5]/\Hx D=some 0x35/\Bk q Hx e1 W.ks/\Bx q Hx ⟨e1,W.ks,W.hs,W.dd++[(a,dy)],W.lg⟩/\Fo t W.es (ss.take i) e1/\(∀e∈e1,je Hx e.tb e.due.1 e.due.2)/\ju q H Hx)
   ⟨none,W.es,rfl,hD,b1.same s23,J4.same s23,.nil,fun e he=>s23 _ _ (BZ e he),o1.trans (ju.same s23)⟩ (fun i σ Hx _ h=>by obtain⟨_,_,_,h,_⟩:=h;exact bY.of h) ?_ ?_⟩
  ·rintro i v σ Hx hv ⟨u5,e1,rfl,uc,bkx,bxx,fo,fx,ox⟩;rw[pF]at hv;obtain⟨n,hn,rfl⟩:=A0J.mp hv;obtain⟨hne,y,hy,rfl⟩:=Fo.next hb W0.nd WP.E.cr hok fo hn;have PU1:=(fo.eo WP.E tr hls).P;have ln1:=PU1.ln;have tk':ss.take (i+1)=ss.take i++[y.n]:=by rw[A1e,hn];rfl
   have fin:∀H',Bk q H' (stp y e1 0 0 0 0 (vM t y.n)) W.ks->dX q Hx H'->∃(u5:Option V)(e2:List aQ),[some (.ref q.B),some 0x60,none,none,some (rP t),some (V.str y.n)]=[some (V.ref q.B),some 0x60,none,none,some (rP t),u5]/\H' D=some 0x35/\Bk q H' e2 W.ks/\Bx q H' ⟨e2,W.ks,W.hs,W.dd++[(a,dy)],W.lg⟩/\Fo t W.es (ss.take (i+1)) e2/\(∀e∈e2,je H' e.tb e.due.1 e.due.2)/\ju q H H':=fun H' b' o'=>by
    refine⟨_,_,rfl,o'.x _ _ hDn uc,b',wH ap bxx o',by rw[tk'];exact .snoc fo hy hne,?_,ox.trans o'.x⟩;exact jq (u1:=0) (u2:=0) (·.tb) PU1.W.nd (La (ks:=W.ks) hy) (fun e he=>tM bkx bxx o'.x (fx e he)) TX.die 0x2 0x2 0x2 0x47 (fun _ _ _ _ _=>by cases t<;>rfl) (fun _ _ _ _=>by cases t<;>rfl)
   refine⟨_,rfl,rfl,_,rfl,?_⟩;rw[El];cases t with
   | none=>
    refine cW ?_;obtain⟨p,hp1,_,_⟩:=PU1.W.lord y hy hne;refine⟨_,rfl,_,rfl,q,e1,W.ks,y,p,rfl,ap,bkx,PU1.W,hy,hne,hp1,by lia,fun H' b' o'=>?_⟩;refine fin H' ?_ o'
    show Bk q H' (cO y.n 0x7F y.own e1) W.ks
    rw[hp1];exact b'
   | some h=>
    refine cg ?_;refine⟨_,rfl,_,rfl,q.B,_,rfl,gR bkx.b bkx.vh,_,rfl,q.h,_,rfl,gK.k (k:=.inr y.n) bkx.h (bO (by rw[jx];lia)),?_⟩;exact fin _ (Lz ap bkx PU1.W hy) dX.uh
  ·rintro σ Hx ⟨u5,e1,rfl,uc,bkx,bxx,fo,fx,ox⟩;rw[cM,A1f]at fo;exact k _ _ (.di hst tk hb fo) bkx bxx fx ox
abbrev Ja:Stmt:=top 63
inductive uz(vs:List V)(H:Hp)(Q:VK)(cH:XK):Prop
 |mk(q:Ad)(W:M.Wo)(ls:List Str)(j:Nat)(r:Addr)(ro:M.Ro)(dy wd:Int)(_:vs=[.ref q.B,.ref r])(_:Ap q)(_:Bk q H W.es W.ks)(_:Bx q H W)(_:Wp W ls j wd)(_:(∀e∈W.es,je H e.tb e.due.1 e.due.2))(_:Ro.Ok ls ro)(_:0x62)(_:j<=17)(_:H r=some (.tup 0x7A))(_:∀w W' H',Jo W dy ro w W'->Bk q H' W'.es W'.ks->Bx q H' W'->(∀e∈W'.es,je H' e.tb e.due.1 e.due.2)->ju q H H'->Q (.str w) H'):uz vs H Q cH
def LC:aP ["_law_book_here","_law_row_here","_law_word_here"] A5g (aJ Ja):=0x0
def Vr(F:fj K "_law_word" "_law_word" Ja f fd)(G1:aL P w K mg base bL 3 g1 d1 A5g Vl)(M1:Ms K mg "_law_why" g1 d1 A5g)
  (G2:aL P w K mg base bL 3 g2 d2 A5g (a2h K))(M2:Ms K mg "_law_do" g2 d2 A5g):aL P w K mg base bL 4 f fd A5g uz:=by
 refine F.ok LC 0x1 0x3;obtain⟨q,W,ls,j,r,ro,dy,wd,rfl,ap,bk,bx,WP,fr,hok,hls,hj,hx,k⟩:=h;refine⟨_,aq (aV (i:=2) LC.nd rfl 0x8 (bG G1 hr rfl M1.m M1.k M1.b .nil bC (aj 0x32 0x2C)))
  (aq (bK (aU fJ 0x3B aM 0x61) (aG (bM (bG G2 hr rfl M2.m M2.k M2.b .nil bC (aj 0x32 0x2C)))) aR)
  (aG (aZ 0x3B))),?_⟩
 refine⟨_,rfl,_,rfl,q,W,r,ro,dy,rfl,ap,bk,bx,WP.E.P.W,(by have:=WP.E.P.ln;lia),hx,fun z H1 s1 hw=>?_⟩;have b1:=bk.same s1;have x1:=bx.same s1;have f1:=fun e he=>s1 _ _ 0x86;refine⟨_,rfl,rfl,_,rfl,Lb (fun e=>?_) (fun ne=>?_)⟩
 ·subst e;have hst:St W ro:=by
   rcases hw with h|h
   ·exact absurd rfl h.1
   ·exact h.2
  exact⟨_,rfl,_,rfl,q,W,ls,j,r,ro,dy,wd,rfl,ap,b1,x1,WP,f1,hst,hok,hls,hj,s1 _ _ hx,fun W' H2 J b2 x2 f2 o=>⟨_,rfl,k _ W' H2 J b2 x2 f2 ((ju.same s1).trans o)⟩⟩
 ·rcases hw with h|h
  ·exact⟨_,rfl,k z W H1 h.2 b1 x1 f1 (ju.same s1)⟩
  ·exact absurd h.1 ne
abbrev Bm:Stmt:=top 67
def yV(n:Int)(t b:Addr):aQ:=⟨"",none,"",n,n,(0,1),t,b⟩
def Vs(n:Int)(t b:Addr)(ls:List Str)(n1:1<=n)(n2:n<=9999):Pu [yV n t b] [] ls 0 n:=by
 refine⟨⟨by simp[nms],⟨yV n t b,[],rfl,rfl,rfl,trivial⟩,fun e he=>?_,fun e he=>?_,fun e he=>?_⟩,fun e he=>?_,fun e he hn=>?_,A0g _,A0g _,fun e he=>?_,?_⟩
 ·rw[A0b.mp he];exact⟨by show 0<=n;lia,by show 0<=n;lia,n2⟩
 ·rw[A0b.mp he]
  show n=n+Sb [yV n t b] ""
  have:Sb [yV n t b] ""=0:=by unfold Sb;rfl
  lia
 ·rw[A0b.mp he];show PyData.strOk ("":Str)=true;decide+kernel
 ·rw[A0b.mp he];exact⟨by show(0:Int).natAbs<_;decide,by show(0:Int)<1;decide,by show(1:Int).natAbs<_;decide⟩
 ·rw[A0b.mp he]at hn;exact absurd rfl hn
 ·rw[A0b.mp he];exact .inl rfl
 ·show n+0=n;lia
theorem Vt:∀{l:List Nat}{x:Nat},x∈l->x<=l.sum
 | y::l,x,h=>by
  rw[A0I];rcases A0d.mp h with e|e
  ·lia
  ·have:=Vt e;lia
def five{l:List Nat}(h:l.Nodup):([l.sum+1,l.sum+2,l.sum+3,l.sum+4,l.sum+5]++l).Nodup:=by
 rw[A2y];refine⟨by simp,h,fun a ha b hb e=>?_⟩;have:=Vt hb;simp only[A0d,A0s,A1d]at ha;lia
def rC{q:Ad}{es:List aQ}{W:Wo}(b:Bk q H es ks)(x:Bx q H W)(h:H c=none):c∉iV q:=fun z=>by
 simp only[iV,A0d,A0s,A1d]at z;rcases z with e|e|e|e|e|e|e|e<;>rw[e]at h
 ·rw[b.l]at h;cases h
 ·rw[b.h]at h;cases h
 ·rw[b.o]at h;cases h
 ·rw[b.d]at h;cases h
 ·rw[b.k]at h;cases h
 ·rw[x.h]at h;cases h
 ·rw[x.x]at h;cases h
 ·rw[x.g]at h;cases h
def LK{q:Ad}{es:List aQ}(b:Bk q H es ks)(n1:c≠q.B)(n:c∉iV q):Bk q (upd H c o) es ks:=by
 have g:∀{a:Addr}{u:HO},a∈q.B::iV q->H a=some u->(upd H c o) a=some u:=fun{a u}ha e=>by
  rw[ak]
  ·exact e
  ·intro z;rcases A0d.mp ha with h|h
   ·exact n1 (by rw[<-z,h])
   ·exact n (by rw[<-z];exact h)
 exact⟨g 0xA b.b,b.vl,b.vh,b.vo,b.vd,b.vk,b.vx,g (by simp[iV]) b.l,g (by simp[iV]) b.h,g (by simp[iV]) b.o,g (by simp[iV]) b.d,g (by simp[iV]) b.k,b.len⟩
def LQ{q:Ad}{W:Wo}(b:Bx q H W)(n1:c≠q.lg)(n:c∉iV q):Bx q (upd H c o) W:=by
 have g:∀{a:Addr}{u:HO},a∈q.lg::iV q->H a=some u->(upd H c o) a=some u:=fun{a u}ha e=>by
  rw[ak]
  ·exact e
  ·intro z;rcases A0d.mp ha with h|h
   ·exact n1 (by rw[<-z,h])
   ·exact n (by rw[<-z];exact h)
 exact⟨b.vh,b.vg,g (by simp[iV]) b.h,g 0xA b.g,g (by simp[iV]) b.x⟩
inductive wI(K:W.Frag)(vs:List V)(H:Hp)(Q:VK)(cH:XK):Prop
 |mk(l:Addr)(n:Int)(all:List Addr)(dat:Addr->List V)(jW:Addr->Int)(nH:Addr->M.Ro)(ls:List Str)(_:vs=[.int n,.ref l])(_:1<=n)(_:n<=9999)(_:bY K H l 0x4A)(_:all.length<=17)(_:jg H all dat)(_:(∀a∈all,Fd dat jW nH ls a))(_:0x62)(_:∀T wl q W ts out ws b0 H',Same H H'->H' T=some (.tup [.ref q.B,.ref wl])->H wl=none->(∀a∈[q.B,q.l,q.h,q.o,q.d,q.kn,q.dd,q.he,q.lg],H a=none)->Ap q->Bk q H' W.es W.ks->Bx q H' W->Wp W ls out.length n->(∀e∈W.es,je H' e.tb e.due.1 e.due.2)->jr H' wl ts out ws->out.Perm all->Ir dat out->JL (W0 (yV n 0 b0)) (out.map fun a=>(jW a,nH a)) ws W->Q (.ref T) H'):wI K vs H Q cH
def rD:aP ["_law_acres","_law_rows_here","_law_book_here","_law_words","_law_row_here"] A5I (aJ Bm):=0x0
def OD(F:fj K "_law_books" "_law_books" Bm f fd)(G1:aL P w K mg base bL 1 g1 d1 ["_law_acres"] Ai)(M1:Ms K mg "_law_book" g1 d1 ["_law_acres"])
  (G2:aL P w K mg base bL 3 g2 d2 ["_law_rows_here"] (vZ K))(M2:Ms K mg "_law_sorted" g2 d2 ["_law_rows_here"])
  (G3:aL P w K mg base bL 4 g3 d3 A5g uz)(M3:Ms K mg "_law_word" g3 d3 A5g):aL P w K mg base bL 5 f fd A5I (wI K):=by
 refine F.ok rD 0x1 0x3;obtain⟨l,n,all,dat,jW,nH,ls,rfl,n1,n2,hl,h17,RO,RW,hls,k⟩:=h;have hr1:cG 1 _:=hr.mono 0x5;have Sq:cG 3 _:=hr.mono 0x5;refine⟨_,aq (aV (i:=2) rD.nd rfl 0x8 (bG G1 hr1 rfl M1.m M1.k M1.b .nil bC (aj 0x32 aC)))
  (aq (aV (i:=3) rD.nd rfl 0x8 (cL aC))
  (aq (gF A0Q rfl (fu (bG G2 Sq rfl M2.m M2.k M2.b .nil bC 0x2C)) (bB (i:=4) rD.nd rfl 0x8)
   (aG (bM (j8 A0K A0R A0S dw 0x52 (aj (cu (aj (pv 4) (aj (bG G3 hr rfl M3.m M3.k M3.b .nil bC (aj 0x3B (aj (pv 4) aC))) aC))) aC)))))
  (aG (aZ (cu (aj 0x3B 0x90)))))),?_⟩
 refine⟨_,rfl,n,rfl,fun B bl bh bo bd Jb Jc Jd Je b0 kvs H1 s1 hfree ndl BL BXL BZ=>⟨small 0xA,fun wl hwl=>?_⟩⟩;have a2i:H wl=none:=s1.free hwl;obtain⟨q,hq,apq⟩:∃q:Ad,(q.B=B/\q.l=bl/\q.h=bh/\q.o=bo/\q.d=bd/\q.kn=Jb/\q.dd=Jc/\q.he=Jd/\q.lg=Je/\q.kvs=kvs)/\Ap q:=
  ⟨⟨0,0,[B,bl,bh,bo,bd,Jb,Jc,Jd,Je].sum+1,[B,bl,bh,bo,bd,Jb,Jc,Jd,Je].sum+2,[B,bl,bh,bo,bd,Jb,Jc,Jd,Je].sum+3,[B,bl,bh,bo,bd,Jb,Jc,Jd,Je].sum+4,[B,bl,bh,bo,bd,Jb,Jc,Jd,Je].sum+5,B,bl,bh,bo,bd,Jb,Jc,Jd,Je,kvs,n⟩,⟨rfl,rfl,rfl,rfl,rfl,rfl,rfl,rfl,rfl,rfl⟩,five ndl⟩
 obtain⟨rfl,rfl,rfl,rfl,rfl,rfl,rfl,rfl,rfl,rfl⟩:=hq;have B1:Bk q H1 [yV n 0 b0] []:=BL;have X1:Bx q H1 (W0 (yV n 0 b0)):=BXL;have wlo:wl∉iV q:=rC B1 X1 hwl;have wlB:wl≠q.B:=fun z=>by rw[z,B1.b]at hwl;cases hwl
 have wlG:wl≠q.lg:=fun z=>by rw[z,X1.g]at hwl;cases hwl
 apply 0o1 H1 wl hwl sw w2 H2
 have s2:=s1.trans sw;have B2:Bk q H2 [yV n 0 b0] []:=B1.same sw;have X2:Bx q H2 (W0 (yV n 0 b0)):=X1.same sw;have fr2:∀e∈[yV n 0 b0],je H2 e.tb e.due.1 e.due.2:=fun e he=>by rw[A0b.mp he];exact sw _ _ BZ
 have RO2:jg H2 all dat:=⟨fun a ha=>⟨s2 _ _ (RO.1 a ha).1,(RO.1 a ha).2⟩,RO.2⟩;have a2j:∀{c:Addr}{u:HO},H c=some u->c∉iV q:=fun{c u}hc z=>by
  have:H c=none:=hfree c (by simp only[iV,A0d,A0s,A1d]at z ⊢;rcases z with e|e|e|e|e|e|e|e<;>simp[e]);rw[this]at hc;cases hc
 refine⟨_,rfl,l,rfl,all,dat,s2.seq hl,by lia,RO2,fun S out H3 s3 hS0 hS hp hu=>⟨S,rfl,⟨_,bY.of hS⟩,?_⟩⟩;have ol:out.length<=17:=by rw[hp.length_eq];exact h17
 have So:S∉iV q:=rC B2 X2 hS0;have nSw:S≠wl:=fun z=>by rw[z,w2]at hS0;cases hS0
 have Yz:∀r∈out,H r=some (.tup (dat r))/\Fd dat jW nH ls r:=fun r hr=>⟨(RO.1 r (hp.mem_iff.mp hr)).1,RW r (hp.mem_iff.mp hr)⟩;refine gA (K:=K) (a:=S) (xs:=out.map V.ref) (fun i σ Hx=>∃(u4:Option V)(W:Wo)(ws:List Str)(ts:List Addr),σ=[some (.int n),some (.ref l),some (.ref q.B),some (.ref wl),u4]/\Same H Hx/\Hx S=some (.lst 0x66)/\Bk q Hx W.es W.ks/\Bx q Hx W/\Wp W ls (out.take i).length n/\(∀e∈W.es,je Hx e.tb e.due.1 e.due.2)/\jr Hx wl ts (out.take i) ws/\JL (W0 (yV n 0 b0)) ((out.take i).map fun a=>(jW a,nH a)) ws W)
  ⟨none,W0 (yV n 0 b0),[],[],rfl,s2.trans s3,hS,B2.same s3,X2.same s3,qZ (Vs n 0 b0 ls n1 n2) rfl rfl rfl,fun e he=>s3 _ _ (fr2 e he),⟨s3 _ _ w2,rfl,rfl,fun i t r w e1 _ _=>by simp at e1⟩,.nil⟩ (fun i σ Hx _ h=>by obtain⟨_,_,_,_,_,_,h,_⟩:=h;exact bY.of h) ?_ ?_
 ·rintro i v σ Hx hv ⟨u4,W,ws,ts,rfl,sx,hSx,BX,XX,PX,fX,JX,LX⟩;rw[pF]at hv;obtain⟨r,hr,rfl⟩:=A0J.mp hv;obtain⟨hrt,Wt⟩:=Yz r (wU hr);rw[Wt.e]at hrt;have hrx:=sx _ _ hrt;have tk:out.take (i+1)=out.take i++[r]:=by rw[A1e,hr];rfl
  have tl:(out.take i).length<=17:=by rw[A0H];lia
  refine⟨_,rfl,.inl ⟨rfl,_,bY.of JX.l⟩,_,rfl,_,rfl,_,rfl,q,W,ls,_,r,nH r,jW r,n,rfl,apq,BX,XX,PX,fX,Wt.ok,hls,tl,hrx,fun w' W' H' J B' X' f' o=>⟨small 0xA,fun t ht=>?_⟩⟩;have nt:=aK ht 0x92;have wt:=nt _ _ (o _ _ wlo JX.l);have St:=nt _ _ (o _ _ So hSx);have tt:(upd H' t 0x92) t=some 0x92:=ao;have J2:jr (upd H' t 0x92) wl ts (out.take i) ws:=JX.keep (by rw[wt,JX.l]) fun c xs h=>nt _ _ (tM BX XX o h);have B2:=B'.same nt;have X2:=X'.same nt;have ft:=fun e he=>nt _ _ (f' e he);have old:Same H (upd H' t 0x92):=fun c u hc=>nt _ _ (o c u (a2j hc) (sx _ _ hc));generalize upd H' t 0x92=H4 at nt wt St tt J2 B2 X2 ft old ⊢;refine⟨wl,_,_,rfl,rfl,wt,bO (by rw[cM,JX.lt];lia),?_⟩;refine⟨_,W',ws++[w'],ts++[t],rfl,fun c u hc=>?_,?_,LK B2 wlB wlo,LQ X2 wlG wlo,?_,fun e he=>?_,?_,?_⟩
  ·rw[ak (au hc a2i)];exact old c u hc
  ·rw[ak nSw];exact St
  ·rw[tk,iD];exact J.wp PX Wt.ok Wt.tx hls
  ·rw[je,ak (aO (ft e he) wt 0x6)];exact ft e he
  ·rw[tk];exact J2.snoc tt
  ·rw[tk,j9];exact .snoc LX J
 ·rintro σ Hx ⟨u4,W,ws,ts,rfl,sx,hSx,BX,XX,PX,fX,JX,LX⟩;rw[cM,A1f]at PX JX LX;refine⟨_,rfl,_,rfl,small 0xA,fun T hT=>?_⟩;have sT:=aK hT (.tup [V.ref q.B,V.ref wl]);exact k T wl q W ts out ws b0 _ (sx.trans sT) ao a2i (fun a ha=>hfree a (by simp only[A0d,A0s,A1d]at ha ⊢;rcases ha with h|h|h|h|h|h|h|h|h<;>simp[h])) apq (BX.same sT) (XX.same sT) PX (fun e he=>sT _ _ (fX e he)) (JX.keep (by rw[sT _ _ JX.l,JX.l]) fun c xs h=>sT _ _ h) hp hu LX
abbrev Bo:Stmt:=top 52
def az:Str:="abcdefghijklmnopqrstuvwxyz"
def low(c:Nat):Bool:=decide (97<=c)&&decide (c<=122)
def nameB(l:List Nat):Bool:=l.all low&&(decide (1<=l.length)&&decide (l.length<=8))
def lq{α:Type}{xs:List α}{i:Int}(h0:0<=i)(h1:i<xs.length):∃v,xT xs i=some v/\v∈xs:=by
 have hi:i.toNat<xs.length:=by lia
 have e:i=((i.toNat:Nat):Int):=by lia
 refine⟨xs[i.toNat],?_,A0U hi⟩;have q:xT xs ((i.toNat:Nat):Int)=some xs[i.toNat]:=aH (by simp[hi]);rw[<-e]at q;exact q
def Jf(cs:List Nat):(Txt.join (Str.ofString "") (cs.map fun c=>nF [c]))=nF cs:=by
 have e:(Str.ofString "").cps=#[]:=by decide+kernel
 have fo:∀(ds:List Nat)(acc:Array Nat),(ds.map fun c=>nF [c]).foldl (fun acc p=>acc++(Str.ofString "").cps++p.cps) acc=acc++ds.toArray:=by
  intro ds
  induction ds with
  |nil=>intro acc;simp
  | cons d r ih=>
   intro acc;rw[A0h,A1c,ih,e];simp
 show Builtin.Str.glued (Str.ofString "") (cs.map fun c=>nF [c])=_
 cases cs with
 |nil=>rfl
 | cons c r=>
  unfold Builtin.Str.glued;rw[A0h,List.drop_one,List.tail_cons,fo,List.headD_cons];simp[nF]
def YK{cs:List Nat}(h:cs.length<=1000):JoinOk (Str.ofString "") (cs.map fun c=>nF [c])=true:=by
 have e:(Str.ofString "").length=0:=by decide+kernel
 have fo:∀(ds:List Nat)(n:Nat),(ds.map fun c=>nF [c]).foldl (fun a p=>a+p.length+(Str.ofString "").length) n=n+ds.length:=by
  intro ds
  induction ds with
  |nil=>intro n;simp
  | cons d r ih=>
   intro n;rw[A0h,A1c,ih,e,jC];simp;lia
 unfold JoinOk;rw[List.foldl_toArray',fo]
 ·unfold Builtin.Str.tooLong;have:=small (n:=cs.length) 0x4;simp;lia
 ·rfl
def app_list(x y:Str):(x++y).cps.toList=x.cps.toList++y.cps.toList:=by
 show(x.cps++y.cps).toList=_
 simp
def YL(x y:Str):(x++y).length=x.length+y.length:=by
 have e:∀z:Str,z.length=z.cps.toList.length:=fun z=>by simp[Str.length]
 rw[e,e,e,app_list,iD]
def gY{fs:List Int}(h:∀v∈fs,Ca v){i:Int}(h0:0<=i)(h1:i<fs.length):∃v:Int,xT 0x8E i=some (.int v)/\Ca v:=by
 obtain⟨x,e,m⟩:=lq (xs:=fs.map V.int) h0 (by rw[cM];exact h1);obtain⟨v,hv,rfl⟩:=A0e.mp m;exact⟨v,e,h v hv⟩
def a3K:∀i:_root_.Fin 26,az.cps.toList[i.val]?=some (97+i.val):=by decide+kernel
def Vu{i:Int}(h0:0<=i)(h1:i<26):xT az.cps.toList i=some (97+i.toNat):=by
 have e:i=((i.toNat:Nat):Int):=by lia
 have q:xT az.cps.toList ((i.toNat:Nat):Int)=some (97+i.toNat):=aH (a3K ⟨i.toNat,by lia⟩);rw[<-e]at q;exact q
def Vv(h:i<26):low (97+i)=true:=by simp[low];lia
def rep1(n c:Nat):qF n [c]=List.replicate n c:=by
 unfold qF
 induction n with
 |zero=>rfl
 |succ n ih=>rw[A1x,A2u,ih];rfl
def YM{α:Type}{xs:List α}(h:j<=xs.length):tG xs none (some (j:Int))=xs.take j:=by
 unfold tG;have e1:HT.fQ xs.length 0 none=0:=rfl;rw[e1,HT.mq,List.drop_zero,Nat.sub_zero,A2X h]
def OJ{α:Type}{xs:List α}(h:j<=xs.length):tG xs (some (j:Int)) none=xs.drop j:=by
 unfold tG;have e2:HT.fQ xs.length xs.length none=xs.length:=rfl;rw[e2,HT.mq,A2X h,A2h (by rw[A1J];exact A0g _)]
def Told(p:Nat)(e:Int)(zs:List Str):Prop:=∀(j:Nat)(z:Str),zs[j]?=some z->z.cps.toList[p]?=some (97+((e+7*(j:Int))%26).toNat)/\nameB z.cps.toList=true
def Told.nodup{p:Nat}{e:Int}(h:Told p e zs)(hl:zs.length<=26):zs.Nodup:=by
 unfold List.Nodup;rw[A1s];intro i j hi hj hij he;have h1:=(h i _ (lG hi)).1;have h2:=(h j _ (lG hj)).1;rw[he,h2]at h1;have h3:=A1b h1;lia
def Told.snoc{p:Nat}{e:Int}{z:Str}(h:Told p e zs)(h1:z.cps.toList[p]?=some (97+((e+7*(zs.length:Int))%26).toNat))(h2:nameB z.cps.toList=true):Told p e (zs++[z]):=by
 intro j y hj
 by_cases hlt:j<zs.length
 ·rw[A1k hlt]at hj;exact h j y hj
 ·have hj':j<(zs++[z]).length:=(A0j.mp hj).1;have e:j=zs.length:=by rw[iD,A0t]at hj';lia
  subst e;rw[A0X 0x33,A3l]at hj;have:z=y:=by simpa using hj
  subst this;exact⟨h1,h2⟩
def Fq{l:List Nat}(h:∀c∈l,low c=true)(h1:1<=l.length)(h2:l.length<=8):nameB l=true:=by
 unfold nameB;rw[A1L.mpr h,A0k h1,A0k h2];rfl
inductive Bp(K:W.Frag)(vs:List V)(H:Hp)(Q:VK)(cH:XK):Prop
 |mk(a:Addr)(ds:List Int)(many:Int)(_:vs=[.ref a,.int many])(_:bY K H a (ds.map V.int))(_:4<=ds.length)(_:(∀v∈ds,Ca v))(_:0<=many)(_:many<=26)(_:∀(r:Addr)(H':Hp)(zs:List Str),Same H H'->H r=none->H' r=some (.lst 0x8D)->zs.length=many.toNat->(∀z∈zs,nameB z.cps.toList=true)->zs.Nodup->Q 0x60 H'):Bp K vs H Q cH
def jG:aP A5u ["_law_d","_law_many"] (aJ Bo):=0x0
def scN1:Scope:={kind:=.function,names:=[(".0",.local),("_law_k",.local),("_law_d",.free),("_law_letters",.free)],isGenerator:=false,isCoroutine:=false}
def csN1:iw A5u (aJ Bo) scN1 ["_law_k"] ["_law_d","_law_letters"] [0,2]:=0xE
def ndN1:((["_law_k"]:List Str)++(["_law_d","_law_letters"]:List Str)).Nodup:=by decide+kernel
def Vw(F:fj K "_law_names" "_law_names" Bo f fd)(ml:mg "len"=none)(mr:mg "range"=none):aL P w K mg base bL 1 f fd ["_law_d","_law_many"] (Bp K):=by
 refine F.ok jG 0x1 0x3;obtain⟨a,ds,many,rfl,hS,hlen,hok,m0,m1,k⟩:=h;refine⟨_,aq (aV (i:=2) jG.nd rfl (Or.inr rfl) aM)
  (aq (aV (i:=4) jG.nd rfl 0x8 (j8 PySem.F.plainAttrs_str PySem.F.slot_str_join PySem.F.type_str_join WX aM (aj
    (kI rfl csN1
     (lJ rfl mr (aj (aX bV 0x4C aA) aC))
     (fun s H fp C=>⟨bB (i:=0) ndN1 rfl 0x8,zE,aN Qz 0x3B (aX bV (aX dY (aN (CT (K:=K)) 0xF aA 0x2)
      (aX lB (aX dY 0x32 aA) (aX mj (aN (CT (K:=K)) 0xF aA 0x2) aA))) aA) 0x2⟩)) aC)))
  (aq (aV (i:=5) jG.nd rfl 0x8 (aX bV 0x4C (aX dY (bH zy rfl ml A1G (aj (pv 4) aC)) aA)))
  (aq (aV (i:=6) jG.nd rfl 0x8 (cL aC))
  (aq (gF A0Q rfl (lJ rfl mr 0x2C) (bB (i:=3) jG.nd rfl 0x8)
   (aq (aV (i:=7) jG.nd rfl 0x8 (aN Qz 0x3B (aX bV (aX dY 0x4C (aX lB aA 0x52)) aA) 0x2))
   (aq (aV (i:=8) jG.nd rfl 0x8 (aX uN (aX uN (eG QM (pv 4) iI (cU (pv 5))) (pv 7)) (eG QM (pv 4) (cU (pv 5)) iI)))
   (aq (bK (aU fJ (aX bV (aX mj 0x4C aA) aA) aA 0x61)
    (aG (aV (i:=8) jG.nd rfl 0x8 (aX Gv (pv 7) (aX dY aA (aX bV (aX dY 0x4C (aX lB aA 0x52)) aA))))) aR)
   (aG (bM (j8 A0K A0R A0S dw (pv 6) (aj (pv 8) aC))))))))
  (aG (aZ (pv 6))))))),?_⟩
 obtain⟨d0,e0,o0⟩:=gY hok (i:=0) 0x5 0x4;obtain⟨d1,e1,o1⟩:=gY hok (i:=1) 0x5 0x4;obtain⟨d2,e2,o2⟩:=gY hok (i:=2) 0x5 0x4;obtain⟨d3,e3,o3⟩:=gY hok (i:=3) 0x5 0x4;obtain⟨o0a,o0b⟩:=o0;obtain⟨o1a,o1b⟩:=o1;obtain⟨o2a,o2b⟩:=o2;obtain⟨o3a,o3b⟩:=o3;refine⟨rfl,_,rfl,a,_,_,_,rfl,rfl,hS,e1,_,_,rfl,rfl,(by show(0:Int)<8;decide),d1%8,rfl,by lia,by lia,fun D hD=>?_⟩
 refine Gp (lo:=0) (n:=(d1%8).toNat) (fun i ys H2=>∃cs:List Nat,ys=cs.map (fun c=>V.str (nF [c]))/\cs.length=i/\(∀c∈cs,low c=true)/\Same H H2/\H2 D=some 0x89)
  ⟨[],rfl,rfl,(fun c hc=>nomatch hc),aK hD _,ao⟩ (fun i ys H2 ⟨cs,_,_,_,_,h⟩=>h) ?_ ?_
 ·rintro i ys H2 hi ⟨cs,rfl,hl,hc,s2,h2⟩;have S2:=s2.seq hS;refine⟨Kp.set rfl (Kp.refl _),?_⟩;refine uR ?_;have hm0:=A1a (d0+(0+(i:Int)+1)*(d1/8)) (show(26:Int)≠0 by decide)
  have hm1:=A0P (d0+(0+(i:Int)+1)*(d1/8)) (show(0:Int)<26 by decide)
  have hT:((d0+(0+(i:Int)+1)*(d1/8))%26).toNat<26:=by
   generalize(d0+(0+(i:Int)+1)*(d1/8))%26=T at hm0 hm1 ⊢;lia
  refine⟨_,rfl,_,rfl,a,_,_,_,rfl,rfl,S2,e0,_,rfl,_,_,rfl,rfl,_,rfl,a,_,_,_,rfl,rfl,S2,e1,_,_,rfl,rfl,⟨by decide,by decide⟩,_,_,rfl,rfl,.inl ⟨by lia,by lia⟩,_,_,rfl,rfl,_,_,rfl,rfl,(by show(0:Int)<26;decide),
   _,_,_,rfl,rfl,(by show az.length<=sizeLine;decide+kernel),Vu hm0 hm1,h2,?_,?_⟩
  ·rw[cM];exact bO 0x4
  ·exact⟨cs++[97+((d0+(0+(i:Int)+1)*(d1/8))%26).toNat],by rw[j9];rfl,by simp[hl],(fun d hd=>by
    rcases A0l.mp hd with z|z
    ·exact hc d z
    ·rw[A0b.mp z];exact Vv hT),bU s2 hD,ao⟩
 ·rintro ys H2 ⟨cs,rfl,hl,hc,s2,h2⟩;have hm:cs.map (fun c=>V.str (nF [c]))=(cs.map (fun c=>nF [c])).map V.str:=by simp
  refine⟨_,D,cs.map (fun c=>nF [c]),rfl,rfl,bY.of (by rw[<-hm];exact h2),YK 0x4,?_⟩;rw[Jf];have S2:=s2.seq hS;have lc:(nF cs).length=cs.length:=jC cs;refine⟨_,rfl,a,_,_,_,rfl,rfl,S2,e2,_,rfl,_,rfl,(by rw[lc];exact small 0x4),_,_,rfl,rfl,_,_,rfl,rfl,(by rw[lc];lia),?_⟩;rw[lc];have q0:0<=d2%((cs.length:Int)+1):=A1a _ 0x4;have q1:d2%((cs.length:Int)+1)<(cs.length:Int)+1:=A0P _ 0x4;obtain⟨at_,hat⟩:∃n:Nat,d2%((cs.length:Int)+1)=(n:Int):=⟨(d2%((cs.length:Int)+1)).toNat,by lia⟩;rw[hat]at q0 q1;refine⟨small 0xA,fun l hl0=>?_⟩;have hl1:H l=none:=s2.free hl0;refine⟨_,rfl,many,rfl,by lia,by lia,?_⟩;refine oU (lo:=0) (n:=many.toNat) (fun j σ H4=>∃(zs:List Str)(u1 u2 u3:Option V),σ=[some 0x4E,some (.int many),some (.str az),u1,some (.str (nF cs)),some (.int (at_:Int)),some (.ref l),u2,u3]/\Same H H4/\H4 l=some (.lst 0x8D)/\zs.length=j/\Told (if d2/8%2=1 then 0 else at_) d3 zs)
   ⟨[],none,none,none,(by rw[<-hat];rfl),bU s2 hl1,ao,rfl,fun j z h=>by simp at h⟩ ?_ ?_
  ·rintro j σ H4 hj ⟨zs,u1,u2,u3,rfl,s4,hL,hz,ht⟩;have S4:=s4.seq hS;have hm0:=A1a (d3+7*(0+(j:Int))) (show(26:Int)≠0 by decide)
   have hm1:=A0P (d3+7*(0+(j:Int))) (show(0:Int)<26 by decide)
   refine⟨_,rfl,_,rfl,a,_,_,_,rfl,rfl,S4,e3,_,rfl,_,_,rfl,rfl,.inl ⟨by decide,by decide⟩,_,_,rfl,rfl,_,_,rfl,rfl,(by show(0:Int)<26;decide),_,_,_,rfl,rfl,(by show az.length<=sizeLine;decide+kernel),Vu hm0 hm1,?_⟩
   have hc0:low (97+((d3+7*(0+(j:Int)))%26).toNat)=true:=Vv 0x4;have hcj:97+((d3+7*(0+(j:Int)))%26).toNat=97+((d3+7*(zs.length:Int))%26).toNat:=by rw[hz,Int.zero_add]
   generalize 97+((d3+7*(0+(j:Int)))%26).toNat=c at hc0 hcj ⊢;refine⟨_,rfl,_,rfl,_,rfl,_,rfl,(by rw[lc];exact small 0x4),_,rfl,?_⟩;have f1:tG (nF cs).cps.toList none (some (at_:Int))=cs.take at_:=YM (by show at_<=cs.length;lia)
   have f2:tG (nF cs).cps.toList (some (at_:Int)) none=cs.drop at_:=OJ (by show at_<=cs.length;lia)
   rw[f1];have l1:(nF (cs.take at_)++nF [c]).length=at_+1:=by rw[YL,jC,jC,A0H,A2X 0x4];rfl
   refine⟨_,_,rfl,rfl,(by rw[jC,jC,A0H];exact small (by simp;lia)),?_⟩;refine⟨_,rfl,_,rfl,_,rfl,_,rfl,(by rw[lc];exact small 0x4),?_⟩;rw[f2];refine⟨_,_,rfl,rfl,(by rw[l1,jC,A1J];exact small 0x4),?_⟩;have en:(nF (cs.take at_)++nF [c]++nF (cs.drop at_)).cps.toList=cs.take at_++[c]++cs.drop at_:=by rw[app_list,app_list]
   refine⟨_,rfl,a,_,_,_,rfl,rfl,S4,e2,_,_,rfl,rfl,⟨by decide,by decide⟩,_,_,rfl,rfl,(by show(0:Int)<2;decide),rfl,_,rfl,?_⟩
   refine iu (fun hb=>?_) (fun hb=>?_)
   ·have hb1:d2/8%2=1:=by
     have:=qg hb;injection this
    rw[A0i hb1]at ht ⊢;refine⟨_,rfl,_,rfl,a,_,_,_,rfl,rfl,S4,e0,_,rfl,_,_,rfl,rfl,.inl ⟨by decide,by decide⟩,_,_,rfl,rfl,_,_,rfl,rfl,(by show(0:Int)<8;decide),_,_,rfl,rfl,?_⟩
    have r0:=A1a (d0+3*(0+(j:Int))) (show(8:Int)≠0 by decide)
    have r1:=A0P (d0+3*(0+(j:Int))) (show(0:Int)<8 by decide)
    refine⟨_,_,rfl,rfl,by lia,by lia,(by show(nF [c]).length<=1000;rw[jC];simp),?_⟩
    have ec:(nF [c]).cps.toList=[c]:=rfl;rw[ec,rep1];refine⟨_,rfl,.inl ⟨rfl,_,bY.of hL⟩,_,rfl,l,_,_,rfl,rfl,hL,(by rw[cM];exact bO 0x4),?_⟩;refine⟨zs++[nF (List.replicate (1+(d0+3*(0+(j:Int)))%8).toNat c)],_,_,_,rfl,bU s4 hl1,by rw[ao,j9];rfl,by rw[iD,A0t,hz],ht.snoc ?_ ?_⟩
    ·rw[<-hcj]
     show(List.replicate _ c)[0]?=some c
     rw[A3w,A0i 0x4]
    ·refine Fq (fun x hx=>?_) ?_ ?_
     ·have:=(List.mem_replicate.mp hx).2;rw[this];exact hc0
     ·show 1<=(List.replicate _ c).length
      rw[A2r];lia
     ·show(List.replicate _ c).length<=8
      rw[A2r];lia
   ·have hb1:¬d2/8%2=1:=fun e=>hb (by show decide (V.int (d2/8%2)=V.int 1)=true;rw[e];rfl)
    rw[A0f hb1]at ht ⊢;refine⟨_,rfl,.inl ⟨rfl,_,bY.of hL⟩,_,rfl,l,_,_,rfl,rfl,hL,(by rw[cM];exact bO 0x4),?_⟩;refine⟨zs++[nF (cs.take at_)++nF [c]++nF (cs.drop at_)],_,_,_,rfl,bU s4 hl1,by rw[ao,j9];rfl,by rw[iD,A0t,hz],ht.snoc ?_ ?_⟩
    ·rw[en,<-hcj,A3c,A0X (by rw[A0H];lia),A0H,A2X 0x4,A3l];rfl
    ·rw [en];refine Fq (fun x hx=>?_) ?_ ?_
     ·rcases A0l.mp hx with z|z
      ·rcases A0l.mp z with z|z
       ·exact hc x (A2e z)
       ·rw[A0b.mp z];exact hc0
      ·exact hc x (A3g z)
     ·rw[iD,iD,A0t];lia
     ·rw[iD,iD,A0H,A1J,A0t];lia
  ·rintro σ H4 ⟨zs,u1,u2,u3,rfl,s4,hL,hz,ht⟩;refine⟨_,rfl,k l H4 zs s4 hl1 hL hz (fun z hzm=>?_) (ht.nodup 0x4)⟩;obtain⟨i,hi,rfl⟩:=A1T.mp hzm;exact(ht i _ (lG hi)).2
abbrev Jg:Stmt:=top 68
abbrev sLf:Stmt:=top 69
def wJ{fs:List Int}(h:i<=j)(hj:j<=fs.length):iG 0x8E (some (i:Int)) (some (j:Int))=((fs.drop i).take (j-i)).map V.int:=by
 unfold iG;rw[HT.mq,HT.mq,cM,A2X hj,A2X (A0z h hj),List.map_take,List.map_drop]
def Jh{fs:List Int}(h:∀v∈fs,Ca v):∀v∈(fs.drop i).take n,Ca v:=fun v hv=>h v (A3g (A2e hv))
def Nm(z:Str):Prop:=nameB z.cps.toList=true
def Nm.ne{z:Str}(h:Nm z):z≠""/\PyData.strOk z=true:=by
 unfold Nm nameB at h;rw[A0Y,A0Y]at h
 constructor
 ·intro e;rw[e]at h;have:=qg h.2.1;exact absurd this 0x7
 ·unfold PyData.strOk;rw[<-Array.all_toList,A1L];intro c hc;have:=A1L.mp h.1 c hc;unfold low at this;simp at this ⊢;lia
structure P0(H:Hp)(r m la:Addr)(ms ls:List Str)(wd:Int):Prop where
 r:H r=some (.tup [.ref m,.ref la,.int wd])
 m:H m=some (.lst (ms.map V.str))
 la:H la=some (.lst (ls.map V.str))
 lm:ms.length=6
 ll:ls.length=9
 nm:ms.Nodup
 om:∀z∈ms,Nm z
 ol:∀z∈ls,Nm z
 w1:1<=wd
 w2:wd<=9999
def P0.same{r m la:Addr}{ms:List Str}(p:P0 H r m la ms ls wd)(s:Same H H'):P0 H' r m la ms ls wd:=⟨s _ _ p.r,s _ _ p.m,s _ _ p.la,p.lm,p.ll,p.nm,p.om,p.ol,p.w1,p.w2⟩
inductive Bq(K:W.Frag)(vs:List V)(H:Hp)(Q:VK)(cH:XK):Prop
 |mk(a:Addr)(fs:List Int)(_:vs=[.ref a])(_:bY K H a 0x8E)(_:20<=fs.length)(_:(∀v∈fs,Ca v))(_:∀r m la ms ls wd H',Same H H'->P0 H' r m la ms ls wd->Q 0x60 H'):Bq K vs H Q cH
def idx9:idxV 9 (some 8) (some 2) (some (-1))=[8,7,6,5,4,3]:=by decide+kernel
def nine(h:ls.length=9):∃a b c d e f g i j,ls=[a,b,c,d,e,f,g,i,j]:=by
 match ls,h with
 |[a,b,c,d,e,f,g,i,j],_=>exact⟨a,b,c,d,e,f,g,i,j,rfl⟩
inductive a2k(K:W.Frag)(vs:List V)(H:Hp)(Q:VK)(cH:XK):Prop
 |mk(q:Ad)(es:List aQ)(ks:List Str)(me:Addr)(ms:List Str)(m:Str)(n:Int)(_:vs=[.ref q.B,.ref me,.str m,.int n])(_:Ap q)(_:Bk q H es ks)(_:WF es)(_:es.length<64)(_:H me=some (.lst (ms.map V.str)))(_:ms.length<=20)(_:m≠"")(_:∀(z:Str)(H':Hp),Same H H'->(z=""\/z∈ms\/∃e∈es,e.man=z)->Q (.str z) H'):a2k K vs H Q cH
def Br:aP ["_law_feed_here","_law_wide","_law_lands"] ["_law_feed_here"] (aJ Jg):=0x0
def Vx(F:fj K "_law_pools" "_law_pools" Jg f fd)(G1:aL P w K mg base bL 1 g1 d1 ["_law_d","_law_many"] (Bp K))(M1:Ms K mg "_law_names" g1 d1 ["_law_d","_law_many"]):aL P w K mg base bL 2 f fd ["_law_feed_here"] (Bq K):=by
 refine F.ok Br 0x1 0x3;obtain⟨a,fs,rfl,hS,hlen,hok,k⟩:=h;refine⟨_,(aq (aV (i:=1) Br.nd rfl 0x8 (aN bD (cL (aj (aX dY aA (aX bV 0x4C aA)) (aj (aX dY aA (aX bV 0x4C aA)) (aj (aX nR aA (aX bV 0x4C aA)) (aj aA aC))))) (aX bV 0x4C aA) 0x2))
  (aq (aV (i:=2) Br.nd rfl 0x8 (bG G1 hr rfl M1.m M1.k M1.b .nil bC (aj (eG mG 0x32 (cU aA) (cU aA)) (aj aA aC))))
  (aq (bK (aU fJ (aX bV (aX mj 0x4C aA) aA) aA 0x61) (aG (aZ (cu (aj (Oe 0x3B (cU aA) (cU aA) (cU (uL pR aA))) (aj 0x3B 0x2C))))) aR)
  (aG (aZ (cu (aj (bG G1 hr rfl M1.m M1.k M1.b .nil bC (aj (eG mG 0x32 (cU aA) (cU aA)) (aj aA aC))) (aj 0x3B 0x2C)))))))),?_⟩
 obtain⟨d12,e12,o12⟩:=gY hok (i:=12) 0x5 0x4;obtain⟨d13,e13,o13⟩:=gY hok (i:=13) 0x5 0x4;obtain⟨o12a,o12b⟩:=o12;obtain⟨o13a,o13b⟩:=o13;refine⟨_,rfl,a,_,_,_,rfl,rfl,hS,e12,_,_,rfl,rfl,(by show(0:Int)<200;decide),_,_,rfl,rfl,_,rfl,a,_,_,_,rfl,rfl,hS,e12,_,_,rfl,rfl,(by show(0:Int)<9;decide),_,_,rfl,rfl,_,rfl,a,_,_,_,rfl,rfl,hS,e12,_,_,rfl,rfl,(by show(0:Int)<50;decide),_,_,rfl,rfl,small 0xA,fun l hl=>?_⟩
 apply 0o1 H l hl s1 k1 H1
 have S1:=s1.seq hS;obtain⟨x,hx,hm⟩:=lq (xs:=[V.int (7+d12%200),.int (1+d12%9),.int (9999-d12%50),.int 40]) (i:=d13%4) 0x4 (by simp;lia);obtain⟨wd,rfl,w1,w2⟩:∃wd:Int,x=.int wd/\1<=wd/\wd<=9999:=by
  simp only[A0d,A0s,A1d]at hm;rcases hm with rfl|rfl|rfl|rfl
  ·exact⟨_,rfl,by lia,by lia⟩
  ·exact⟨_,rfl,by lia,by lia⟩
  ·exact⟨_,rfl,by lia,by lia⟩
  ·exact⟨_,rfl,by lia,by lia⟩
 refine⟨_,rfl,a,_,_,_,rfl,rfl,S1,e13,_,_,rfl,rfl,(by show(0:Int)<4;decide),l,_,_,_,rfl,rfl,bY.of k1,hx,?_⟩
 refine⟨_,rfl,_,rfl,_,rfl,a,_,rfl,S1,fun p1 hp1=>?_⟩;have c1:iG 0x8E (some 8) (some 12)=((fs.drop 8).take 4).map V.int:=wJ (i:=8) (j:=12) 0x5 0x4;rw[c1];have s2:=s1.trans (aK hp1 (.lst (((fs.drop 8).take 4).map V.int)));refine⟨p1,_,9,rfl,bY.of ao,by rw[A0H,A1J];lia,Jh hok,by decide,by decide,fun la H2 ls s12 hla hla' hll hln hnd=>?_⟩;have s02:=s2.trans s12;have S2:=s02.seq hS;refine⟨_,rfl,a,_,_,_,rfl,rfl,S2,e13,_,_,rfl,rfl,⟨by decide,by decide⟩,_,_,rfl,rfl,(by show(0:Int)<4;decide),rfl,_,rfl,?_⟩
 refine iu (fun _=>?_) (fun _=>?_)
 ·refine⟨_,rfl,_,rfl,_,rfl,_,rfl,_,rfl,la,_,rfl,bY.of hla',by decide,?_,fun p2 hp2=>?_⟩
  ·unfold yQ;rw[cM,show ls.length=9 from hll,idx9]
   exact A0z (List.length_filterMap_le _ _) 0x5
  have ep:yQ (ls.map V.str) (some 8) (some 2) (some (-1))=([8,7,6,5,4,3].filterMap (ls[·]?)).map V.str:=by
   unfold yQ;rw[cM,show ls.length=9 from hll,idx9]
   obtain⟨a,b,c,d,e,f,g,i,j,rfl⟩:=nine (show ls.length=9 from hll)
   rfl
  rw[ep];have s3:=aK hp2 (.lst (([8,7,6,5,4,3].filterMap (ls[·]?)).map V.str));refine⟨_,rfl,_,rfl,small 0xA,fun r hr0=>?_⟩;have s4:=aK hr0 (.tup [.ref p2,.ref la,.int wd]);refine k r p2 la ([8,7,6,5,4,3].filterMap (ls[·]?)) ls wd _ ((s02.trans s3).trans s4) ⟨ao,s4 _ _ ao,s4 _ _ (s3 _ _ hla'),?_,hll,?_,?_,hln,w1,w2⟩
  ·obtain⟨a,b,c,d,e,f,g,i,j,rfl⟩:=nine (show ls.length=9 from hll)
   rfl
  ·obtain⟨a,b,c,d,e,f,g,i,j,rfl⟩:=nine (show ls.length=9 from hll)
   show[j,i,g,f,e,d].Nodup
   simp only[A0L,A0d,A0s,A1d,A4a,A3L,and_true,A4y]at hnd ⊢;obtain⟨_,_,_,h4,h5,h6,h7,h8⟩:=hnd;refine⟨⟨A0m h8,A0m h7.2,A0m h6.2.2,A0m h5.2.2.2,A0m h4.2.2.2.2⟩,⟨A0m h7.1,A0m h6.2.1,A0m h5.2.2.1,A0m h4.2.2.2.1⟩,⟨A0m h6.1,A0m h5.2.1,A0m h4.2.2.1⟩,⟨A0m h5.1,A0m h4.2.1⟩,A0m h4.1⟩
  ·intro z hz;obtain⟨i,_,hi⟩:=A3t.mp hz;exact hln z (wU hi)
 ·refine⟨_,rfl,_,rfl,_,rfl,a,_,rfl,S2,fun p2 hp2=>?_⟩;have c2:iG 0x8E (some 4) (some 8)=((fs.drop 4).take 4).map V.int:=wJ (i:=4) (j:=8) 0x5 0x4;rw[c2];have s3:=aK hp2 (.lst (((fs.drop 4).take 4).map V.int));refine⟨p2,_,6,rfl,bY.of ao,by rw[A0H,A1J];lia,Jh hok,by decide,by decide,fun me H3 ms Vy hme hme' YG hmn hmd=>?_⟩;refine⟨_,rfl,_,rfl,small 0xA,fun r hr0=>?_⟩;have s4:=aK hr0 (.tup [.ref me,.ref la,.int wd]);exact k r me la ms ls wd _ (((s02.trans s3).trans Vy).trans s4) ⟨ao,s4 _ _ hme',s4 _ _ (Vy _ _ (s3 _ _ hla')),YG,hll,hmd,hmn,hln,w1,w2⟩
def scLf:aP ["_law_book_here","_law_men","_law_man","_law_number","_law_some"] A5o (aJ sLf):=0x0
def a3L:Scope:={kind:=.function,names:=[(".0",.local),("_law_one",.local),("_law_man",.free)],isGenerator:=false,isCoroutine:=false}
def a3M:iw ["_law_book_here","_law_men","_law_man","_law_number","_law_some"] (aJ sLf) a3L ["_law_one"] ["_law_man"] [2]:=0xE
def a3N:((["_law_one"]:List Str)++(["_law_man"]:List Str)).Nodup:=by decide+kernel
def a3O(F:fj K "_law_lord_for" "_law_lord_for" sLf f fd)(ml:mg "len"=none)(G1:aL P w K mg base bL 2 g1 d1 A5d Ky)(M1:Ms K mg "_law_bound_to" g1 d1 A5d):aL P w K mg base bL 3 f fd A5o (a2k K):=by
 refine F.ok scLf 0x1 0x3;obtain⟨q,es,ks,me,ms,m,n,rfl,ap,bk,W,hl,hme,hml,hm,k⟩:=h;refine⟨_,(aq (zF (i:=4) rfl a3M (fu (aX pW (aX pW (aX a0E (bG G1 hr rfl M1.m M1.k M1.b .nil bC (aj 0x32 0x65)) aA) 0xF) (cL (aj aM aC)))) (fun s H fp C'=>⟨bB (i:=0) a3N rfl 0x8,kE (aU nU 0x32 0xF 0x61),pv 0⟩) scLf.nd rfl 0x8)
  (aG (aZ (aN bD (pv 4) (aX bV 0x52 (bH cY rfl ml A1G (aj (pv 4) aC))) 0x2)))),?_⟩
 refine⟨_,rfl,_,rfl,q,es,ks,m,rfl,ap,bk,W,hl,fun r1 ss H1 s1 hr1 hr1' hss hbm=>?_⟩;refine⟨r1,3,_,rfl,rfl,hr1',by decide,by decide,(by rw[cM];exact small (by show ss.length*3<=_;lia)),fun r2 hr2=>?_⟩
 have er:(List.replicate (3:Int).toNat (ss.map V.str)).flatten=(ss++ss++ss).map V.str:=by
  show(List.replicate 3 (ss.map V.str)).flatten=_
  simp[List.replicate]
 rw[er];have s2:=s1.trans (aK hr2 (.lst ((ss++ss++ss).map V.str)));have k2:(upd H1 r2 (.lst ((ss++ss++ss).map V.str))) r2=some (.lst ((ss++ss++ss).map V.str)):=ao;generalize upd H1 r2 (.lst ((ss++ss++ss).map V.str))=H2 at s2 k2 ⊢;have l3:(ss++ss++ss).length<=200:=by simp;lia
 have m3:∀z∈ss++ss++ss,∃e∈es,e.man=z:=fun z hz=>by
  have hz:z∈ss:=by
   rcases A0l.mp hz with h|h
   ·rcases A0l.mp h with h|h<;>exact h
   ·exact h
  obtain⟨y,_,_,_,z',hz',_,h4⟩:=(hbm z).mp hz;exact⟨z',hz',h4⟩
 generalize ss++ss++ss=FZ at k2 l3 m3;refine⟨_,rfl,r2,me,_,_,rfl,rfl,k2,s2 _ _ hme,(by rw[cM,cM];exact small 0x4),fun r3 Sq=>?_⟩;have e3:FZ.map V.str++ms.map V.str=(FZ++ms).map V.str:=by rw[j9]
 rw[e3];have s3:=s2.trans (aK Sq (.lst ((FZ++ms).map V.str)));have k3:(upd H2 r3 (.lst ((FZ++ms).map V.str))) r3=some (.lst ((FZ++ms).map V.str)):=ao;generalize upd H2 r3 (.lst ((FZ++ms).map V.str))=H3 at s3 k3 ⊢;refine⟨small 0xA,fun r4 DK=>?_⟩;have s4:=aK DK (.lst [.str ""]);refine⟨r3,r4,_,_,rfl,rfl,s4 _ _ k3,ao,(by rw[cM,iD,A0t];exact small 0x4),fun r5 Px=>?_⟩;have e5:(FZ++ms).map V.str++[V.str ""]=(FZ++ms++[("":Str)]).map V.str:=by rw[j9 (l₂:=[("":Str)])];rfl
 rw[e5];have s5:=(s3.trans s4).trans (aK Px (.lst ((FZ++ms++[("":Str)]).map V.str)));have k5:(upd (upd H3 r4 (.lst [.str ""])) r5 (.lst ((FZ++ms++[("":Str)]).map V.str))) r5=some (.lst ((FZ++ms++[("":Str)]).map V.str)):=ao;generalize upd (upd H3 r4 (.lst [.str ""])) r5 (.lst ((FZ++ms++[("":Str)]).map V.str))=H5 at s5 k5 ⊢;have l5:(FZ++ms++[("":Str)]).length<=300:=by simp;lia
 have in5:("":Str)∈FZ++ms++[("":Str)]:=A0G _ (A0b.mpr rfl);have m5:∀z∈FZ++ms++[("":Str)],z=""\/z∈ms\/∃e∈es,e.man=z:=fun z hz=>by
  rcases A0l.mp hz with h|h
  ·rcases A0l.mp h with h|h
   ·exact .inr (.inr (m3 z h))
   ·exact .inr (.inl h)
  ·exact .inl (A0b.mp h)
 generalize FZ++ms++[("":Str)]=xs at k5 l5 in5 m5;refine⟨r5,rfl,⟨_,bY.of k5⟩,fun D hD=>pA (xs:=xs) (fun x=>!decide (x=m)) V.str (bY.of k5) hD 0x4 (fun x Hz A B hx sz hAB=>?_) (fun Hz sz mU=>?_)⟩
 ·have hAB:=hAB _ 0x6D;refine⟨Kp.set rfl (Kp.refl _),_,rfl,_,rfl,rfl,_,rfl,?_⟩;rw[gZ];refine iu 0x3C 0x3C
  ·rw[A0i c]at hAB;exact⟨_,rfl,hAB⟩
  ·rw[A0f c]at hAB;exact hAB
 ·have hin:("":Str)∈xs.filter fun x=>!decide (x=m):=A0w.mpr ⟨in5,by rw[A0p (A0m hm)];rfl⟩;have hpos:0<(xs.filter fun x=>!decide (x=m)).length:=A3M hin;have Vz:∀z∈xs.filter (fun x=>!decide (x=m)),z∈xs:=fun z hz=>(A0w.mp hz).1;generalize(xs.filter fun x=>!decide (x=m))=zs at mU hpos Vz;refine⟨_,rfl,_,rfl,_,rfl,D,_,rfl,.inl (bY.of mU),_,_,rfl,rfl,(by rw[cM];show(0:Int)<((zs.length:Nat):Int);lia),?_⟩
  have p0:=A1a n (show((0x8D).length:Int)≠0 by rw[cM];lia)
  have p1:=A0P n (show(0:Int)<((0x8D).length:Int) by rw[cM];lia)
  obtain⟨v,hv,hvm⟩:=lq (xs:=zs.map V.str) p0 p1;obtain⟨z,hzm,rfl⟩:=A0e.mp hvm;exact⟨D,_,_,_,rfl,rfl,bY.of mU,hv,k z Hz (s5.trans sz) (m5 z (Vz z hzm))⟩
end M
namespace L2
open PySem PySem.Spec PyProof.Rows PySem.W
def xr(h:X.K=K:=by rfl):lK X (compareOp .NotIn) (rIn K true):=h▸ mH
def VB:bootBuiltins "min"=some (.builtin "min"):=by decide+kernel
def grab{a b:TS}(Pv:St->Hp->Prop)(h2:∀σ' H',Pv σ' H'->b D σ' H')(h1:(∀σ' H',Pv σ' H'->b D σ' H')->a {D with nx:=fun σ' H'=>b D σ' H'} σ H):Gb a b D σ H:=h1 h2
end L2
namespace M
open PySem L2 PyProof.Rows
abbrev VD:Stmt:=top 70
def YQ(h:Int)(l:List Int):inV (V.int h) (l.map V.int)=decide (h∈l):=by
 unfold inV
 induction l with
 |nil=>rfl
 | cons x r ih=>
  rw[A0h,A2k,ih]
  show((x==h)||decide (h∈r))=_
  rw[A1h,Bool.or_eq_true,A1l,A1l,A0d,A2P]
  constructor
  ·rintro(e|e)
   ·exact .inl e.symm
   ·exact .inr e
  ·rintro(e|e)
   ·exact .inl e.symm
   ·exact .inr e
def a2l{h:Int}(l:List Int){A:Prop}(h1:h∈l->A)(h2:h∉l->B):if(if(false:Bool)=true then !inV (V.int h) (l.map V.int)else inV (V.int h) (l.map V.int))=true then A else B:=by
 rw[A0f A0r,YQ];exact iu (fun c=>h1 (qg c)) fun c=>h2 fun z=>c (A0k z)
def eq_int{h l:Int}{A:Prop}(h1:h=l->A)(h2:h≠l->B):if decide (V.int h=V.int l)=true then A else B:=by
 refine iu (fun c=>h1 ?_) fun c=>h2 fun z=>c (A0k (by rw[z]));have:=qg c;injection this
def eq_str{h:Str}{A:Prop}(h1:h=l->A)(h2:h≠l->B):if decide (V.str h=V.str l)=true then A else B:=by
 refine iu (fun c=>h1 ?_) fun c=>h2 fun z=>c (A0k (by rw[z]));have:=qg c;injection this
def Ji{i:Int}(h0:0<=i)(h1:i<zs.length):∃z,xT 0x8D i=some (V.str z)/\z∈zs:=by
 obtain⟨v,hv,hm⟩:=lq (xs:=zs.map V.str) h0 (by rw[cM];exact h1);obtain⟨z,hz,rfl⟩:=A0e.mp hm;exact⟨z,hv,hz⟩
def uD(d:Int)(h:0<zs.length):∃z,xT 0x8D (d%((0x8D).length:Int))=some (V.str z)/\z∈zs:=by
 rw[cM];exact Ji (A1a _ 0x4) (A0P _ 0x4)
def YS{f:aQ->V}(es:List aQ):(0x53).map (fun x=>kV x.1)=(0x68).map V.str:=by rw[A0T,A0T];rfl
inductive VF(K:W.Frag)(vs:List V)(H:Hp)(Q:VK)(cH:XK):Prop
 |mk(q:Ad)(es:List aQ)(ks:List Str)(p d m la:Addr)(ms ls:List Str)(wd dy:Int)(ds:List Int)(_:vs=[.ref q.B,.ref p,.ref d,.int dy])(_:Ap q)(_:Bk q H es ks)(_:WF es)(_:Mn es)(_:es.length<64)(_:P0 H p m la ms ls wd)(_:bY K H d (ds.map V.int))(_:ds.length=8)(_:(∀v∈ds,Ca v))(_:∀r(cN:Ro)H',Same H H'->H' r=some (.tup (Ro.vs dy cN))->cN.Ok ls->cN.Tx->Q 0x60 H'):VF K vs H Q cH
def jV:aP A5f A5n (aJ VD):=0x0
def a3P:Scope:={kind:=.function,names:=[(".0",.local),("_law_one",.local),("_law_book_here",.free)],isGenerator:=false,isCoroutine:=false}
def a3Q:iw A5f (aJ VD) a3P ["_law_one"] ["_law_book_here"] [0]:=0xE
def a3R:((["_law_one"]:List Str)++(["_law_book_here"]:List Str)).Nodup:=by decide+kernel
def a3S:Scope:={kind:=.function,names:=[(".0",.local),("_law_one",.local),("_law_man",.free)],isGenerator:=false,isCoroutine:=false}
def a3T:iw A5f (aJ VD) a3S ["_law_one"] ["_law_man"] [8]:=0xE
def a3U:((["_law_one"]:List Str)++(["_law_man"]:List Str)).Nodup:=by decide+kernel
def a2m(F:fj K "_law_row" "_law_row" VD f fd)(ms:mg "sorted"=none)(mli:mg "list"=none)(mn:mg "len"=none)(mmax:mg "max"=none)(a2n:mg "min"=none)(G1:aL P w K mg base bL 3 g1 d1 A5o (a2k K))(M1:Ms K mg "_law_lord_for" g1 d1 A5o):aL P w K mg base bL 4 f fd A5n (VF K):=by
 refine F.ok jV 0x1 0x3;obtain⟨q,es,ks,p,d,m,la,mz,ls,wd,dy,ds,rfl,ap,bk,W,MN,hl,pl,hS,hdl,hdo,k⟩:=h;refine⟨_,(aq (aV (i:=4) jV.nd rfl 0x8 0x1A)
  (aq (aV (i:=5) jV.nd rfl 0x8 0x1A)
  (aq (aV (i:=6) jV.nd rfl 0x8 (bH iM rfl ms jM (aj (fV (Hs hr.hd) rfl mli qC (aj 0x1B aC)) aC)))
  (aq (aV (i:=7) jV.nd rfl 0x8 (aN bD (pv 6) (aX bV 0x31 (bH cY rfl mn A1G (aj (pv 6) aC))) 0x2))
  (aq (aV (i:=8) jV.nd rfl (Or.inr rfl) (aN bD (pv 4) (aX bV 0x31 (bH cY rfl mn A1G (aj (pv 4) aC))) 0x2))
  (aq (zF (i:=9) rfl a3Q (fu (pv 5)) (fun s H fp C'=>⟨bB (i:=0) a3R rfl 0x8,kE (aU (xr (K:=K)) 0x32 (bA 0x17 0xF aM 0x2) 0x12),0x32⟩) jV.nd rfl 0x8)
  (aq (aV (i:=10) jV.nd rfl 0x8 (aN bD (aX pW (pv 9) (pv 5)) (aX bV 0x31 (bH (xH rfl) rfl mmax QS (aj aA (aj (bH cY rfl mn A1G (aj (pv 9) aC)) aC)))) 0x2))
  (aq (bK (aU Qk (aX bV 0x31 aA) aA 0x61) (aq (aV (i:=10) jV.nd rfl 0x8 (aN bD (pv 5) (aX bV 0x31 (bH cY rfl mn A1G (aj (pv 5) aC))) 0x2))
  (aG (aV (i:=7) jV.nd rfl 0x8 (aN bD (aX pW (cL (aj aM aC)) (pv 5)) (aX bV 0x31 aA) 0x2)))) aR)
  (aq (aV (i:=11) jV.nd rfl 0x8 (Ri 0x17 0x1B (pv 7) aA ⟨rfl,rfl,rfl,rfl⟩))
  (aq (aV (i:=12) jV.nd rfl 0x8 (aX dY aA (aX bV 0x31 (bH (xH rfl) rfl mmax QS (aj aA (aj (pv 11) aC))))))
  (aq (bK (aU fJ (aX bV 0x31 aA) aA 0x61) (aG (aV (i:=12) jV.nd rfl 0x8 (bH (xJ rfl) rfl a2n VB (aj aA (aj (aX dY (aX dY (pv 11) aA) (aX bV 0x31 aA)) aC))))) aR)
  (aq (aV (i:=13) jV.nd rfl 0x8 (aX bV 0x31 aA))
  (aq (bK (PW.pt (xG (aU ql (pv 13) aA 0x61) (rH (PW.pt (lA (aU fJ (pv 7) aM 0x61) (ji (aU iz (pv 13) (cu (aj aA (aj aA (aj aA (aj aA (aj aA aC)))))) 0x12))))))) (aG (aZ (cu (aj aM (aj 0x52 (aj (pv 7) (aj (pv 10) (aj (pv 8) (aj (pv 12) (aj (aN bD (cL (aj aA (aj aA (aj (aX bV 0x31 aA) (aj (aX nR aA (aX bV 0x31 aA)) aC))))) (aX bV 0x31 aA) 0x2) aC)))))))))) aR)
  (aq (bK (PW.pt (xG (aU fJ (pv 13) aA 0x61) (rH (aU fJ (pv 13) aA 0x61)))) (aG (aZ (cu (aj aM (aj 0x52 (aj (pv 7) (aj (pv 10) (aj (pv 8) (aj (pv 12) aC))))))))) aR)
  (aq (bK (aU ql (pv 13) aA 0x61) (aG (aZ (cu (aj aM (aj 0x52 (aj (pv 7) (aj (pv 8) aC))))))) aR)
  (aq (bK (PW.pt (xG (aU fJ (pv 13) aA 0x61) (rH (aU fJ (pv 13) aA 0x61)))) (aq (zF (i:=14) rfl a3T (fu (pv 4)) (fun s H fp C'=>⟨bB (i:=0) a3U rfl 0x8,kE (aU nU 0x32 0xF 0x61),0x32⟩) jV.nd rfl 0x8)
  (aG (aZ (cu (aj aM (aj 0x52 (aj (pv 8) (aj (aN bD (pv 14) (aX bV 0x31 (bH cY rfl mn A1G (aj (pv 14) aC))) 0x2) aC)))))))) aR)
  (aq (bK (aU fJ (pv 13) aA 0x61) (aG (aZ (cu (aj aM (aj 0x52 (aj (pv 8) (aj (bG G1 hr rfl M1.m M1.k M1.b .nil bC (aj 0x32 (aj (pv 4) (aj (pv 8) (aj 0x31 aC))))) aC))))))) aR)
  (aq (bK (aU fJ (pv 13) aA 0x61) (aG (aZ (cu (aj aM (aj 0x52 (aj (pv 7) aC)))))) aR)
  (aG (aZ (cu (aj aM (aj 0x52 (aj (pv 8) aC)))))))))))))))))))))))),?_⟩
 obtain⟨d0,e0,o0a,o0b⟩:=gY hdo (i:=0) 0x5 0x4;obtain⟨d1,e1,o1a,o1b⟩:=gY hdo (i:=1) 0x5 0x4;obtain⟨d2,e2,o2a,o2b⟩:=gY hdo (i:=2) 0x5 0x4;obtain⟨d3,e3,o3a,o3b⟩:=gY hdo (i:=3) 0x5 0x4;obtain⟨d4,e4,o4a,o4b⟩:=gY hdo (i:=4) 0x5 0x4;obtain⟨d5,e5,o5a,o5b⟩:=gY hdo (i:=5) 0x5 0x4;obtain⟨d6,e6,o6a,o6b⟩:=gY hdo (i:=6) 0x5 0x4;obtain⟨d7,e7,o7a,o7b⟩:=gY hdo (i:=7) 0x5 0x4;have lm:=pl.lm;have ll:=pl.ll;have npos:0<es.length:=by
  obtain⟨c,r,e,_⟩:=W.hd;rw[e];simp
 refine⟨_,rfl,p,_,_,_,rfl,rfl,bN.of pl.r,aH (j:=0) rfl,?_⟩;refine⟨_,rfl,p,_,_,_,rfl,rfl,bN.of pl.r,aH (j:=1) rfl,?_⟩;refine⟨_,rfl,q.B,_,rfl,bk.gl,q.l,_,rfl,bk.l,fun t1 ht1=>?_⟩;rw[YS];have s1:=aK ht1 (.lst ((0x68).map V.str));refine⟨t1,nms es,rfl,bY.of ao,by rw[cM];exact hl,fun th ts hth hpt _=>?_⟩;have s2:=s1.trans (aK hth (.lst (ts.map V.str)));have k2:(upd (upd H t1 (.lst ((0x68).map V.str))) th (.lst (ts.map V.str))) th=some (.lst (ts.map V.str)):=ao;generalize upd (upd H t1 (.lst ((0x68).map V.str))) th (.lst (ts.map V.str))=H2 at s2 k2 ⊢;have tl:ts.length=es.length:=by rw[hpt.length_eq,cM]
 have S2:=s2.seq hS;obtain⟨est0,he0,hem0⟩:=uD (zs:=ts) d1 0x4;refine⟨_,rfl,_,rfl,d,_,_,_,rfl,rfl,S2,e1,_,rfl,th,_,rfl,.inl (bY.of k2),_,_,rfl,rfl,(by rw[cM];show(0:Int)<((ts.length:Nat):Int);lia),th,_,_,_,rfl,rfl,bY.of k2,he0,?_⟩
 have km2:=s2 _ _ pl.m;have kl2:=s2 _ _ pl.la;obtain⟨man,hm0,hmm⟩:=uD (zs:=mz) d2 0x4;refine⟨_,rfl,_,rfl,d,_,_,_,rfl,rfl,S2,e2,_,rfl,m,_,rfl,.inl (bY.of km2),_,_,rfl,rfl,(by rw[cM];show(0:Int)<((mz.length:Nat):Int);lia),m,_,_,_,rfl,rfl,bY.of km2,hm0,?_⟩
 have YT:man≠"":=((pl.om man hmm).ne).1;refine⟨_,rfl,la,rfl,⟨_,bY.of kl2⟩,fun D hD=>pA (xs:=ls) (fun x=>!decide (x∈ks)) V.str (bY.of kl2) hD 0x4 (fun x Hz A B hx sz hAB=>?_) (fun Hz sz mU=>?_)⟩
 ·have hAB:=hAB _ 0x6D;have bz:=bk.same (s2.trans sz);refine⟨Kp.set rfl (Kp.refl _),_,rfl,_,rfl,q.B,_,rfl,bz.gk,q.kn,_,rfl,.inl (bY.of bz.k),rfl,iC _,_,rfl,?_⟩
  show if(!inV (V.str x) (ks.map V.str))=true then _ else _
  rw[pD];refine iu 0x3C 0x3C
  ·rw[A0i c]at hAB;exact⟨_,rfl,hAB⟩
  ·rw[A0f c]at hAB;exact hAB
 have fsub:∀z∈ls.filter (fun x=>!decide (x∈ks)),z∈ls:=fun z hz=>(A0w.mp hz).1;have fle:(ls.filter fun x=>!decide (x∈ks)).length<=9:=by have:=A0N (fun x=>!decide (x∈ks)) ls;lia
 generalize(ls.filter fun x=>!decide (x∈ks))=fr at mU fsub fle;have s3:=s2.trans sz;have S3:=s3.seq hS;have kl3:=sz _ _ kl2;refine⟨_,rfl,_,rfl,D,la,_,_,rfl,rfl,mU,kl3,(by rw[cM,cM];exact small 0x4),fun c1 hc1=>?_⟩;have e1':fr.map V.str++ls.map V.str=(fr++ls).map V.str:=by rw[j9]
 rw[e1'];have s4:=s3.trans (aK hc1 (.lst ((fr++ls).map V.str)));have k4:(upd Hz c1 (.lst ((fr++ls).map V.str))) c1=some (.lst ((fr++ls).map V.str)):=ao;have kD4:=(aK hc1 (.lst ((fr++ls).map V.str))) _ _ mU;have kl4:=(aK hc1 (.lst ((fr++ls).map V.str))) _ _ kl3;generalize upd Hz c1 (.lst ((fr++ls).map V.str))=H4 at s4 k4 kD4 kl4 ⊢;have S4:=s4.seq hS;have mxp:(0:Int)<(if((fr.map V.str).length:Int)>1 then((fr.map V.str).length:Int)else 1):=by split<;>lia
 have mxl:(if((fr.map V.str).length:Int)>1 then((fr.map V.str).length:Int)else 1)<=((fr++ls).length:Int):=by
  rw[cM,iD]
  split<;>lia
 obtain⟨nw0,hn0,hnm⟩:=Ji (zs:=fr++ls) (i:=d3%(if((fr.map V.str).length:Int)>1 then((fr.map V.str).length:Int)else 1)) (A1a _ 0x4) (by have:=A0P d3 mxp;lia)
 have hnw0:nw0∈ls:=by
  rcases A0l.mp hnm with z|z
  ·exact fsub _ z
  ·exact z
 refine⟨_,rfl,d,_,_,_,rfl,rfl,S4,e3,_,rfl,D,_,rfl,.inl (bY.of kD4),_,_,rfl,_,_,rfl,rfl,mxp,c1,_,_,_,rfl,rfl,bY.of k4,hn0,?_⟩;dsimp only[qj];refine grab (a:=Mr _ _ _) (fun σ' Hx=>∃est nw,σ'=[some (.ref q.B),some 0x46,some (.ref d),some (.int dy),some (.ref m),some (.ref la),some (.ref th),some (.str est),some (.str man),some 0x4F,some (.str nw),none,none,none,none]/\Same H Hx/\nw∈ls/\PyData.strOk est=true) (fun σ' Hx hp=>?_) (fun go=>?_)
 rotate_left
 ·refine⟨_,rfl,d,_,_,_,rfl,rfl,S4,e7,_,_,rfl,rfl,(by show(0:Int)<12;decide),_,_,rfl,rfl,_,rfl,?_⟩
  refine iu (fun _=>?_) (fun _=>?_)
  ·obtain⟨nw1,hn1,hnm1⟩:=uD (zs:=ls) d3 0x4;refine⟨_,rfl,_,rfl,d,_,_,_,rfl,rfl,S4,e3,_,rfl,la,_,rfl,.inl (bY.of kl4),_,_,rfl,rfl,(by rw[cM];show(0:Int)<((ls.length:Nat):Int);lia),la,_,_,_,rfl,rfl,bY.of kl4,hn1,?_⟩
   refine⟨small 0xA,fun c2 hc2=>?_⟩;have sc2:=aK hc2 (.lst [.str ""]);refine⟨_,rfl,c2,la,_,_,rfl,rfl,ao,sc2 _ _ kl4,(by rw[cM,A0t];exact small 0x4),fun c3 hc3=>?_⟩;have e3':[V.str ""]++ls.map V.str=(("":Str)::ls).map V.str:=rfl;rw[e3'];have sc3:=sc2.trans (aK hc3 (.lst ((("":Str)::ls).map V.str)));have k5:(upd (upd H4 c2 (.lst [.str ""])) c3 (.lst ((("":Str)::ls).map V.str))) c3=some (.lst ((("":Str)::ls).map V.str)):=ao
   change(fun σ' H'=>_) _ _
   obtain⟨est1,he1,hem1⟩:=Ji (zs:=("":Str)::ls) (i:=d1%10) 0x4 (by rw[wO];lia);refine⟨_,rfl,d,_,_,_,rfl,rfl,(sc3.seq S4),e1,_,_,rfl,rfl,(by show(0:Int)<10;decide),c3,_,_,_,rfl,rfl,bY.of k5,he1,?_⟩
   exact go _ _ ⟨est1,nw1,rfl,s4.trans sc3,hnm1,(A0d.mp hem1).elim (fun z=>by rw[z];decide+kernel) fun z=>((pl.ol est1 z).ne).2⟩
  ·exact go _ _ ⟨est0,nw0,rfl,s4,hnw0,by obtain⟨y0,hy0,e0⟩:=dF (hpt.mem_iff.mp hem0);rw[<-e0];exact W.ok y0 hy0⟩
 obtain⟨est,nw,rfl,sx,hnw,hes⟩:=hp;have hns:=((pl.ol nw hnw).ne).2;have hms:=((pl.om man hmm).ne).2;have bx:=bk.same sx;have Sx:=sx.seq hS;obtain⟨wv,hwv,w0,w1⟩:∃wv:Int,(bJ (lV es) (.inr est)).getD (.int 0)=.int wv/\0<=wv/\wv<=9999:=by
  by_cases c:est∈nms es
  ·obtain⟨y,hy,rfl⟩:=dF c;rw[dg W.nd hy];have b1:=W.bnd y hy;have b2:=W.vH y hy;exact⟨y.own,rfl,by lia,by lia⟩
  ·rw[qP c];exact⟨0,rfl,by lia,by lia⟩
 refine⟨_,rfl,q.B,_,rfl,bx.go,q.o,rfl,isD bx.o,_,rfl,_,dj.k (k:=.inr est) bx.o,?_⟩;rw[hwv];have mw:(0:Int)<(if wv>1 then wv else 1):=by split<;>lia
 have mw2:(if wv>1 then wv else 1)<=9999:=by split<;>lia
 have q40:=A1a d4 (A4h mw);have q41:=A0P d4 mw;refine⟨_,rfl,d,_,_,_,rfl,rfl,Sx,e4,_,rfl,_,_,rfl,_,_,rfl,rfl,mw,_,_,rfl,rfl,?_⟩;generalize d4%(if wv>1 then wv else 1)=q4 at q40 q41 ⊢
 dsimp only[qj];refine grab (a:=Mr _ _ _) (fun σ' Hy=>∃many:Int,σ'=[some (.ref q.B),some 0x46,some (.ref d),some (.int dy),some (.ref m),some (.ref la),some (.ref th),some (.str est),some (.str man),some 0x4F,some (.str nw),some (.int wv),some (.int many),none,none]/\Hy=Hx/\1<=many/\many<=9999) (fun σ' Hy hp=>?_) (fun go=>?_)
 rotate_left
 ·refine⟨_,rfl,d,_,_,_,rfl,rfl,Sx,e7,_,_,rfl,rfl,(by show(0:Int)<12;decide),rfl,_,rfl,eq_int (fun _=>?_) (fun _=>?_)⟩
  ·refine⟨_,rfl,_,_,rfl,rfl,_,rfl,d,_,_,_,rfl,rfl,Sx,e4,_,_,rfl,rfl,(by show(0:Int)<2;decide),_,_,rfl,rfl,_,_,rfl,go _ _ ⟨_,rfl,rfl,?_,?_⟩⟩
   ·split<;>lia
   ·split<;>lia
  ·exact go _ _ ⟨_,rfl,rfl,by lia,by lia⟩
 obtain⟨many,rfl,rfl,mn1,mn2⟩:=hp;refine⟨_,rfl,d,_,_,_,rfl,rfl,Sx,e0,_,_,rfl,rfl,(by show(0:Int)<13;decide),?_⟩
 dsimp only[qj];have y0:=A1a d0 (show(13:Int)≠0 by decide)
 have y1:=A0P d0 (show(0:Int)<13 by decide)
 generalize d0%13=way at y0 y1 ⊢;obtain⟨sr,hsr,hsm⟩:=lq (xs:=[V.int 0,.int 1,.int (d5%30),.int (9999-d5%9)]) (i:=d6%4) 0x4 (by simp;lia);obtain⟨sr,rfl,sr0,sr1⟩:∃z:Int,sr=.int z/\0<=z/\z<=9999:=by
  simp only[A0d,A0s,A1d]at hsm;rcases hsm with rfl|rfl|rfl|rfl
  ·exact⟨_,rfl,by lia,by lia⟩
  ·exact⟨_,rfl,by lia,by lia⟩
  ·exact⟨_,rfl,by lia,by lia⟩
  ·exact⟨_,rfl,by lia,by lia⟩
 refine grab (a:=Mr _ _ _) (fun σ' Hw=>σ'=[some (.ref q.B),some 0x46,some (.ref d),some (.int dy),some (.ref m),some (.ref la),some (.ref th),some (.str est),some (.str man),some 0x4F,some (.str nw),some (.int wv),some (.int many),some (.int way),none]/\Same H Hw/\4<=way/\(est=""->way∉[(4:Int),5,6,9,12])) (fun σ' Hw hp=>?_) (fun go=>?_)
 rotate_left
 ·have fin:∀{Hw:Hp},Same H Hw->∀r,Hw r=none->Q 0x60 (upd Hw r (.tup [.str "grant",.int dy,.str est,.str nw,.str man,.int many,.int sr])):=fun{Hw}sw r hr0=>k r (.land (.grant est nw man many sr)) _ (bU sw (sw.free hr0)) ao ⟨hnw,mn1,mn2,sr0,sr1⟩ ⟨hes,hns,hms⟩;refine⟨_,rfl,_,_,rfl,rfl,_,rfl,iu (fun _=>?_) (fun c4=>?_)⟩
  ·refine cW ⟨_,rfl,_,rfl,_,rfl,_,rfl,_,rfl,_,rfl,d,_,_,_,rfl,rfl,Sx,e5,_,_,rfl,rfl,(by show(0:Int)<30;decide),_,rfl,d,_,_,_,rfl,rfl,Sx,e5,_,_,rfl,rfl,(by show(0:Int)<9;decide),_,_,rfl,rfl,small 0xA,fun c hc=>?_⟩
   have sc:=aK hc (.lst [.int 0,.int 1,.int (d5%30),.int (9999-d5%9)]);refine⟨_,rfl,d,_,_,_,rfl,rfl,(sc.seq Sx),e6,_,_,rfl,rfl,(by show(0:Int)<4;decide),c,_,_,_,rfl,rfl,bY.of ao,hsr,small 0xA,fun r hr0=>?_⟩
   exact fin (sx.trans sc) r hr0
  ·have c4':4<=way:=by simpa using c4
   refine⟨_,rfl,rfl,_,rfl,eq_str (fun he=>?_) (fun he=>?_)⟩
   ·refine⟨_,rfl,small 0xA,fun c hc=>⟨c,_,rfl,.inr 0x75,rfl,rfl,_,rfl,a2l [4,5,6,9,12] (fun hin=>?_) (fun hin=>?_)⟩⟩
    ·have sc0:=aK hc (.tup [.int 4,.int 5,.int 6,.int 9,.int 12]);have Sx2:=sc0.seq Sx;refine⟨_,rfl,_,rfl,_,rfl,_,rfl,_,rfl,_,rfl,d,_,_,_,rfl,rfl,Sx2,e5,_,_,rfl,rfl,(by show(0:Int)<30;decide),_,rfl,d,_,_,_,rfl,rfl,Sx2,e5,_,_,rfl,rfl,(by show(0:Int)<9;decide),_,_,rfl,rfl,small 0xA,fun c' hc'=>?_⟩
     have sc:=aK hc' (.lst [.int 0,.int 1,.int (d5%30),.int (9999-d5%9)]);refine⟨_,rfl,d,_,_,_,rfl,rfl,(sc.seq Sx2),e6,_,_,rfl,rfl,(by show(0:Int)<4;decide),c',_,_,_,rfl,rfl,bY.of ao,hsr,small 0xA,fun r hr0=>?_⟩
     exact fin ((sx.trans sc0).trans sc) r hr0
    ·exact go _ _ ⟨rfl,sx.trans (aK hc _),c4',fun _=>hin⟩
   ·refine cg ?_;exact go _ _ ⟨rfl,sx,c4',fun z=>absurd z he⟩
 obtain⟨rfl,sw,c4,hcr⟩:=hp;have Sw:=sw.seq hS;have bw:=bk.same sw;have plw:=pl.same sw;have part:way∈[(4:Int),5,6,9,12]->est≠"":=fun h1 h2=>hcr h2 h1;have a0d:way∈[(4:Int),12]->∀r,Hw r=none->Q 0x60 (upd Hw r (.tup [.str "part",.int dy,.str est,.str nw,.str man,.int many])):=fun h r hr0=>k r (.land (.part est nw man many)) _ (bU sw (sw.free hr0)) ao ⟨hnw,mn1,mn2,part (by simp only[A0d,A0s,A1d]at h ⊢;lia)⟩ ⟨hes,hns,hms⟩;refine⟨_,rfl,rfl,_,rfl,eq_int (fun hy=>cW ⟨_,rfl,_,rfl,_,rfl,_,rfl,_,rfl,small 0xA,fun r hr0=>a0d (by rw[hy];simp) r hr0⟩) (fun n4=>?_)⟩;refine⟨_,rfl,rfl,_,rfl,eq_int (fun hy=>⟨_,rfl,_,rfl,_,rfl,_,rfl,_,rfl,small 0xA,fun r hr0=>a0d (by rw[hy];simp) r hr0⟩) (fun n12=>?_)⟩;refine⟨_,rfl,_,_,rfl,rfl,_,rfl,iu (fun c7=>?_) (fun c7=>?_)⟩
 ·have c7':way<7:=by simpa using c7
  refine⟨_,rfl,_,rfl,_,rfl,small 0xA,fun r hr0=>?_⟩;exact k r (.land (.convey est man)) _ (bU sw (sw.free hr0)) ao (part (by simp only[A0d,A0s,A1d];lia)) ⟨hes,hms⟩
 have c7':¬way<7:=by simpa using c7
 have a3V:∃other,other∈mz/\other≠man:=by
  have h2:∃a b r,mz=a::b::r:=by
   match mz,lm with
   |a::b::r,_=>exact⟨a,b,r,rfl⟩
  obtain⟨a,b,r,rfl⟩:=h2;have hab:a≠b:=fun z=>(A0L.mp pl.nm).1 (by rw[z];exact A0o)
  by_cases c:a=man
  ·exact⟨b,by simp,fun z=>hab (c.trans z.symm)⟩
  ·exact⟨a,by simp,c⟩
 refine⟨_,rfl,rfl,_,rfl,eq_int (fun hy=>cW ?w7) (fun n7=>⟨_,rfl,rfl,_,rfl,eq_int (fun hy=>?w11) (fun n11=>?_)⟩)⟩
 case w7|w11=>
  refine⟨_,rfl,m,rfl,⟨_,bY.of plw.m⟩,fun D2 hD2=>pA (xs:=mz) (fun x=>!decide (x=man)) V.str (bY.of plw.m) hD2 0x4 (fun x Hz2 A B hx sz2 hAB=>?_) (fun Hz2 sz2 a2o=>?_)⟩
  ·have hAB:=hAB _ 0x6D;refine⟨Kp.set rfl (Kp.refl _),_,rfl,_,rfl,rfl,_,rfl,?_⟩;rw[gZ];refine iu 0x3C 0x3C
   ·rw[A0i c]at hAB;exact⟨_,rfl,hAB⟩
   ·rw[A0f c]at hAB;exact hAB
  ·obtain⟨ot,ho1,ho2⟩:=a3V;have hpos:0<(mz.filter fun x=>!decide (x=man)).length:=A3M (A0w.mpr ⟨ho1,by rw[A0p ho2];rfl⟩);have Vz:∀z∈mz.filter (fun x=>!decide (x=man)),z∈mz:=fun z hz=>(A0w.mp hz).1;generalize(mz.filter fun x=>!decide (x=man))=zs at a2o hpos Vz;obtain⟨oth,hoa,hob⟩:=uD (zs:=zs) d3 0x4;have swz:=sw.trans sz2;refine⟨_,rfl,_,rfl,_,rfl,_,rfl,d,_,_,_,rfl,rfl,(swz.seq hS),e3,_,rfl,D2,_,rfl,.inl (bY.of a2o),_,_,rfl,rfl,(by rw[cM];show(0:Int)<((zs.length:Nat):Int);lia),D2,_,_,_,rfl,rfl,bY.of a2o,hoa,small 0xA,fun r hr0=>?_⟩
   exact k r (.heir man oth) _ (bU swz (swz.free hr0)) ao YT ⟨hms,((pl.om oth (Vz oth hob)).ne).2⟩
 refine⟨_,rfl,rfl,_,rfl,eq_int (fun hy=>?_) (fun n8=>?_)⟩
 ·refine⟨_,rfl,_,rfl,_,rfl,_,rfl,_,rfl,_,rfl,d,_,_,_,rfl,rfl,Sw,e3,q,es,ks,m,mz,man,d3,rfl,ap,bw,W,hl,plw.m,by lia,YT,fun z H5 s5 hz=>⟨small 0xA,fun r hr0=>?_⟩⟩;have sz:=sw.trans s5;refine k r (.liege man z) _ (bU sz (sz.free hr0)) ao YT ⟨hms,?_⟩;rcases hz with e|e|⟨y,hy,e⟩
  ·rw[e];decide+kernel
  ·exact((pl.om z e).ne).2
  ·rw[<-e];exact MN y hy
 refine⟨_,rfl,rfl,_,rfl,eq_int (fun hy=>⟨_,rfl,_,rfl,small 0xA,fun r hr0=>?_⟩) (fun _=>?_)⟩
 ·exact k r (.land (.gq est)) _ (bU sw (sw.free hr0)) ao (part (by simp only[A0d,A0s,A1d];lia)) hes
 refine⟨_,rfl,_,rfl,small 0xA,fun r hr0=>?_⟩;exact k r (.death man) _ (bU sw (sw.free hr0)) ao YT hms
def LR(h:jg H as dat)(k:Same H H'):jg H' as dat:=⟨fun a ha=>⟨k a _ (h.1 a ha).1,(h.1 a ha).2⟩,h.2⟩
def YW{bs:List Addr}(h:jg H as dat)(p:bs.Perm as):jg H bs dat:=⟨fun a ha=>h.1 a (p.mem_iff.mp ha),((p.map dat).nodup_iff).mpr h.2⟩
def Jo.ok{W W':Wo}{ro:Ro}{w:Str}(h:Jo W dy ro w W'):PyData.strOk w=true:=by
 cases h<;>decide+kernel
def JL.ok{W0 W:Wo}{rs:List (Int×Ro)}(J:JL W0 rs ws W):∀w∈ws,PyData.strOk w=true:=by
 induction J with
 |nil=>intro w h;cases h
 | snoc J1 D ih=>
  intro w h;rcases A0l.mp h with h|h
  ·exact ih w h
  ·rw[A0b.mp h];exact D.ok
theorem Ma:∀{ds:List PyData},(∀d∈ds,d.canLay0=true)->PyData.canLayAll0 ds=true
 |[],_=>rfl
 |d::ds,h=>by rw[PyData.canLayAll0,h d A0o,Ma fun z hz=>h z (jK _ hz)];rfl
theorem Bs:∀{ds:List PyData},(∀d∈ds,d.depth<=n)->PyData.depthAll ds<=n
 |[],_=>A1j _
 | d::ds,h=>by
  rw[PyData.depthAll];have a:=h d A0o;have b:=Bs fun z hz=>h z (jK d hz);lia
def a2p(H:Hp)(dat:Addr->List V)(r:Addr):Prop:=H r=some (.tup (dat r))/\(dat r).all eZ=true/\(dat r).length<=1000
def jr.get(a:jr H jl ts pr ws){t:Addr}(h:ts[i]?=some t):∃r w,pr[i]?=some r/\ws[i]?=some w/\H t=some (.tup [.ref r,.str w]):=by
 have hi:=(A0j.mp h).1;have h1:pr[i]?=some pr[i]!:=by rw[a.lt]at hi;rw[A3U,lG hi];rfl
 have h2:ws[i]?=some ws[i]!:=by rw[a.lt,<-a.lw]at hi;rw[A3U,lG hi];rfl
 exact⟨_,_,h1,h2,a.at' i t _ _ h h1 h2⟩
def VG{o o':List Addr}(hr:∀a∈o,gH (dat a))(h:Ir dat o)(h':Ir dat o')(p:o.Perm o'):o=o':=by
 refine List.Perm.eq_of_pairwise (le:=fun a b=>fU (dat a) (dat b)=true) (fun a b ha hb h1 h2=>?_) h h' p;have:=Es (hr a ha) (hr b (p.mem_iff.mpr hb)) h1;rw[this]at h2;cases h2
def iW{ro:Ro}(tx:ro.Tx):(0x7A).all eZ=true/\(0x7A).length<=1000:=by
 cases ro with
 | land rr=>
  cases rr with
  |grant e n m a s=>exact⟨by simp[Ro.vs,Rw.vs,eZ];exact⟨by decide+kernel,tx.1,tx.2.1,tx.2.2⟩,by simp[Ro.vs,Rw.vs]⟩
  |part e n m a=>exact⟨by simp[Ro.vs,Rw.vs,eZ];exact⟨by decide+kernel,tx.1,tx.2.1,tx.2.2⟩,by simp[Ro.vs,Rw.vs]⟩
  |convey e m=>exact⟨by simp[Ro.vs,Rw.vs,eZ];exact⟨by decide+kernel,tx.1,tx.2⟩,by simp[Ro.vs,Rw.vs]⟩
  |gq e=>exact⟨by simp[Ro.vs,Rw.vs,eZ];exact⟨by decide+kernel,tx⟩,by simp[Ro.vs,Rw.vs]⟩
 |heir m h=>exact⟨by simp[Ro.vs,eZ];exact⟨by decide+kernel,tx.1,tx.2⟩,by simp[Ro.vs]⟩
 |liege m h=>exact⟨by simp[Ro.vs,eZ];exact⟨by decide+kernel,tx.1,tx.2⟩,by simp[Ro.vs]⟩
 |death m=>exact⟨by simp[Ro.vs,eZ];exact⟨by decide+kernel,tx⟩,by simp[Ro.vs]⟩
def VH{jW:Addr->Int}{nH:Addr->Ro}(h:H a=some (.tup (dat a)))(r:Fd dat jW nH ls a):a2p H dat a:=
 ⟨h,by rw[r.e];exact(iW r.tx).1,by rw[r.e];exact(iW r.tx).2⟩
def Bt{jW:Addr->Int}{nH:Addr->Ro}{all out out':List Addr}{ws':List Str}{W W':Wo}{t0 b0:Addr}(hr:∀a∈all,gH (dat a))(RW:∀a∈all,Fd dat jW nH ls a)(hls:∀n∈ls,n≠""/\PyData.strOk n=true)(w1:1<=wd)(w2:wd<=9999)
  (p:out.Perm all)(p':out'.Perm all)(u:Ir dat out)(u':Ir dat out')(J:JL (W0 (Ie wd t0)) (out.map fun a=>(jW a,nH a)) ws W)(J':JL (W0 (yV wd b b0)) (out'.map fun a=>(jW a,nH a)) ws' W'):out'=out/\ws'=ws/\AbW W W':=by
 have eo:out=out':=VG (fun a ha=>hr a (p.mem_iff.mp ha)) u u' (p.trans p'.symm);subst eo;have h0:AbW (W0 (Ie wd t0)) (W0 (yV wd b b0)):=⟨.cons ⟨rfl,rfl,rfl,rfl,rfl,rfl⟩ .nil,rfl,rfl,rfl,rfl⟩;have:=JL.det hls h0 (qZ (Vs wd b b0 ls w1 w2) rfl rfl rfl) J (fun r hr=>by
  obtain⟨a,ha,rfl⟩:=A0e.mp hr;exact⟨(RW a (p.mem_iff.mp ha)).ok,(RW a (p.mem_iff.mp ha)).tx⟩) J'
 exact⟨rfl,this.1.symm,this.2⟩
abbrev Jj:Stmt:=top 71
def mZ{l:List Io}(h:xs.map isI=l.map Io.num):Lp l xs:=fun i s v h1 h2=>by
 have a:(xs.map isI)[i]?=some (isI v):=by rw[pF,h2];rfl
 have b:(l.map Io.num)[i]?=some s.num:=by rw[pF,h1];rfl
 rw[h,b]at a;exact(A1b a).symm
def VJ{ro:Ro}(tx:ro.Tx):gH 0x7A:=by
 cases ro with
 | land rr=>
  cases rr with
  |grant e n m a s=>exact⟨"grant",dy,_,[.d,.c,.n,.n,.a,.s],rfl,by decide+kernel,rfl,mZ rfl,(iW (ro:=.land (.grant e n m a s)) tx).1⟩
  |part e n m a=>exact⟨"part",dy,_,[.d,.n,.n,.n,.a],rfl,by decide+kernel,rfl,mZ rfl,(iW (ro:=.land (.part e n m a)) tx).1⟩
  |convey e m=>exact⟨"convey",dy,_,[.d,.n,.n],rfl,by decide+kernel,rfl,mZ rfl,(iW (ro:=.land (.convey e m)) tx).1⟩
  |gq e=>exact⟨"surrender",dy,_,[.d,.n],rfl,by decide+kernel,rfl,mZ rfl,(iW (ro:=.land (.gq e)) tx).1⟩
 |heir m h=>exact⟨"heir",dy,_,[.d,.n,.n],rfl,by decide+kernel,rfl,mZ rfl,(iW (ro:=.heir m h) tx).1⟩
 |liege m h=>exact⟨"liege",dy,_,[.d,.n,.c],rfl,by decide+kernel,rfl,mZ rfl,(iW (ro:=.liege m h) tx).1⟩
 |death m=>exact⟨"death",dy,_,[.d,.n],rfl,by decide+kernel,rfl,mZ rfl,(iW (ro:=.death m) tx).1⟩
def Mg{ro:Ro}(tx:ro.Tx):(0x7A).all eZ=true:=(iW tx).1
def yW{rs:List (List V)}(h:iT H as rs)(s:Same H H'):iT H' as rs:=by
 induction h with
 |nil=>exact .nil
 |cons a _ ih=>exact .cons (s _ _ a) ih
theorem Ft{r:List V}:∀{as:List Addr}{rows:List (List V)},iT H as rows->H a=some (.tup r)->iT H (as++[a]) (rows++[r])
 |_,_,.nil,h=>.cons h .nil
 |_,_,.cons h t,h'=>.cons h (Ft t h')
def VL(ls:List Str)(r:List V):Prop:=∃(dy:Int)(cN:Ro),r=Ro.vs dy cN/\cN.Ok ls/\cN.Tx/\0<=dy/\dy<=9999
def rowAt(H:Hp)(a:Addr):List V:=match H a with
 |some (.tup r)=>r
 |_=>[]
theorem yX:∀{all:List Addr}{rs:List (List V)},iT H all rs->all.map (rowAt H)=rs
 |_,_,.nil=>rfl
 | _,_,.cons h t=>by
  rw[A0h,yX t];unfold rowAt;rw[h]
def Jk{all:List Addr}{rs:List (List V)}(h:iT H all rs)(hr:∀r∈rs,VL ls r)(nd:rs.Nodup):jg H all (rowAt H)/\∃(jW:Addr->Int)(nH:Addr->Ro),∀a∈all,Fd (rowAt H) jW nH ls a:=by
 have at':∀a∈all,H a=some (.tup (rowAt H a))/\VL ls (rowAt H a):=fun a ha=>by
  obtain⟨q,hq,e⟩:=vV h a ha;have:rowAt H a=q:=by unfold rowAt;rw[e]
  rw[this];exact⟨e,hr q hq⟩
 refine⟨⟨fun a ha=>⟨(at' a ha).1,?_⟩,by rw[yX h];exact nd⟩,?_⟩
 ·obtain⟨dy,cN,e,_,tx,_⟩:=(at' a ha).2;rw[e];exact VJ tx
 ·have ex:∀a,∃x:Int×Ro,a∈all->rowAt H a=Ro.vs x.1 x.2/\x.2.Ok ls/\x.2.Tx/\0<=x.1/\x.1<=9999:=fun a=>by
   by_cases c:a∈all
   ·obtain⟨dy,cN,q⟩:=(at' a c).2;exact⟨(dy,cN),fun _=>q⟩
   ·exact⟨(0,.death ""),fun z=>absurd z c⟩
  refine⟨fun a=>(Classical.choose (ex a)).1,fun a=>(Classical.choose (ex a)).2,fun a ha=>?_⟩;obtain⟨q1,q2,q3,q4,q5⟩:=Classical.choose_spec (ex a) ha;exact⟨q1,q2,q3,q4,q5⟩
def cut1(v:V)(rest:List V):iG (v::rest) (some 1) none=rest:=by
 unfold iG;have e1:HT.fQ (v::rest).length 0 (some 1)=1:=by
  rw[show(1:Int)=((1:Nat):Int) by rfl,HT.mq]
  simp
 have e2:HT.fQ (v::rest).length (v::rest).length none=(v::rest).length:=rfl;rw[e1,e2,List.drop_one,List.tail_cons,A2h 0xA]
inductive Bu(K:W.Frag)(vs:List V)(H:Hp)(Q:VK)(cH:XK):Prop
 |mk(fa p m la wy:Addr)(fs ways:List Int)(many:Int)(ms ls:List Str)(wd:Int)(_:vs=[.ref fa,.int 20,.int many,.ref p,.ref wy])(_:H fa=some (.lst 0x8E))(_:20+8*many<=(fs.length:Int))(_:(∀v∈fs,Ca v))(_:0<=many)(_:many<=16)(_:P0 H p m la ms ls wd)(_:H wy=some (.lst (ways.map V.int)))(_:0<ways.length)(_:ways.length<=20)(_:(∀v∈ways,Ca v))(_:∀R all rs H',Same H H'->H' R=some (.lst 0x4A)->H R=none->all.length<=16->iT H' all rs->(∀r∈rs,VL ls r)->rs.Nodup->Q (.ref R) H'):Bu K vs H Q cH
def jH:aP ["_law_feed_here","_law_at","_law_many","_law_pools_here","_law_ways","_law_book_here","_law_rows_here","_law_day","_law_k","_law_d","_law_row_here"] A5j (aJ Jj):=0x0
def VN(F:fj K "_law_rows" "_law_rows" Jj f fd)(mr:mg "range"=none)(mn:mg "len"=none)(a2n:mg "min"=none)(G1:aL P w K mg base bL 1 g1 d1 ["_law_acres"] Ai)(M1:Ms K mg "_law_book" g1 d1 ["_law_acres"])
  (G2:aL P w K mg base bL 4 g2 d2 A5n (VF K))(M2:Ms K mg "_law_row" g2 d2 A5n)
  (G3:aL P w K mg base bL 4 g3 d3 A5g uz)(M3:Ms K mg "_law_word" g3 d3 A5g):aL P w K mg base bL 5 f fd A5j (Bu K):=by
 refine F.ok jH 0x1 0x3;obtain⟨fa,p,m,la,wy,fs,ways,many,ms,ls,wd,rfl,hfa,hfl,hfo,m0,m1,pl,hwy,wp,wl,hwo,k⟩:=h;have hr1:cG 1 _:=hr.mono 0x5;refine⟨_,aq (aV (i:=5) jH.nd rfl 0x8 (bG G1 hr1 rfl M1.m M1.k M1.b .nil bC (aj (aN aY 0x52 aA 0x2) aC)))
  (aq (aV (i:=6) jH.nd rfl 0x8 (cL aC))
  (aq (aV (i:=7) jH.nd rfl 0x8 (aX bV 0x4C aA))
  (aq (bK (aU fJ (aX bV (aX mj 0x4C aA) aA) aA 0x61) (aG (aV (i:=7) jH.nd rfl 0x8 (aX dY aA (aX bV 0x4C aA)))) aR)
  (aq (gF A0Q rfl (lJ rfl mr 0x65) (bB (i:=8) jH.nd rfl 0x8)
   (aq (aV (i:=9) jH.nd rfl 0x8 (eG mG 0x32 (cU (aX dY 0xF (aX lB aA (pv 8)))) (cU (aX dY (aX dY 0xF (aX lB aA (pv 8))) aA))))
   (aq (aV (i:=10) jH.nd rfl 0x8 (bG G2 hr rfl M2.m M2.k M2.b .nil bC (aj (pv 5) (aj 0x52 (aj (aX pW (cL (aj (aN bD (pv 4) (aX bV (aN bD (pv 9) aA 0x2) (bH cY rfl mn A1G (aj (pv 4) aC))) 0x2) aC)) (eG mG (pv 9) (cU aA) iI)) (aj (pv 7) aC))))))
   (aq (bK (aU (Og (u64 hr)) (pv 10) (pv 6) 0x12)
    (aq (bM (j8 A0K A0R A0S dw (pv 6) (aj (pv 10) aC)))
    (aG (bM (bG G3 hr rfl M3.m M3.k M3.b .nil bC (aj (pv 5) (aj (pv 10) aC)))))) aR)
   (aG (aV (i:=7) jH.nd rfl 0x8 (bH (xJ rfl) rfl a2n VB (aj aA (aj (aX dY (pv 7) (aN bD (cL (aj aA (aj aA (aj aA (aj aA (aj aA aC)))))) (aX bV (aX mj (aN bD (pv 9) aA 0x2) aA) aA) 0x2)) aC)))))))))
  (aG (aZ (pv 6))))))),?_⟩
 refine⟨_,rfl,p,_,_,_,rfl,rfl,bN.of pl.r,aH (j:=2) rfl,wd,rfl,fun B bl bh bo bd Jb Jc Jd Je b0 kvs H1 s1 hfree ndl BL BXL BZ=>⟨small 0xA,fun R hR=>?_⟩⟩;obtain⟨q,hq,apq⟩:∃q:Ad,(q.B=B/\q.l=bl/\q.h=bh/\q.o=bo/\q.d=bd/\q.kn=Jb/\q.dd=Jc/\q.he=Jd/\q.lg=Je/\q.kvs=kvs)/\Ap q:=
  ⟨⟨0,0,[B,bl,bh,bo,bd,Jb,Jc,Jd,Je].sum+1,[B,bl,bh,bo,bd,Jb,Jc,Jd,Je].sum+2,[B,bl,bh,bo,bd,Jb,Jc,Jd,Je].sum+3,[B,bl,bh,bo,bd,Jb,Jc,Jd,Je].sum+4,[B,bl,bh,bo,bd,Jb,Jc,Jd,Je].sum+5,B,bl,bh,bo,bd,Jb,Jc,Jd,Je,kvs,wd⟩,⟨rfl,rfl,rfl,rfl,rfl,rfl,rfl,rfl,rfl,rfl⟩,five ndl⟩
 obtain⟨rfl,rfl,rfl,rfl,rfl,rfl,rfl,rfl,rfl,rfl⟩:=hq;have B1:Bk q H1 [yV wd 0 b0] []:=BL;have X1:Bx q H1 (W0 (yV wd 0 b0)):=BXL;have RO':R∉iV q:=rC B1 X1 hR;have RB:R≠q.B:=fun z=>by rw[z,B1.b]at hR;cases hR
 have RG:R≠q.lg:=fun z=>by rw[z,X1.g]at hR;cases hR
 have a2j:∀{c:Addr}{u:HO},H c=some u->c∉iV q:=fun{c u}hc z=>by
  have:H c=none:=hfree c (by simp only[iV,A0d,A0s,A1d]at z ⊢;rcases z with e|e|e|e|e|e|e|e<;>simp[e]);rw[this]at hc;cases hc
 have hR0:H R=none:=s1.free hR
 apply 0o1 H1 R hR sR R2 H2
 have s2:=s1.trans sR;have B2:Bk q H2 [yV wd 0 b0] []:=B1.same sR;have X2:Bx q H2 (W0 (yV wd 0 b0)):=X1.same sR;have fr2:∀e∈[yV wd 0 b0],je H2 e.tb e.due.1 e.due.2:=fun e he=>by rw[A0b.mp he];exact sR _ _ BZ
 have hls:∀n∈ls,n≠""/\PyData.strOk n=true:=fun n hn=>(pl.ol n hn).ne;obtain⟨v14,e14,o14⟩:=gY hfo (i:=14) 0x5 0x4;obtain⟨o14a,o14b⟩:=o14;have fa2:=s2 _ _ hfa;refine⟨_,rfl,fa,_,_,_,rfl,rfl,bY.of fa2,e14,_,_,rfl,rfl,(by show(0:Int)<40;decide),?_⟩
 dsimp only[qj];refine grab (a:=Mr _ _ _) (fun σ' Hx=>∃day:Int,σ'=[some (.ref fa),some (.int 20),some (.int many),some 0x46,some (.ref wy),some (.ref q.B),some (.ref R),some (.int day),none,none,none]/\Hx=H2/\0<=day/\day<=9999) (fun σ' Hx hp=>?_) (fun go=>?_)
 rotate_left
 ·refine⟨_,rfl,fa,_,_,_,rfl,rfl,bY.of fa2,e14,_,_,rfl,rfl,⟨by decide,by decide⟩,_,_,rfl,rfl,(by show(0:Int)<8;decide),rfl,_,rfl,eq_int (fun _=>?_) (fun _=>?_)⟩
  ·exact⟨_,rfl,fa,_,_,_,rfl,rfl,bY.of fa2,e14,_,_,rfl,rfl,(by show(0:Int)<15;decide),_,_,rfl,rfl,go _ _ ⟨_,rfl,rfl,by lia,by lia⟩⟩
  ·exact go _ _ ⟨_,rfl,rfl,by lia,by lia⟩
 obtain⟨day0,rfl,rfl,dd0,dd1⟩:=hp;refine⟨_,rfl,many,rfl,by lia,by lia,?_⟩;refine oU (lo:=0) (n:=many.toNat) (fun i σ Hx=>∃(W:Wo)(all:List Addr)(rs:List (List V))(day:Int)(u8 u9 u10:Option V),σ=[some (.ref fa),some (.int 20),some (.int many),some 0x46,some (.ref wy),some (.ref q.B),some (.ref R),some (.int day),u8,u9,u10]/\Same H Hx/\Bk q Hx W.es W.ks/\Bx q Hx W/\Wp W ls i wd/\(∀e∈W.es,je Hx e.tb e.due.1 e.due.2)/\Hx R=some (.lst 0x4A)/\all.length<=i/\iT Hx all rs/\(∀r∈rs,VL ls r)/\rs.Nodup/\0<=day/\day<=9999)
  ⟨W0 (yV wd 0 b0),[],[],day0,none,none,none,rfl,s2,B2,X2,qZ (Vs wd 0 b0 ls pl.w1 pl.w2) rfl rfl rfl,fr2,R2,A0g _,.nil,(fun r hr=>nomatch hr),.nil,dd0,dd1⟩ ?_ ?_
 ·rintro i σ Hx hi ⟨W,all,rs,day,u8,u9,u10,rfl,sx,BX,XX,PX,fX,RX,al,RA,IR,nd,a3W,a3X⟩;have hi16:i<16:=by lia
  have fax:=sx _ _ hfa;have wyx:=sx _ _ hwy;refine⟨_,rfl,_,rfl,_,rfl,_,_,rfl,rfl,.inl ⟨by decide,by decide⟩,_,_,rfl,rfl,_,rfl,_,rfl,_,rfl,_,_,rfl,rfl,.inl ⟨by decide,by decide⟩,_,_,rfl,rfl,_,_,rfl,rfl,_,rfl,fa,_,rfl,bY.of fax,fun D hD=>?_⟩;have ec:iG 0x8E (some (20+8*(0+(i:Int)))) (some (20+8*(0+(i:Int))+8))=((fs.drop (20+8*i)).take 8).map V.int:=by
   have x1:20+8*(0+(i:Int))=((20+8*i:Nat):Int):=by lia
   have x2:20+8*(0+(i:Int))+8=((20+8*i+8:Nat):Int):=by lia
   rw[x2,x1,wJ 0x4 0x4]
   congr 2
   lia
  rw[ec];have hdo:∀v∈(fs.drop (20+8*i)).take 8,Ca v:=Jh hfo;have dl:((fs.drop (20+8*i)).take 8).length=8:=by rw[A0H,A1J];lia
  generalize(fs.drop (20+8*i)).take 8=ds at hdo dl ⊢
  apply 0o1 Hx D hD sD kD HD
  have RD:HD R=some (.lst 0x4A):=sD _ _ RX;have sxD:=sx.trans sD;obtain⟨d0,e0,o0⟩:=gY hdo (i:=0) 0x5 0x4;obtain⟨d6,e6,o6⟩:=gY hdo (i:=6) 0x5 0x4;obtain⟨dh,dt,rfl⟩:∃a r,ds=a::r:=by
   cases ds with
   |nil=>simp at dl
   |cons a r=>exact⟨a,r,rfl⟩
  have wpos:(0:Int)<((ways.map V.int).length:Int):=by rw[cM];lia
  obtain⟨wv0,hwv,hwm⟩:=lq (xs:=ways.map V.int) (i:=d0%((ways.map V.int).length:Int)) (A1a _ (A4h wpos)) (A0P _ wpos);obtain⟨wv,hwv2,rfl⟩:=A0e.mp hwm;have hwo':=hwo wv hwv2;refine⟨_,rfl,_,rfl,_,rfl,_,rfl,D,_,_,_,rfl,rfl,bY.of kD,e0,_,rfl,wy,_,rfl,.inl (bY.of (sD _ _ wyx)),_,_,rfl,rfl,wpos,wy,_,_,_,rfl,rfl,bY.of (sD _ _ wyx),hwv,small 0xA,fun L1 hL1=>?_⟩
  apply 0o1 HD L1 hL1 sL1 k1 HL1
  refine⟨_,rfl,_,rfl,D,_,rfl,bY.of (sL1 _ _ kD),fun L2 hL2=>?_⟩;rw[A0h,cut1]
  apply 0o1 HL1 L2 hL2 sL2 k2 HL2
  have dtl:dt.length=7:=by simpa using dl
  refine⟨L1,L2,_,_,rfl,rfl,sL2 _ _ k1,k2,(by rw[cM,A0t];exact small 0x4),fun L3 hL3=>?_⟩;have e3:[V.int wv]++dt.map V.int=(wv::dt).map V.int:=rfl;rw[e3]
  apply 0o1 HL2 L3 hL3 sL3 k3 HL3
  have sxL:=sL1.trans (sL2.trans sL3);have sx3:=sxD.trans sxL;have ln:=PX.E.P.ln;refine⟨_,rfl,q,W.es,W.ks,p,L3,m,la,ms,ls,wd,day,wv::dt,rfl,apq,fZ.same BX (sD.trans sxL),PX.E.P.W,PX.E.M,by lia,pl.same sx3,bY.of k3,by rw[wO,dtl],fun v hv=>?_,fun r cN HR sr hr' hok htx=>?_⟩
  ·rcases A0d.mp hv with z|z
   ·rw[z];exact hwo'
   ·exact hdo v (jK _ z)
  ·have sXR:=(sD.trans sxL).trans sr;have sxR:=sx.trans sXR;have BR:=fZ.same BX sXR;have XR:=XX.same sXR;have fR:∀e∈W.es,je HR e.tb e.due.1 e.due.2:=fun e he=>sXR _ _ (fX e he);have RR:=sXR _ _ RX;have DR:HR D=some (.lst ((dh::dt).map V.int)):=sr _ _ (sxL _ _ kD);have RAR:iT HR all rs:=yW RA sXR;have flat:∀q∈rs,q.all eZ=true:=fun q hq=>by
    obtain⟨dy,rw2,e,_,tx,_⟩:=IR q hq;rw[e];exact Mg tx
   dsimp only[qj];refine grab (a:=Mr _ _ _) (fun σ' Hy=>∃(W':Wo)(all':List Addr)(rs':List (List V)),σ'=[some (.ref fa),some (.int 20),some (.int many),some 0x46,some (.ref wy),some (.ref q.B),some (.ref R),some (.int day),some (.int (0+(i:Int))),some 0x4F,some 0x60]/\Same H Hy/\Bk q Hy W'.es W'.ks/\Bx q Hy W'/\Wp W' ls (i+1) wd/\(∀e∈W'.es,je Hy e.tb e.due.1 e.due.2)/\Hy R=some (.lst (all'.map V.ref))/\all'.length<=i+1/\iT Hy all' rs'/\(∀r∈rs',VL ls r)/\rs'.Nodup/\Hy D=some (.lst ((dh::dt).map V.int))) (fun σ' Hy hp=>?_) (fun go=>?_)
   rotate_left
   ·refine⟨_,rfl,_,rfl,r,R,all,Ro.vs day cN,rs,rfl,rfl,bY.of RR,hr',Mg htx,RAR,flat,?_⟩
    by_cases hin:Ro.vs day cN∈rs
    ·have eb:(rs.any fun q=>decide (q=Ro.vs day cN))=true:=by
      rw[List.any_eq_true];exact⟨_,hin,A0k rfl⟩
     rw[eb];refine⟨_,rfl,?_⟩;exact go _ _ ⟨W,all,rs,rfl,sxR,BR,XR,⟨PX.E.up (A2i i),PX.hv,A4G PX.hl,A4G PX.dl,PX.nd,A4G PX.gl⟩,fR,RR,by lia,RAR,IR,nd,DR⟩
    ·have eb:(rs.any fun q=>decide (q=Ro.vs day cN))=false:=by
      rw[A3I];exact fun q hq=>by rw[A1l];exact fun z=>hin (z▸ hq)
     rw[eb];refine⟨_,rfl,?_⟩;refine⟨_,rfl,.inl ⟨rfl,_,bY.of RR⟩,_,rfl,R,_,_,rfl,rfl,RR,by rw[cM];exact small 0x4,?_⟩;have nT:∀{c:Addr}{xs:List V},HR c=some 0x23->(upd HR R 0x28) c=some 0x23:=fun h=>by rw[ak (aO h RR 0x6)];exact h
     have nK:∀{c:Addr}{kv:List 0x2B},HR c=some (.dK kv)->(upd HR R 0x28) c=some (.dK kv):=fun h=>by rw[ak (aO h RR 0x6)];exact h
     have BA:Bk q (upd HR R 0x28) W.es W.ks:=LK BR RB RO';have XA:Bx q (upd HR R 0x28) W:=LQ XR RG RO';have RAA:iT (upd HR R 0x28) all rs:=Paired.Ml RAR fun a b h=>nT h;have rA:=nT hr';have fA:∀e∈W.es,je (upd HR R 0x28) e.tb e.due.1 e.due.2:=fun e he=>nT (fR e he);have hRA:(upd HR R 0x28) R=some 0x28:=ao;have sA:Same H (upd HR R 0x28):=fun c u h=>by rw[ak (au h hR0)];exact sxR _ _ h
     have DA:(upd HR R 0x28) D=some (.lst ((dh::dt).map V.int)):=by
      rw[ak (au RX hD).symm];exact DR
     generalize upd HR R 0x28=HA at BA XA RAA rA fA hRA sA DA ⊢;refine⟨_,rfl,_,rfl,q,W,ls,i,r,cN,day,wd,rfl,apq,BA,XA,PX,fA,hok,hls,by lia,rA,fun w1 W' HW J BW XW fW ob=>?_⟩;refine go _ _ ⟨W',all++[r],rs++[Ro.vs day cN],rfl,fun c u h=>?_,BW,XW,J.wp PX hok htx hls,fW,?_,?_,?_,?_,?_,?_⟩
     ·exact ob c u (a2j h) (sA _ _ h)
     ·rw[j9];exact ob R _ RO' hRA
     ·rw[iD,A0t];lia
     ·exact Ft (Paired.Ml RAA fun a b h=>tM BA XA ob h) (tM BA XA ob rA)
     ·intro x hx;rcases A0l.mp hx with z|z
      ·exact IR x z
      ·rw[A0b.mp z];exact⟨day,cN,rfl,hok,htx,a3W,a3X⟩
     ·rw[A2y];exact⟨nd,by simp,fun a ha b hb=>by rw[A0b.mp hb];exact fun z=>hin (z▸ ha)⟩
     ·exact ob D _ (rC BX XX hD) DA
   ·obtain⟨W',all',rs',rfl,sy,By,Xy,Py,fy,Ry,ay,RAy,IRy,ndy,Dy⟩:=hp;refine⟨_,rfl,small 0xA,fun L hL=>?_⟩;have sL:=aK hL (.lst [V.int 1,V.int 1,V.int 0,V.int 5,V.int 300]);have kL:(upd Hy L (.lst [V.int 1,V.int 1,V.int 0,V.int 5,V.int 300])) L=some (.lst [V.int 1,V.int 1,V.int 0,V.int 5,V.int 300]):=ao;have RL:=sL _ _ Ry;have DL:=sL _ _ Dy;have sHL:=sy.trans sL;have BL':=fZ.same By sL;have XL':=Xy.same sL;have fL:∀e∈W'.es,je (upd Hy L (.lst [V.int 1,V.int 1,V.int 0,V.int 5,V.int 300])) e.tb e.due.1 e.due.2:=fun e he=>sL _ _ (fy e he);have RAL:=yW RAy sL;generalize upd Hy L (.lst [V.int 1,V.int 1,V.int 0,V.int 5,V.int 300])=HL at sL kL RL DL sHL BL' XL' fL RAL ⊢;obtain⟨x,ex,mx⟩:=lq (xs:=[V.int 1,V.int 1,V.int 0,V.int 5,V.int 300]) (i:=d6/4%5) (A1a _ 0x5) (A0P _ 0x5);obtain⟨x',rfl,x0,x1⟩:∃x':Int,x=.int x'/\0<=x'/\x'<=300:=by
     simp only[A0d,A0s,A1d]at mx;rcases mx with rfl|rfl|rfl|rfl|rfl<;>exact⟨_,rfl,by decide,by decide⟩
    refine⟨_,rfl,D,_,_,_,rfl,rfl,bY.of DL,e6,_,_,rfl,rfl,⟨by decide,by decide⟩,_,_,rfl,rfl,(by show(0:Int)<5;decide),L,_,_,_,rfl,rfl,bY.of kL,ex,_,_,rfl,rfl,_,_,rfl,?_⟩
    refine⟨W',all',rs',_,_,_,_,rfl,sHL,BL',XL',Py,fL,RL,ay,RAL,IRy,ndy,?_,?_⟩<;>split<;>lia
 ·rintro σ Hx ⟨W,all,rs,day,u8,u9,u10,rfl,sx,BX,XX,PX,fX,RX,al,RA,IR,nd,_,_⟩;exact⟨_,rfl,k R all rs Hx sx RX hR0 0x4 RA IR nd⟩
end M
namespace L2
open PySem PySem.Spec PyProof.Rows PySem.W
inductive a0e(xs:List V)(H:Hp)(Q:VK):Prop
 |mk(j:Int)(_:xs=[.int j])(_:∀p,H p=none->Q 0x46 (upd H p (.rng 0 j))):a0e xs H Q
def Pa:gO X (.type "range") a0e:=by
 intro pins s σ H xs us Q I r h;obtain⟨j,rfl,q⟩:=h;obtain⟨u,rfl,⟨t,rfl⟩⟩:=vals1 r;exact call_range_1 ⟨.ref s.heap.objs.size,_,I.laid (o:=.rng 0 j) (fun b o e=>A0c _ e) 0x33 ⟨_,_,_,A0x _ rfl⟩,rfl,q _ 0x4B⟩
end L2
namespace M
open PySem L2 PyProof.Rows
abbrev sAW:Stmt:=top 72
def spAW:Sp:=fun vs H Q _=>vs=[]/\∀D H',Same H H'->H D=none->H' D=some (.lst ((List.range 13).map fun i=>V.int ((i:Nat):Int)))->Q 0x4F H'
def scAW:aP [] [] (aJ sAW):=0x0
def a3Y(F:fj K "_law_all_ways" "_law_all_ways" sAW f fd)(ml:mg "list"=none)(mr:mg "range"=none):aL P w K mg base bL 1 f fd [] spAW:=by
 refine F.ok scAW 0x1 0x3;obtain⟨rfl,k⟩:=h;refine⟨_,aG (aZ (fV (Ig hr.hd) rfl ml qC (aj (fV Pa rfl mr 0x7 (aj aA aC)) aC))),?_⟩;refine⟨13,rfl,fun p hp=>?_⟩;refine⟨p,0,13,rfl,ao,by decide,by decide,by decide,by decide,fun D hD=>?_⟩;have s1:=aK hp (.rng 0 13);refine k D _ (s1.trans (aK hD _)) (s1.free hD) ?_;rw[ao];simp
def YX:V->Key
 | .int i=>.inl i
 | .str s=>.inr s
 |_=>.inl 0
def Bv(h:xs.all eZ=true):(xs.map YX).map kV=xs:=by
 rw[A0T];refine(A1p fun x hx=>?_).trans (A4Y xs);have:=A1L.mp h x hx;cases x with
 |int _=>rfl
 |str _=>rfl
 |_=>cases this
def VP(hx:xs.all eZ=true)(hy:ys.all eZ=true)(e:xs.map YX=ys.map YX):xs=ys:=by
 rw[<-Bv hx,<-Bv hy,e]
theorem yZ{α β:Type}{R:α->β->Prop}:∀{as:List α}{bs:List β},as.length=bs.length->(∀(i:Nat)(a:α)(b:β),as[i]?=some a->bs[i]?=some b->R a b)->Paired R as bs
 |[],[],_,_=>.nil
 |[],_::_,e,_=>by cases e
 |_::_,[],e,_=>by cases e
 |a::as,b::bs,e,h=>.cons (h 0 a b rfl rfl) (yZ (by simpa using e) fun i x y h1 h2=>h (i+1) x y (by simpa using h1) (by simpa using h2))
def VR(dat:Addr->List V)(pr:List Addr)(ws:List Str):List 0x38:=(pr.zip ws).map fun x=>((dat x.1).map YX,V.str x.2)
def W4(h:ws.length=pr.length):(VR dat pr ws).length=pr.length:=by
 unfold VR;rw[cM,List.length_zip,h,Nat.min_self]
theorem Bw{dat:Addr->List V}:∀{pr:List Addr}{ws:List Str},ws.length=pr.length->(VR dat pr ws).map (·.1)=(pr.map dat).map (List.map YX)
 |[],[],_=>rfl
 |_::_,[],e=>by cases e
 |[],_::_,e=>by cases e
 | p::pr,w::ws,e=>by
  have:=Bw (dat:=dat) (pr:=pr) (ws:=ws) (by simpa using e)
  show _::(VR dat pr ws).map (·.1)=_
  rw[this];rfl
def a0f{p:Addr}{w:Str}(h1:pr[i]?=some p)(h2:ws[i]?=some w):(VR dat pr ws)[i]?=some ((dat p).map YX,V.str w):=by
 unfold VR;rw[pF,show(pr.zip ws)[i]?=some (p,w)from List.getElem?_zip_eq_some.mpr ⟨h1,h2⟩]
 rfl
def Pb{wl:Addr}(J:jr H wl ts pr ws)(hd:∀a∈pr,H a=some (.tup (dat a))/\(dat a).all eZ=true):
  Paired (fun a(q:List Key×V)=>∃r,H a=some (.tup [.ref r,q.2])/\H r=some (.tup (q.1.map kV))) ts (VR dat pr ws):=by
 refine yZ (by rw[W4 J.lw,J.lt]) fun i t q h1 h2=>?_;obtain⟨r,w,p1,p2,p3⟩:=J.get h1;rw[a0f p1 p2]at h2;injection h2 with h2;subst h2;have:=hd r (wU p1);exact⟨r,p3,by rw[Bv this.2];exact this.1⟩
theorem Jl:∀{ps kvs:List 0x38}{k:List Key},k∉ps.map (·.1)->bJ (iU kvs ps) k=bJ kvs k
 |[],_,_,_=>rfl
 | p::ps,kvs,k,h=>by
  rw[A0h,A0d,A4a]at h
  show bJ (iU (putK kvs p.1 p.2) ps) k=_
  rw[Jl h.2,bI,A0f h.1]
theorem W5:∀{ps kvs:List 0x38}{k:List Key}{v:V}{i:Nat},(ps.map (·.1)).Nodup->ps[i]?=some (k,v)->bJ (iU kvs ps) k=some v
 |[],_,_,_,i,_,h=>by simp at h
 | p::ps,kvs,k,v,0,nd,h=>by
  rw[A3x]at h;injection h with h;subst h
  show bJ (iU (putK kvs k v) ps) k=_
  rw[Jl (A0L.mp nd).1,bI,A0i rfl]
 | p::ps,kvs,k,v,i+1,nd,h=>by
  rw[A2L]at h
  show bJ (iU (putK kvs p.1 p.2) ps) k=_
  exact W5 (A0L.mp nd).2 h
theorem sZ{α β:Type}{g:α->β}:∀{l:List α},(∀x∈l,∀y∈l,g x=g y->x=y)->l.Nodup->(l.map g).Nodup
 |[],_,_=>A3L
 | x::l,h,nd=>by
  rw[A0h,A0L];refine⟨fun hm=>?_,sZ (fun a ha b hb=>h a (jK _ ha) b (jK _ hb)) (A0L.mp nd).2⟩;obtain⟨y,hy,e⟩:=A0e.mp hm;have:=h y (jK _ hy) x A0o e;subst this;exact(A0L.mp nd).1 hy
def W6(hl:ws.length=pr.length)(hd:∀a∈pr,(dat a).all eZ=true)(nd:(pr.map dat).Nodup)(hx:xs.all eZ=true):
  (xs∉pr.map dat/\bJ (iU [] (VR dat pr ws)) (xs.map YX)=none)\/∃(i:Nat)(w:Str),(pr.map dat)[i]?=some xs/\ws[i]?=some w/\bJ (iU [] (VR dat pr ws)) (xs.map YX)=some (.str w):=by
 have hd':∀z∈pr.map dat,z.all eZ=true:=fun z hz=>by
  obtain⟨a,ha,rfl⟩:=A0e.mp hz;exact hd a ha
 by_cases c:xs∈pr.map dat
 ·obtain⟨i,hi⟩:=A3O.mp c;have hi':=hi;rw[pF]at hi';obtain⟨p,hp,e⟩:=A0J.mp hi';have il:=(A0j.mp hp).1;obtain⟨w,hw⟩:∃w,ws[i]?=some w:=⟨_,lG (by rw[hl];exact il)⟩;refine .inr ⟨i,w,hi,hw,W5 (i:=i) ?_ (by rw[a0f hp hw,e])⟩;rw[Bw hl];exact sZ (fun a ha b hb e=>VP (hd' a ha) (hd' b hb) e) nd
 ·refine .inl ⟨c,?_⟩;rw[Jl]
  ·rfl
  ·rw[Bw hl];intro hm;obtain⟨z,hz,e⟩:=A0e.mp hm;exact c (by rw[<-VP (hd' z hz) hx e];exact hz)
def a2q(ro:Ro):∃(k:Str)(x:V)(r:List V),(∀dy,Ro.vs dy ro=.str k::.int dy::x::r)/\r.length<=10:=by
 cases ro with
 |land x=>cases x<;>exact⟨_,_,_,fun _=>rfl,by simp⟩
 |_=>exact⟨_,_,_,fun _=>rfl,by simp⟩
def sIx2{a b:V}{r:List V}:HT.fQ (a::b::r).length 0 (some 2)=2:=by
 show HT.fQ _ 0 (some ((2:Nat):Int))=2
 rw[HT.mq];simp
def YZ{a b:V}{r:List V}:iG (a::b::r) (some 2) none=r:=by
 unfold iG;rw[sIx2];exact A2h 0x33
def W7(h:X.K=K:=by rfl):lK X (binaryOp .Add) (Qy K):=h▸ WQ
def ite_no{c:Bool}{A:Prop}(h:c=false)(k:B):if c=true then A else B:=by rw[h];exact cg k
def ite_yes{c:Bool}{A:Prop}(h:c=true)(k:A):if c=true then A else B:=by rw[h];exact cW k
def uE{Q:Bool->Hp->Prop}{n:Int}(hv:σ[i]?=some (some (.int n)))(h:Q (FW lo hi n) H):Qo (Ge (Wm fun i j=>.bl (decide (i<=j))) (Wm fun i j=>.bl (decide (i<=j))) (tC (.int lo)) (za i) (tC (.int hi))) σ H Q:=by
 unfold FW at h;refine⟨_,hv,_,_,rfl,rfl,_,rfl,iu (fun h1=>⟨_,_,rfl,rfl,_,rfl,?_⟩) (fun h1=>⟨_,rfl,?_⟩)⟩
 ·rw[h1,A3V]at h;exact h
 ·rw[A2v.mpr h1,A3H]at h;exact h
def Fv{T T' lm lm':Addr}{bs:List Bool}{w:Str}{Q:VK}(hw:PyData.strOk w=true)(h1:H T=some (.tup [.ref lm,.str w]))(h2:H lm=some (.lst (bs.map V.bl)))(h3:H T'=some (.tup [.ref lm',.str w]))(h4:H lm'=some (.lst (bs.map V.bl)))(k:Q (.bl false) H):a0M (.ref T) (.ref T') H Q:=by
 have d:∀(bs:List Bool),dN H (bs.map V.bl) 0x6E:=fun bs=>by
  induction bs with
  |nil=>exact .nil
  |cons b bs ih=>exact .cons (.bl b) ih
 have l:∀(bs:List Bool),PyData.canLayAll0 0x6E=true:=fun bs=>Ma fun x hx=>by
  obtain⟨b,_,rfl⟩:=A0e.mp hx;rfl
 have dp:PyData.depthAll 0x6E<=1:=Bs fun x hx=>by
  obtain⟨b,_,rfl⟩:=A0e.mp hx;exact A0V rfl
 have ly:(PyData.tuple [.list 0x6E,.str w]).canLay0=true:=by
  show(PyData.canLayAll0 0x6E&&(PyData.strOk w&&true))=true
  rw[l,hw];rfl
 refine⟨.tuple [.list (bs.map .bool),.str w],.tuple [.list (bs.map .bool),.str w],.tup h1 (.cons (.lst h2 (d bs)) (.cons (.str w) .nil)),.tup h3 (.cons (.lst h4 (d bs)) (.cons (.str w) .nil)),ly,ly,?_,?_⟩
 ·show PyData.depthAll [PyData.list 0x6E,PyData.str w]+1<=8
  have:PyData.depthAll [PyData.list 0x6E,PyData.str w]<=2:=Bs fun x hx=>by
   rcases A0d.mp hx with e|e
   ·rw[e];show PyData.depthAll _+1<=2;lia
   ·rw[A0b.mp e];exact A0V rfl
  lia
 ·rw[PySem.SeqAt.eqv_refl _ ly];exact k
abbrev Fw:Stmt:=top 75
inductive Fx(K:W.Frag)(vs:List V)(H:Hp)(Q:VK)(cH:XK):Prop
 |mk(a:Addr)(ns:List Int)(_:vs=[.ref a])(_:bY K H a 0x36)(_:ns.length<=63)(_:∀H',Q (.bl true) H'):Fx K vs H Q cH
section
variable{CR:Addr}
def oR:aP A5l ["_law_script"] (aJ Fw):=0x0
def a3Z:Scope:={kind:=.function,names:=[(".0",.local),("_law_row_here",.local)],isGenerator:=false,isCoroutine:=false}
def a4a:iw A5l (aJ Fw) a3Z ["_law_row_here"] [] []:=0xE
def a4b:((["_law_row_here"]:List Str)++([]:List Str)).Nodup:=by decide+kernel
def Fy{xs:List Int}{i:Int}(h0:0<=i)(h1:i<xs.length):∃z:Int,xT (xs.map V.int) i=some (.int z):=by
 obtain⟨v,hv,hm⟩:=lq (xs:=xs.map V.int) h0 (by rw[cM];exact h1);obtain⟨z,_,rfl⟩:=A0e.mp hm;exact⟨z,hv⟩
def a2r(TC:oK K CC)(F:fj K "law" "law" Fw f fd)(mli:mg "list"=none)(md:mg "dict"=none){g6 g7 g8 g9 g0:Addr}{d6 d7 d8 d9 d0:FuncData}
  (G1:aL P w K mg base bL 1 g1 d1 ["_law_script","_law_many"] (GX K))(M1:Ms K mg "_law_feed" g1 d1 ["_law_script","_law_many"])
  (G2:aL P w K mg base bL 2 g2 d2 ["_law_feed_here"] (Bq K))(M2:Ms K mg "_law_pools" g2 d2 ["_law_feed_here"])
  (G3:aL P w K mg base bL 5 g3 d3 A5j (Bu K))(M3:Ms K mg "_law_rows" g3 d3 A5j)
  (G4:aL P w K mg base bL 9 g4 d4 A5q (Vd CC CR CK C K))(M4:Ms K mg "_law_why_court" g4 d4 A5q)
  (G5:aL P w K mg base bL 5 g5 d5 A5I (wI K))(M5:Ms K mg "_law_books" g5 d5 A5I)
  (G6:aL P w K mg base bL 3 g6 d6 ["_law_court","_law_row_here"] (Vi CC))(M6:Ms K mg "_law_why_verdict" g6 d6 ["_law_court","_law_row_here"])
  (G7:aL P w K mg base bL 1 g7 d7 [] spAW)(M7:Ms K mg "_law_all_ways" g7 d7 [])
  (G8:aL P w K mg base bL 1 g8 d8 A5z (Ve CC))(m8:Meth K CC "acres" g8)(b8:Binds K d8 A5z [])
  (G9:aL P w K mg base bL 1 g9 d9 A5z (Vf CC))(m9:Meth K CC "bears" g9)(b9:Binds K d9 A5z [])
  (G0:aL P w K mg base bL 2 g0 d0 A5p a05)(M0:Ms K mg "_law_same" g0 d0 A5p):
  aL P w K mg base bL 10 f fd ["_law_script"] (Fx K):=by
 refine F.ok oR 0x1 0x3;obtain⟨a,ns,rfl,hS,hns,kk⟩:=h;have G1:=aL.mono (k:=9) G1 0x4;have G2:=aL.mono (k:=9) G2 0x4;have G3:=aL.mono (k:=9) G3 0x4;have G5:=aL.mono (k:=9) G5 0x4;have G6:=aL.mono (k:=9) G6 0x4;have G7:=aL.mono (k:=9) G7 0x4;have G8:=aL.mono (k:=9) G8 0x4;have G9:=aL.mono (k:=9) G9 0x4;have G0:=aL.mono (k:=9) G0 0x4;refine⟨_,aq (aV (i:=1) oR.nd rfl 0x8 (bG G1 hr rfl M1.m M1.k M1.b .nil bC (aj 0x32 (aj aA aC))))
  (aq (aV (i:=2) oR.nd rfl 0x8 (bG G2 hr rfl M2.m M2.k M2.b .nil bC 0x2C))
  (aq (aV (i:=3) oR.nd rfl 0x8 (bG G3 hr rfl M3.m M3.k M3.b .nil bC (aj 0xF (aj aA (aj (aX bV (aN bD 0xF aA 0x2) aA) (aj 0x3B (aj (Cw G7 hr rfl M7.m M7.k M7.b .nil bC) aC)))))))
  (aq (aV (i:=4) oR.nd rfl 0x8 (aN bD (cL (aj (aN aY 0x3B aA 0x2) (aj (aN aY 0x3B aA 0x2) (aj (uL pR aA) (aj aA (aj aA (aj aA (aj aA (aj aA aC))))))))) (aX bV (aN bD 0xF aA 0x2) aA) 0x2))
  (aq (aV (i:=5) oR.nd rfl 0x8 (aN bD (cL (aj (aX bV (aN bD 0xF aA 0x2) aA) (aj (aX bV (aN bD 0xF aA 0x2) aA) (aj (uL pR aA) (aj aA (aj aA (aj aA (aj aA aC)))))))) (aX bV (aN bD 0xF aA 0x2) aA) 0x2))
  (aq (nP (bG G4 hr rfl M4.m M4.k M4.b .nil bC (aj (pv 4) (aj (pv 5) (aj (fV zA rfl mli qC 0x90) aC)))) (jN rfl (bR (bB (i:=6) oR.nd rfl 0x8) (bR (bB (i:=7) oR.nd rfl 0x8) gJ))))
  (aq (bK (PW.pt (xG (ig (Cr sE sE aA (pv 4) aA)) (rH (ig (Cr sE sE aA (pv 5) aA))))) (aG (aZ (jA (QX (u64 hr)) (pv 6) (cL (aj jX (aj jX (aj jX (aj jX aC))))) 0x61))) aR)
  (aq (bK (PW.pt (xG (aU (zM (u64 hr)) (pv 6) (cL aC) 0x61) (rH (ig (dJ (bG G0 hr rfl M0.m M0.k M0.b .nil bC (aj (cu (aj (nY (CX:=bL) (E:=E0) (pv 7) TC.cl m8 G8 hr b8 .nil bC) (aj (nY (CX:=bL) (E:=E0) (pv 7) TC.cl m9 G9 hr b9 .nil bC) aC))) (aj (cu (aj (pv 4) (aj (pv 5) aC))) aC)))))))) cD aR)
  (aq (aV (i:=8) oR.nd rfl 0x8 (fV (Fl (A0O (Nat.add_le_add_left 0x5 _) (u64 hr)) hr.hd) rfl md pB (aj (aN aY (bG G5 hr rfl M5.m M5.k M5.b .nil bC (aj (pv 4) 0x90)) aA 0x2) aC)))
  (aq (gF A0Q rfl (fu (aX pW 0x52 (kI rfl a4a (fu 0x52) (fun s H fp C'=>⟨bB (i:=0) a4b rfl 0x8,zE,aX (W7 (K:=K)) (cu (aj (aN (JG (K:=K)) 0x32 aA 0x2) (aj (aX nR aA (aN (JG (K:=K)) 0x32 aA 0x2)) aC))) (eG (WY (K:=K)) 0x32 (cU aA) iI)⟩)))) (bB (i:=9) oR.nd rfl 0x8)
   (aq (aV (i:=10) oR.nd rfl 0x8 (bG G6 hr rfl M6.m M6.k M6.b .nil bC (aj (pv 7) (aj (pv 9) aC))))
   (aq (bK (PW.pt (lA (pQ (uY 0x17 (pv 9) (pv 8))) (ji (aU (zM (u64 hr)) (pv 10) (cu (aj (cL aC) (aj (bA 0x17 (pv 8) (pv 9) 0x2) aC))) 0x61)))) cD aR)
   (aG (bK (PW.pt (lA (pQ (yu 0x17 (pv 9) (pv 8))) (ji (aU (zM (u64 hr)) (pv 10) (cu (aj (cL (aj jX (aj jX (aj jX (aj jX aC))))) (aj aM aC))) 0x61)))) cD aR)))))
  (aG (aZ jX))))))))))),?_⟩
 refine⟨_,rfl,a,ns,130,rfl,hS,hns,by decide,by decide,fun r H1 fs s1 hr0 hr1 hlen hok=>?_⟩;have hfl:fs.length=130:=by lia
 refine⟨_,rfl,r,fs,rfl,bY.of hr1,by lia,hok,fun rp m la ms ls wd H2 s2 pl=>?_⟩;obtain⟨v0,e0,o0⟩:=gY hok (i:=0) 0x5 0x4;obtain⟨v1,e1,o1⟩:=gY hok (i:=1) 0x5 0x4;obtain⟨v2,e2,o2⟩:=gY hok (i:=2) 0x5 0x4;obtain⟨v15,e15,o15⟩:=gY hok (i:=15) 0x5 0x4;have hr2:=s2 _ _ hr1;refine⟨_,rfl,_,rfl,r,_,_,_,rfl,rfl,bY.of hr2,e0,_,_,rfl,rfl,(by show(0:Int)<13;decide),_,rfl,rfl,fun wy HW sw hwy0 hwy=>?_⟩
 refine⟨r,rp,m,la,wy,fs,(List.range 13).map fun i=>((i:Nat):Int),_,ms,ls,wd,rfl,sw _ _ hr2,by lia,hok,by lia,by lia,pl.same sw,by rw[hwy,A0T];rfl,by simp,by simp,fun v hv=>?_,fun R all rs H3 s3 hR hR0 h16 RA hrs nd=>?_⟩
 ·have hv':v∈([0,1,2,3,4,5,6,7,8,9,10,11,12]:List Int):=hv;simp only[A0d,A0s,A1d]at hv';rcases hv' with h|h|h|h|h|h|h|h|h|h|h|h|h<;>(rw[h];exact⟨by decide,by decide⟩)
 have s23:=sw.trans s3;obtain⟨RO,jW,nH,RW⟩:=Jk RA hrs nd;have pl3:=pl.same s23;have Sq:=s23 _ _ hr2;have hls:∀n∈ls,n≠""/\PyData.strOk n=true:=fun n hn=>(pl.ol n hn).ne;refine⟨_,rfl,rp,_,_,_,rfl,rfl,bN.of pl3.r,aH (j:=2) rfl,_,rfl,rp,_,_,_,rfl,rfl,bN.of pl3.r,aH (j:=2) rfl,?_⟩;refine⟨_,rfl,small 0xA,fun lw hlw=>?_⟩
 apply 0o1 H3 lw hlw sl kl H4
 obtain⟨wide,hwi⟩:=Fy (xs:=[wd,wd,-1,0,1,9999,10000,10001]) (i:=v1%8) 0x4 (by show _<(8:Int);lia)
 refine⟨_,rfl,r,_,_,_,rfl,rfl,bY.of (sl _ _ Sq),e1,_,_,rfl,rfl,(by show(0:Int)<8;decide),lw,_,_,_,rfl,rfl,bY.of kl,hwi,?_⟩
 have DK:=sl _ _ Sq;refine⟨_,rfl,r,_,_,_,rfl,rfl,bY.of DK,e15,_,_,rfl,rfl,(by show(0:Int)<100;decide),_,rfl,r,_,_,_,rfl,rfl,bY.of DK,e15,_,_,rfl,rfl,(by show(0:Int)<100;decide),_,rfl,small 0xA,fun lb hlb=>?_⟩
 apply 0o1 H4 lb hlb sb kb H5
 obtain⟨rich,hri⟩:=Fy (xs:=[v15%100,v15%100,-1,0,99,100,101]) (i:=v2%7) 0x4 (by show _<(7:Int);lia)
 refine⟨_,rfl,r,_,_,_,rfl,rfl,bY.of (sb _ _ DK),e2,_,_,rfl,rfl,(by show(0:Int)<7;decide),lb,_,_,_,rfl,rfl,bY.of kb,hri,?_⟩
 have s5:=sl.trans sb;refine⟨_,rfl,_,rfl,_,rfl,R,_,rfl,.inl (bY.of (s5 _ _ hR)),fun lr hlr=>?_⟩;have s6:=s5.trans (aK hlr (.lst 0x4A));have k6:(upd H5 lr (.lst 0x4A)) lr=some (.lst 0x4A):=ao;generalize upd H5 lr (.lst 0x4A)=H6 at s6 k6 ⊢;have RO6:=LR RO s6;refine⟨lr,wide,rich,all,rowAt H3,jW,nH,ls,rfl,bY.of k6,by lia,RO6,RW,hls,fun ok T lm c dc jl ll z q W sp ni ts out ws t0 H7 s7 hT YG pm up J ct=>?_,fun ok T lm H7 s7 hT YG=>?_⟩
 rotate_left
 ·refine⟨T,_,rfl,bN.of hT,rfl,_,_,rfl,_,_,rfl,rfl,?_⟩;have fin:∀p,H7 p=none->X8 (.ref lm) 0x46 (upd H7 p (.lst IK)) Q:=fun p hp=>⟨.list [.bool true,.bool false,.bool false,.bool false],.list [.bool true,.bool false,.bool false,.bool false],.lst (aK hp _ _ _ YG) (.cons (.bl _) (.cons (.bl _) (.cons (.bl _) (.cons (.bl _) .nil)))),.lst ao (.cons (.bl _) (.cons (.bl _) (.cons (.bl _) (.cons (.bl _) .nil)))),rfl,rfl,A0V rfl,kk _⟩;refine uE rfl ?_;cases oa:FW 1 9999 wide with
  |false=>exact cW (cW ⟨_,rfl,small 0xA,fun p hp=>fin p hp⟩)
  | true=>
   unfold YC at ok;rw[oa,A3V]at ok;refine cg (uE rfl ?_);exact ite_yes (by rw[ok];rfl) ⟨_,rfl,small 0xA,fun p hp=>fin p hp⟩
 have ob:=ok;unfold YC at ob;rw[A0Y]at ob;refine⟨T,_,rfl,bN.of hT,rfl,_,_,rfl,_,_,rfl,rfl,?_⟩;refine uE rfl (ite_no (by rw[ob.1];rfl) (uE rfl (ite_no (by rw[ob.2];rfl) ?_)));refine⟨_,rfl,small 0xA,fun p hp=>?_⟩
 apply 0o1 H7 p hp s8 k8 H8
 refine⟨.list [],.list [],.lst (s8 _ _ YG) .nil,.lst k8 .nil,rfl,rfl,A0V rfl,_,rfl,cg ?_⟩;have ct8:=ct.same s8;refine⟨_,rfl,c,dc,_,rfl,ct8.o,rfl,?_⟩;dsimp only[lC,List.cons_append,List.nil_append];refine⟨c,dc,z.z,jl,ll,wide,rich,rfl,ct8.o,?_⟩;refine⟨_,rfl,c,dc,_,rfl,ct8.o,rfl,?_⟩;dsimp only[lC,List.cons_append,List.nil_append];refine⟨c,dc,z.z,jl,ll,wide,rich,rfl,ct8.o,small 0xA,fun t1 ht1=>⟨_,rfl,_,rfl,small 0xA,fun t2 Vn=>?_⟩⟩;have st1:=aK ht1 (.tup [.int wide,.int rich]);have st2:=aK Vn (.tup [.int wide,.int rich]);refine⟨t1,t2,[wide,rich],rfl,st2 _ _ ao,ao,by simp,fun H9 s9=>⟨_,rfl,cg ?_⟩⟩;have s89:=(st1.trans st2).trans s9;have s79:=s8.trans s89;have s39:=(s6.trans s7).trans s79;have ct9:=ct8.same s89;have o1:=rm ob.1;have h17:all.length<=17:=by lia
 refine⟨_,rfl,_,rfl,R,wide,all,rowAt H3,jW,nH,ls,rfl,o1.1,o1.2,bY.of (s39 _ _ hR),h17,LR RO s39,RW,hls,fun T2 wl q' W' ts' out' ws' b0 H10 s10 hT2 a2i _ ap' Bk' Bx' Pu' fr' JB pm' up' J'=>?_⟩;obtain⟨rfl,rfl,ab⟩:=Bt (fun a ha=>(RO.1 a ha).2) RW hls o1.1 o1.2 pm pm' up up' J J';have s310:=s39.trans s10;have fl:∀{H'},Same H3 H'->∀r∈out',H' r=some (.tup (rowAt H3 r))/\(rowAt H3 r).all eZ=true:=fun s r hr=>by
  have f:=VH (s _ _ (RO.1 r (pm.mem_iff.mp hr)).1) (RW r (pm.mem_iff.mp hr));exact⟨f.1,f.2.1⟩
 have nd':=(YW RO pm).2;have ol:out'.length<=16:=by rw[pm.length_eq];exact h16
 refine⟨T2,_,_,_,rfl,rfl,bN.of hT2,aH (j:=1) rfl,wl,ts',VR (rowAt H3) out' ws',rfl,bY.of JB.l,Pb JB (fl s310),by rw[W4 JB.lw];lia,fun wo hwo=>?_⟩
 apply 0o1 H10 wo hwo s11 k11 H11
 have Pg:=s310.trans s11;have ct11:=ct9.same (s10.trans s11);refine⟨_,rfl,_,rfl,R,rfl,⟨_,bY.of (Pg _ _ hR)⟩,fun D hD=>xZ (K:=K) (xs:=all.map V.ref) (fun i ys Hx=>∃bs:List Addr,ys=bs.map V.ref/\Same H11 Hx/\Hx D=some 0x89/\bs.length=i/\∀b∈bs,∃xs,Hx b=some 0x23/\xs.all eZ=true) (fun i ys Hx h=>by obtain⟨_,_,h,_⟩:=h;exact h.seq (bY.of (Pg _ _ hR))) ⟨[],rfl,aK hD _,ao,rfl,fun b hb=>nomatch hb⟩ (fun i ys Hx h=>by obtain⟨_,_,_,h,_⟩:=h;exact h) ?_ ?_⟩
 ·rintro i ys Hx v hv ⟨bs,rfl,sx,uc,hbl,hb⟩;rw[pF]at hv;obtain⟨ra,ha,rfl⟩:=A0J.mp hv;have hi:=(A0j.mp ha).1;have am:=wU ha;obtain⟨kd,x,rr,hvs,hrl⟩:=a2q (nH ra);have hrow:Hx ra=some (.tup (.str kd::.int (jW ra)::x::rr)):=by
   have:=sx _ _ (Pg _ _ (RO.1 ra am).1);rw[(RW ra am).e,hvs]at this;exact this
  have hfl:=(iW (dy:=9999-jW ra) (RW ra am).tx).1;rw[hvs]at hfl;refine⟨Kp.set rfl (Kp.refl _),uR ?_⟩;refine⟨_,rfl,ra,_,_,_,rfl,rfl,bN.of hrow,aH (j:=0) rfl,_,rfl,ra,_,_,_,rfl,rfl,bN.of hrow,aH (j:=1) rfl,_,_,rfl,rfl,small 0xA,fun t ht=>?_⟩;have st:=aK ht (.tup [.str kd,.int (9999-jW ra)]);refine⟨_,rfl,2,rfl,ra,_,rfl,bN.of (st _ _ hrow),fun z=>?_,fun p hp=>?_⟩
  ·rw[sIx2]at z;exact absurd z.1 0x5
  rw[YZ];have sp2:=aK hp (.tup (x::rr));refine⟨t,p,_,_,rfl,rfl,bN.of (sp2 _ _ ao),bN.of ao,by simp,?_,0x2F,fun _ p2 hp2=>?_⟩
  ·simp only[wO,A4Q];exact A1P (jL 0x4)
  have s3':=(st.trans sp2).trans (aK hp2 (.tup ([.str kd,.int (9999-jW ra)]++x::rr)));have k3:(upd (upd (upd Hx t (.tup [.str kd,.int (9999-jW ra)])) p (.tup (x::rr))) p2 (.tup ([.str kd,.int (9999-jW ra)]++x::rr))) p2=some (.tup ([.str kd,.int (9999-jW ra)]++x::rr)):=ao;generalize upd (upd (upd Hx t (.tup [.str kd,.int (9999-jW ra)])) p (.tup (x::rr))) p2 (.tup ([.str kd,.int (9999-jW ra)]++x::rr))=Hw at s3' k3 ⊢;have hDw:=s3' _ _ uc;refine⟨hDw,?_,bs++[p2],by rw[j9];rfl,bU (sx.trans s3') hD,ao,by rw[iD,hbl];rfl,fun b hb'=>?_⟩
  ·rw[cM];exact bO 0x4
  ·rcases A0l.mp hb' with e|e
   ·obtain⟨xs,h1,h2⟩:=hb b e;exact⟨xs,by rw[ak (aO (s3' _ _ h1) hDw 0x6)];exact s3' _ _ h1,h2⟩
   ·rw[A0b.mp e];exact⟨_,by rw[ak (aO k3 hDw 0x6)];exact k3,hfl⟩
 ·rintro ys Hx ⟨bs,rfl,sx,uc,hbl,hb⟩;rw[cM]at hbl;refine⟨R,D,_,_,rfl,rfl,sx _ _ (Pg _ _ hR),uc,(by rw[cM,cM];exact small 0x4),fun c1 hc1=>?_⟩;have s12:=aK hc1 (.lst (all.map V.ref++bs.map V.ref));have k12:(upd Hx c1 (.lst (all.map V.ref++bs.map V.ref))) c1=some (.lst (all.map V.ref++bs.map V.ref)):=ao;have ents:∀v∈all.map V.ref++bs.map V.ref,∃rr xs,v=V.ref rr/\(upd Hx c1 (.lst (all.map V.ref++bs.map V.ref))) rr=some 0x23/\xs.all eZ=true:=fun v hv=>by
   rcases A0l.mp hv with e|e
   ·obtain⟨b,hb1,rfl⟩:=A0e.mp e;have:=fl ((Pg.trans sx).trans s12) b (pm.mem_iff.mpr hb1);exact⟨b,_,rfl,this.1,this.2⟩
   ·obtain⟨b,hb1,rfl⟩:=A0e.mp e;obtain⟨xs,h1,h2⟩:=hb b hb1;exact⟨b,xs,rfl,s12 _ _ h1,h2⟩
  generalize upd Hx c1 (.lst (all.map V.ref++bs.map V.ref))=H12 at s12 k12 ents ⊢;have a4c:=sx.trans s12;refine⟨c1,rfl,⟨_,bY.of k12⟩,gA (K:=K) (a:=c1) (xs:=all.map V.ref++bs.map V.ref) (fun i σ Hy=>∃(u9 u10:Option V),σ=[some 0x4E,some 0x60,some (.ref rp),some (.ref R),some (.int wide),some (.int rich),some (.ref lm),some (.ref c),some (.ref wo),u9,u10]/\Same H12 Hy)
   ⟨none,none,rfl,Same.refl _⟩ (fun i σ Hy _ h=>by obtain⟨_,_,_,h⟩:=h;exact h.seq (bY.of k12)) ?_ ?_⟩
  ·rintro i v σ Hy hv ⟨u9,u10,rfl,sy⟩;obtain⟨rr,xs,rfl,hrr,hxs⟩:=ents v (wU hv);have a2s:=a4c.trans sy;have cty:=ct11.same a2s;refine⟨_,rfl,_,rfl,c,dc,z.z,jl,ll,wide,rich,ts,out',ws',rowAt H3,rr,xs,rfl,cty.o,cty.J,fl (Pg.trans a2s),nd',sy _ _ hrr,hxs,?_⟩;have key:∀{H'},Same Hy H'->∀o,bJ (iU [] (VR (rowAt H3) out' ws')) (xs.map YX)=o->dj H' wo (.ref rr) o:=fun s o e=>by
    rw[<-e];exact dj.t (s _ _ (a2s _ _ k11)) (by rw[Bv hxs];exact s _ _ (sy _ _ hrr))
   rcases W6 JB.lw (fun a ha=>(fl (Same.refl _) a ha).2) nd' hxs with⟨hn,hv0⟩|⟨j,w0,hj,hw,hv0⟩
   ·refine .inr ⟨hn,fun T3 l3 H13 Vy hT3 hl3=>?_⟩;refine⟨_,rfl,_,rfl,wo,none,rfl,key Vy _ hv0,_,rfl,cg (cg ?_)⟩;refine⟨_,rfl,_,rfl,wo,none,rfl,key Vy _ hv0,_,rfl,cW ⟨_,rfl,small 0xA,fun l4 hl4=>⟨small 0xA,fun t4 Vo=>?_⟩⟩⟩;have s14:=(aK hl4 (.lst IV));have s15:=aK Vo (.tup [.ref l4,.str ""]);have Em:=s14.trans s15;refine Fv (bs:=[true,true,false,false]) (w:="") 0x7 (Em _ _ hT3) (Em _ _ hl3) ao (s15 _ _ ao) ⟨_,rfl,cg ?_⟩;exact⟨_,_,rfl,(sy.trans Vy).trans Em⟩
   ·refine .inl ⟨j,w0,hj,hw,fun T3 l3 H13 Vy hT3 hl3=>?_⟩;refine⟨_,rfl,_,rfl,wo,some (.str w0),rfl,key Vy _ hv0,_,rfl,cW ⟨_,rfl,small 0xA,fun l4 hl4=>?_⟩⟩;have s14:=(aK hl4 0x54);refine⟨_,rfl,_,rfl,wo,_,rfl,key (Vy.trans s14) _ hv0,small 0xA,fun t4 Vo=>?_⟩;have s15:=aK Vo (.tup [.ref l4,.str w0]);have Em:=s14.trans s15;refine Fv (bs:=[]) (J.ok w0 (wU hw)) (Em _ _ hT3) (Em _ _ hl3) ao (s15 _ _ ao) ⟨_,rfl,cg ?_⟩;refine⟨_,rfl,_,rfl,wo,some (.str w0),rfl,key (Vy.trans Em) _ hv0,_,rfl,cg (cg ?_)⟩;exact⟨_,_,rfl,(sy.trans Vy).trans Em⟩
  ·rintro σ Hy ⟨u9,u10,rfl,sy⟩;exact kk _
end
def Bnd(x q:Str)(st:Stmt)(ps:List Str):Prop:=∀(kV doc pm:Value)(an:Option Addr)(cdv ct:Value)(us:List Value),us.length=ps.length->bindArgs (PySem.W.fnOf x q (mJ st) (iJ st) (aJ st) .none kV doc pm an cdv ct) ⟨us,[]⟩=pure (ps.zip us)
inductive Dq(K:W.Frag)(x q:Str)(st:Stmt)(f:Addr):Prop
 |mk(oc:Value)(od:Option Addr)(kV dc pm:Value)(an:Option Addr)(cd ct:Value)(sl:Array (Option Value))(_:K.lookup f=some ⟨oc,od,.func (PySem.W.fnOf x q (mJ st) (iJ st) (aJ st) .none kV dc pm an cd ct),sl⟩)(_:PySem.W.codeIn K cd q=true)(_:PySem.W.keepIn K 0x48=true):Dq K x q st f
def Df(K:PySem.W.Frag):List (Str×Stmt×List Str×Addr)->Prop
 |[]=>True
 |(x,st,ps,f)::r=>(PySem.W.nsIn K mainGlobals x=some (some 0x48)/\Dq K x x st f/\Bnd x x st ps)/\Df K r
def Mf(K:PySem.W.Frag)(C:Addr)(c:Str):List (Str×Stmt×List Str×Addr)->Prop
 |[]=>True
 |(x,st,ps,f)::r=>(PySem.W.findIn K 0x59 x=some (some 0x48)/\PySem.W.isFn K 0x48=true/\Dq K x (c++x) st f/\Bnd x (c++x) st ps)/\Mf K C c r
def Na(K:PySem.W.Frag)(C:Addr):List Str->Prop
 |[]=>True
 |x::r=>PySem.W.findIn K 0x59 x=some none/\Na K C r
def Nn(K:PySem.W.Frag):List Str->Prop
 |[]=>True
 |x::r=>PySem.W.nsIn K mainGlobals x=some none/\Nn K r
def Nz(mg:Str->Option Value):List Str->Prop
 |[]=>True
 |x::r=>mg x=none/\Nz mg r
def Qn(K:PySem.W.Frag):List 0x91->Prop
 |[]=>True
 |(x,v)::r=>PySem.W.nsIn K mainGlobals x=some (some v)/\Qn K r
def Qm(mg:Str->Option Value):List 0x91->Prop
 |[]=>True
 |(x,v)::r=>mg x=some v/\Qm mg r
structure XCd(K:PySem.W.Frag)(D:Addr)(cd:ClassData):Prop where
 ga:PySem.W.findIn K 0x4F "__getattribute__"=some (some (.builtin "BaseException.__getattribute__"))
 gh:PySem.W.findIn K 0x4F "__getattr__"=some none
 cl:PySem.W.clsIn K D=some cd
 ca:PySem.W.findIn K 0x4F "__class__"=some (some 0x25)
 gs:PySem.W.specialIn K 0x25 "__get__"=some (some 0x39)
 tk:PySem.W.takesIn K 0x25=some true
 ob:PySem.W.mroIn K D (.type "object")=some true
 be:PySem.W.mroIn K D (.type "BaseException")=some true
def XCd.x{D:Addr}{cd:ClassData}(h:XCd K D cd):XC K D:=⟨h.ga,h.gh,by rw[h.cl];rfl,h.ca,h.gs,h.tk,h.ob,h.be⟩
theorem on0{P:List Value->Prop}(h:P []):∀us:List Value,us.length=0->P us
 |[],_=>h
theorem onS{P:List Value->Prop}(h:∀(a:Value)(us:List Value),us.length=n->P (a::us)):∀us:List Value,us.length=n+1->P us
 |a::us,e=>h a us (Nat.succ.inj e)
def W8{d:Option Addr}{it:Array Value}{ss:Array (Option Value)}(h:K.lookup a=some ⟨.type "tuple",d,.seq it n,ss⟩)(hs:it.size<=sizeLine)(hv:Vals xs it.toList):KTp K a xs:=⟨_,it,n,h,rfl,rfl,hs,hv⟩
section
variable{x:Str}
def dq_f(h:Dq K x q st f):∃fd,fj K x q st f fd/\PySem.W.keepIn K 0x48=true:=by
 obtain⟨oc,od,kV,dc,pm,an,cd,ct,sl,L,c,k⟩:=h;exact⟨_,QG L c k,k⟩
def jJ(X:K.In h)(G:h.Ns mainGlobals mg)(a:PySem.W.nsIn K mainGlobals x=some (some 0x48)/\Dq K x x st f/\Bnd x x st ps):∃d,fj K x x st f d/\Ms K mg x f d ps:=by
 obtain⟨a,l,b⟩:=a;obtain⟨d,F,k⟩:=dq_f l;exact⟨d,F,F.binds b,k,PySem.W.mg_of X G a⟩
def tu(a:PySem.W.findIn K 0x59 x=some (some 0x48)/\PySem.W.isFn K 0x48=true/\Dq K x q st f/\Bnd x q st ps):∃d,fj K x q st f d/\Meth K C x f/\Binds K d ps []:=by
 obtain⟨a,i,l,b⟩:=a;obtain⟨d,F,k⟩:=dq_f l;exact⟨d,F,⟨a,i,k⟩,F.binds b⟩
theorem Nn.m(X:K.In h)(G:h.Ns mainGlobals mg):∀{l:List Str},Nn K l->Nz mg l
 |[],_=>True.intro
 |_::_,⟨a,b⟩=>⟨PySem.W.mg_none_of X G a,Nn.m X G b⟩
theorem Qn.m(X:K.In h)(G:h.Ns mainGlobals mg):∀{l:List 0x91},Qn K l->Qm mg l
 |[],_=>True.intro
 |(_,_)::_,⟨a,b⟩=>⟨PySem.W.mg_of X G a,Qn.m X G b⟩
end
def all_mk{cdE cdN:ClassData}{l:PySem.W.OpenLaw}{fa f1 f2 f3 f4 f5 f6 f7 f8 f9 Ws f11 f12 f13 f14 f15 f16 f17 f18 f19 f20 f21 f22 f23 f24 f25 f26 f27 f28 f29 f30 f31 f32 f33 f34 f35 f36 f37 f38 f39 f40 f41 f42 f43 f44 f45 f46 f47 f48 f49 f50 f_I f_Th f_Ho f_Lo f_Ow f_He f_Un f_Gr f_Pa f_Co f_Fa f_Ck f_Ad f_Sa f_Tw f_KI f_KH f_KX f_KT f_KD f_RI f_CI f_Ed f_Ca f_Cb f_Cv L_ NF_ W9 NS_ Wa CR aF aB aW aD b1_ b2_ b3_ b4_ b5_ b6_ b7_ z1_ z2_ z3_ z4_ z5_ z6_ z7_:Addr}{tC:Tok}{esaB esaF esaW esaD:Array DictEntry}{naB naF naW naD:Nat}{a2t a2u:Array Value}{nb2_ nb4_:Nat}{db2_ db4_:Option Addr}{sb2_ sb4_:Array (Option Value)}(X:K.In h)(G:h.Ns mainGlobals mg)(hfa:mg "law"=some (.ref fa))
  (A:Df K (("fits",Km,A5w,f1)::("check_acres",Xz,["acres"],f2)::("part",RZ,["top","bottom"],f3)::("minus",GQ,["a","b"],f4)::("common_measure",a02,["a","b"],f5)::("judged_order",Az,["rows"],f6)::("place_in_order",Ik,["row"],f7)::("judge",vO,A5b,f8)::("word_of_new",sWN,A5b,f9)::("word_of_convey",sWC,A5b,Ws)::("word_of_surrender",sWS,A5b,f11)::("word_of_living",sWL,A5b,f12)::("do_grant",sDG,A5b,f13)::("do_part",sDP,A5b,f14)::("do_convey",sDC,A5b,f15)::("do_surrender",sDS,A5b,f16)::("do_heir",sDH,A5b,f17)::("do_death",sDD,A5b,f18)::("word_of_liege",a1C,A5b,f19)::("is_bound",a1D,["ground","man","lord"],f20)::("do_liege",a1E,A5b,f21)::("check_land",ur,A5H,f22)::("by_days",Bg,["rows"],f23)::("_law_feed",S5,["_law_script","_law_many"],f24)::("_law_same",Du,A5p,f25)::("_law_low",a03,["_law_top","_law_bottom"],f26)::("_law_names",Bo,["_law_d","_law_many"],f27)::("_law_book",DP,["_law_acres"],f28)::("_law_under",Y0,A5e,f29)::("_law_breadth",a1k,A5e,f30)::("_law_held",Y4,A5d,f31)::("_law_bound_to",Y5,A5d,f32)::("_law_why",a2d,A5g,f33)::("_law_fall",a1q,A5e,f34)::("_law_new",sNew,A5k,f35)::("_law_taker",Bl,A5d,f36)::("_law_do",sDo,A5g,f37)::("_law_word",Ja,A5g,f38)::("_law_kinds",Il,[],f39)::("_law_sorted",Ba,["_law_rows_here"],f40)::("_law_ahead",Im,A5G,f41)::("_law_books",Bm,A5I,f42)::("_law_pools",Jg,["_law_feed_here"],f43)::("_law_lord_for",sLf,A5o,f44)::("_law_row",VD,A5n,f45)::("_law_rows",Jj,A5j,f46)::("_law_all_ways",sAW,[],f47)::("_law_why_court",a1T,A5q,f48)::("_law_why_verdict",a1U,["_law_court","_law_row_here"],f49)::("law",Fw,["_law_script"],f50)::[]))
  (B0:Mf K C "Land." (("__init__",Rr,A5s,f_I)::("there",Gy,A5c,f_Th)::("holder",zU,A5c,f_Ho)::("lord",Rt,A5c,f_Lo)::("own",a0W,A5c,f_Ow)::("held",Kf,A5h,f_He)::("under",zV,A5c,f_Un)::("grant",Gz,A5m,f_Gr)::("part_off",v8,A5v,f_Pa)::("convey",zW,A5y,f_Co)::("fall_back",Ru,A5c,f_Fa)::("check_there",GD,A5c,f_Ck)::("add_estate",a0X,A5i,f_Ad)::("same",GC,["self","other"],f_Sa)::("twin",Rv,A5z,f_Tw)::[]))
  (B1:Mf K CK "Kin." (("__init__",U0,A5z,f_KI)::("name_heir",Hv,["self","man","heir"],f_KH)::("die",a1w,A5h,f_KX)::("taker",HJ,A5h,f_KT)::("is_dead",Aq,A5h,f_KD)::[]))
  (B2:Mf K CR "Realm." (("__init__",Aw,A5s,f_RI)::[]))
  (B3:Mf K CC "Court." (("__init__",uw,A5x,f_CI)::("end_day",Bh,["self","day"],f_Ed)::("acres",a1V,A5z,f_Ca)::("bears",a1W,A5z,f_Cb)::("verdict",V7,["self","row"],f_Cv)::[]))
  (cC:Cls K C/\PySem.W.makesIn K C=true/\PySem.W.keepIn K 0x59=true/\Na K C ["lord_of","holder_of","own_of","service_of","breadth_of"])
  (cCK:Cls K CK/\PySem.W.makesIn K CK=true/\PySem.W.keepIn K (.ref CK)=true/\Na K CK ["heir_of","gone"])
  (cCR:Cls K CR/\PySem.W.makesIn K CR=true/\PySem.W.keepIn K (.ref CR)=true/\Na K CR ["ground","kin","used","lieges","deaths"])
  (cCC:Cls K CC/\PySem.W.makesIn K CC=true/\PySem.W.keepIn K (.ref CC)=true/\Na K CC ["many_acres","coins","realm","judged","lands"])
  (Z:Nn K ["isinstance","bool","int","str","list","tuple","len","all","zip","range","sorted","max","min","abs","dict","ValueError"])
  (Q:Qn K (("CROWN",.str "" tC)::("STANDS",.str "stands" tS)::("BOUNDS",.ref aB)::("FORMS",.ref aF)::("WORDS",.ref aW)::("DEEDS",.ref aD)::("Land",.ref C)::("Kin",.ref CK)::("Realm",.ref CR)::("Court",.ref CC)::("LandError",.ref L_)::("NoForm",.ref NF_)::("NoEntry",.ref W9)::("NoEstate",.ref NS_)::("NoLand",.ref Wa)::[]))
  (kaB:K.lookup aB=some ⟨.type "dict",none,.dict esaB naB,#[]⟩)
  (eaB:gM w.params esaB.toList [("day",.ref b1_),("acres",.ref b2_),("service",.ref b3_),("bears",.ref b4_),("edge",.ref b5_),("number",.ref b6_),("entry",.ref b7_)])
  (laB:(aB==sysModules)=false)
  (kaF:K.lookup aF=some ⟨.type "dict",none,.dict esaF naF,#[]⟩)
  (eaF:gM w.params esaF.toList [("heir",.ref z1_),("grant",.ref z2_),("part",.ref z3_),("convey",.ref z4_),("liege",.ref z5_),("surrender",.ref z6_),("death",.ref z7_)])
  (laF:(aF==sysModules)=false)
  (kaW:K.lookup aW=some ⟨.type "dict",none,.dict esaW naW,#[]⟩)
  (eaW:gM w.params esaW.toList [("heir",.ref f12),("grant",.ref f9),("part",.ref f9),("convey",.ref Ws),("liege",.ref f19),("surrender",.ref f11),("death",.ref f12)])
  (laW:(aW==sysModules)=false)
  (kaD:K.lookup aD=some ⟨.type "dict",none,.dict esaD naD,#[]⟩)
  (eaD:gM w.params esaD.toList [("heir",.ref f17),("grant",.ref f13),("part",.ref f14),("convey",.ref f15),("liege",.ref f21),("surrender",.ref f16),("death",.ref f18)])
  (laD:(aD==sysModules)=false)
  (tb2_:K.lookup b2_=some ⟨.type "tuple",db2_,.seq a2t nb2_,sb2_⟩)
  (zb2_:a2t.size<=sizeLine)
  (vb2_:Vals [.int 1,.int 9999] a2t.toList)
  (tb4_:K.lookup b4_=some ⟨.type "tuple",db4_,.seq a2u nb4_,sb4_⟩)
  (zb4_:a2u.size<=sizeLine)
  (vb4_:Vals [.int 0,.int 99] a2u.toList)
  (xE:PySem.W.excIn K W9 Dh "ValueError.__new__"=true/\XCd K W9 cdE/\PySem.W.exmOne K (.ref W9) (.ref L_)=some true)
  (xN:PySem.W.excIn K Wa Dh "ValueError.__new__"=true/\XCd K Wa cdN/\PySem.W.exmOne K (.ref Wa) (.ref L_)=some true)
  (yy:PySem.W.kitOne K (.ref W9) (.type "ValueError")=some true/\PySem.W.kitOne K (.ref W9) (.ref W9)=some true/\PySem.W.kitOne K (.ref W9) (.ref Wa)=some false/\PySem.W.kitOne K (.ref W9) (.ref NF_)=some false/\PySem.W.kitOne K (.ref Wa) (.ref Wa)=some true/\PySem.W.kitOne K (.ref Wa) (.ref W9)=some false/\PySem.W.kitOne K (.ref Wa) (.ref NS_)=some false/\PySem.W.kitOne K (.ref Wa) (.ref NF_)=some false):
  ∃fd:FuncData,(∀(s:Shared)(v:Value),BindsTo s fd ⟨[v],[]⟩ [("_law_script",v)])/\∀base:Heap,K.In base->base.Ns mainGlobals mg->aL l.prog w K mg base bL 10 fa fd ["_law_script"] (Fx K):=by
 obtain⟨h1,h2,h3,h4,h5,h6,h7,h8,h9,h10,h11,h12,h13,h14,h15,h16,h17,h18,h19,h20,h21,h22,h23,h24,h25,h26,h27,h28,h29,h30,h31,h32,h33,h34,h35,h36,h37,h38,h39,h40,h41,h42,h43,h44,h45,h46,h47,h48,h49,h50,_⟩:=A;obtain⟨x0,⟨oc,od,kV,dc,pm,an,cd,ct,sl,L,c,kp⟩,_⟩:=h50;cases hfa.symm.trans (PySem.W.mg_of X G x0);have F50:=QG (st:=Fw) L c kp;refine⟨PySem.W.fnOf "law" "law" (mJ Fw) (iJ Fw) (aJ Fw) .none kV dc pm an cd ct,fun s v=>.of_eq rfl,fun base _ _=>?_⟩;obtain⟨_,F1,M1⟩:=jJ X G h1;obtain⟨_,F2,M2⟩:=jJ X G h2;obtain⟨_,F3,M3⟩:=jJ X G h3;obtain⟨_,F4,M4⟩:=jJ X G h4;obtain⟨_,F5,M5⟩:=jJ X G h5;obtain⟨_,F6,M6⟩:=jJ X G h6;obtain⟨_,F7,M7⟩:=jJ X G h7;obtain⟨_,F8,M8⟩:=jJ X G h8;obtain⟨_,F9,M9⟩:=jJ X G h9;obtain⟨_,F10,M10⟩:=jJ X G h10;obtain⟨_,F11,M11⟩:=jJ X G h11;obtain⟨_,F12,M12⟩:=jJ X G h12;obtain⟨_,F13,M13⟩:=jJ X G h13;obtain⟨_,F14,M14⟩:=jJ X G h14;obtain⟨_,F15,M15⟩:=jJ X G h15;obtain⟨_,F16,M16⟩:=jJ X G h16;obtain⟨_,F17,M17⟩:=jJ X G h17;obtain⟨_,F18,M18⟩:=jJ X G h18;obtain⟨_,F19,M19⟩:=jJ X G h19;obtain⟨_,F20,M20⟩:=jJ X G h20;obtain⟨_,F21,M21⟩:=jJ X G h21;obtain⟨_,F22,M22⟩:=jJ X G h22;obtain⟨_,F23,M23⟩:=jJ X G h23;obtain⟨_,F24,M24⟩:=jJ X G h24;obtain⟨_,F25,M25⟩:=jJ X G h25;obtain⟨_,F26,M26⟩:=jJ X G h26;obtain⟨_,F27,M27⟩:=jJ X G h27;obtain⟨_,F28,M28⟩:=jJ X G h28;obtain⟨_,F29,M29⟩:=jJ X G h29;obtain⟨_,F30,M30⟩:=jJ X G h30;obtain⟨_,F31,M31⟩:=jJ X G h31;obtain⟨_,F32,M32⟩:=jJ X G h32;obtain⟨_,F33,M33⟩:=jJ X G h33;obtain⟨_,F34,M34⟩:=jJ X G h34;obtain⟨_,F35,M35⟩:=jJ X G h35;obtain⟨_,F36,M36⟩:=jJ X G h36;obtain⟨_,F37,M37⟩:=jJ X G h37;obtain⟨_,F38,M38⟩:=jJ X G h38;obtain⟨_,F39,M39⟩:=jJ X G h39;obtain⟨_,F40,M40⟩:=jJ X G h40;obtain⟨_,F41,M41⟩:=jJ X G h41;obtain⟨_,F42,M42⟩:=jJ X G h42;obtain⟨_,F43,M43⟩:=jJ X G h43;obtain⟨_,F44,M44⟩:=jJ X G h44;obtain⟨_,F45,M45⟩:=jJ X G h45;obtain⟨_,F46,M46⟩:=jJ X G h46;obtain⟨_,F47,M47⟩:=jJ X G h47;obtain⟨_,F48,M48⟩:=jJ X G h48;obtain⟨_,F49,M49⟩:=jJ X G h49;obtain⟨xI,xTh,xHo,xLo,xOw,xHe,xUn,tH,tK,xCo,xFa,xCk,xAd,xSa,xTw,_⟩:=B0;obtain⟨_,F_I,m_I,b_I⟩:=tu xI;obtain⟨_,F_Th,Z0,Z1⟩:=tu xTh;obtain⟨_,F_Ho,m_Ho,b_Ho⟩:=tu xHo;obtain⟨_,F_Lo,m_Lo,b_Lo⟩:=tu xLo;obtain⟨_,F_Ow,m_Ow,b_Ow⟩:=tu xOw;obtain⟨_,F_He,m_He,b_He⟩:=tu xHe;obtain⟨_,F_Un,m_Un,b_Un⟩:=tu xUn;obtain⟨_,F_Gr,m_Gr,b_Gr⟩:=tu tH;obtain⟨_,F_Pa,m_Pa,b_Pa⟩:=tu tK;obtain⟨_,F_Co,m_Co,b_Co⟩:=tu xCo;obtain⟨_,F_Fa,m_Fa,b_Fa⟩:=tu xFa;obtain⟨_,F_Ck,Z2,Z4⟩:=tu xCk;obtain⟨_,F_Ad,m_Ad,b_Ad⟩:=tu xAd;obtain⟨_,F_Sa,m_Sa,b_Sa⟩:=tu xSa;obtain⟨_,F_Tw,m_Tw,b_Tw⟩:=tu xTw;obtain⟨xKI,xKH,xKX,xKT,xKD,_⟩:=B1;obtain⟨_,F_KI,m_KI,b_KI⟩:=tu xKI;obtain⟨_,F_KH,m_KH,b_KH⟩:=tu xKH;obtain⟨_,F_KX,m_KX,b_KX⟩:=tu xKX;obtain⟨_,F_KT,m_KT,b_KT⟩:=tu xKT;obtain⟨_,F_KD,Wb,Wc⟩:=tu xKD;obtain⟨xRI,_⟩:=B2;obtain⟨_,F_RI,m_RI,b_RI⟩:=tu xRI;obtain⟨xCI,xEd,xCa,xCb,xCv,_⟩:=B3;obtain⟨_,F_CI,m_CI,b_CI⟩:=tu xCI;obtain⟨_,F_Ed,m_Ed,b_Ed⟩:=tu xEd;obtain⟨_,F_Ca,m_Ca,b_Ca⟩:=tu xCa;obtain⟨_,F_Cb,m_Cb,b_Cb⟩:=tu xCb;obtain⟨_,F_Cv,m_Cv,b_Cv⟩:=tu xCv;obtain⟨kC,mkC,kpC,aC1,aC2,aC3,aC4,aC5,_⟩:=cC;obtain⟨kCK,mkCK,kpCK,aCK1,aCK2,_⟩:=cCK;obtain⟨kCR,mkCR,kpCR,aCR1,aCR2,aCR3,aCR4,aCR5,_⟩:=cCR;obtain⟨kCC,mkCC,kpCC,aCC1,aCC2,aCC3,aCC4,aCC5,_⟩:=cCC;obtain⟨n6,a2v,a4d,a4e,wK,Z5,wM,a4f,a4g,uF,lX,a4h,a0g,a0h,Wd,BJ,_⟩:=Z.m X G;obtain⟨BK,lY,Fz,Z6,Z7,Z8,Wg,a4i,Z9,Za,FJ,Wh,Ph,Jm,Wi,_⟩:=Q.m X G;have ms:MgS mg:=⟨n6,a2v,a4d,a4e,wK,Z5,wM,a4f,a4g⟩;have T:fK K C:=⟨kC,aC1,aC2,aC3,aC4,aC5⟩;have TK:tL K CK:=⟨kCK,aCK1,aCK2⟩;have TR:gP K CR:=⟨kCR,aCR1,aCR2,aCR3,aCR4,aCR5⟩;have TC:oK K CC:=⟨kCC,aCC1,aCC2,aCC3,aCC4,aCC5⟩;have mo:XD K w.params mg:=⟨⟨aB,b1_,b2_,b3_,b4_,b5_,b6_,b7_,Fz,⟨⟨_,_,kaB,eaB⟩,laB⟩,W8 tb2_ zb2_ vb2_⟩,⟨tC,BK⟩⟩;have mb:ModB K w.params mg:=⟨⟨aB,b1_,b2_,b3_,b4_,b5_,b6_,b7_,Fz,⟨⟨_,_,kaB,eaB⟩,laB⟩,W8 tb4_ zb4_ vb4_⟩⟩;have fo:Forms K w.params mg:=⟨aF,_,Z6,⟨⟨_,_,kaF,eaF⟩,laF⟩,rfl⟩;have TB:Tabs K w.params mg f9 f12 f19 Ws f11 f13 f17 f18 f21 f14 f15 f16:=⟨⟨aW,Z7,⟨⟨_,_,kaW,eaW⟩,laW⟩⟩,⟨aD,Z8,⟨⟨_,_,kaD,eaD⟩,laD⟩⟩⟩;have G5:=0o7 a08 F5;have G3:=0o7 Xv F3 a0h G5 M5;have G4:=0o7 Sh F4 G3 M3
 have GfX:=0o7 YD F1 mo;have GfBX:=0o7 Vc F1 mb;have G1:=GfX.imp fun _ _ _ _ h=>fitA h;have GfB:=GfBX.imp fun _ _ _ _ h=>fitB h;have G2:=0o7 a1b F2 G1 M1;have G22:=0o7 Ot F22 G2 M2 GfB M1;have G_I:=0o7 XF T F_I mo G2 M2;have Zb:=0o7 RK T F_Th;have Zc:=0o7 Nq T F_Ck Zb Z0 Z1;have G_Ho:=0o7 Nr T F_Ho Zc Z2 Z4;have G_Lo:=0o7 Xj T F_Lo Zc Z2 Z4;have G_Ow:=0o7 a0Z T F_Ow Zc Z2 Z4;have G_He:=0o7 Xk T lX F_He;have G_Un:=0o7 RT T lX F_Un Zc Z2 Z4;have G_Ad:=0o7 a00 T F_Ad;have G_Co:=0o7 Nt T F_Co;have G_Gr:=0o7 RV T F_Gr G_Ad m_Ad b_Ad;have G_Pa:=0o7 Hg T F_Pa G_Ad m_Ad b_Ad G3 M3 G4 M4;have G_Fa:=0o7 Xm T F_Fa G_Un m_Un b_Un;have G_Sa:=0o7 U6 T F_Sa;have G_Tw:=0o7 U7 T F_Tw mo Wd G_I ⟨mkC,m_I.at_,m_I.fn,kpC⟩ Wg b_I;have G_KI:=0o7 Ym TK F_KI;have Wj:=0o7 Yb TK F_KD;have G_KH:=0o7 Y9 TK BK F_KH;have G_KX:=0o7 a1y TK BK F_KX;have G_KT:=0o7 U4 TK F_KT Wj Wb Wc;have G_RI:=0o7 O9 T TR F_RI G_I ⟨mkC,m_I.at_,m_I.fn,kpC⟩ Wg b_I G_KI ⟨mkCK,m_KI.at_,m_KI.fn,kpCK⟩ a4i b_KI;have G9:=0o7 a3q T TK TR F9 lY Zb Z0 Z1 Wj Wb Wc G_Ow m_Ow b_Ow;have G10:=0o7 a3r T TK TR F10 lY Zb Z0 Z1 Wj Wb Wc;have G11:=0o7 a3s (CK:=CK) T TR F11 lY Zb Z0 Z1;have G12:=0o7 a3t (C:=C) TK TR F12 lY Wj Wb Wc;have G13:=0o7 a3w (CK:=CK) T TR F13 (aL.mono (k:=4) G_Gr 0x4) m_Gr b_Gr;have G14:=0o7 a3x (CK:=CK) T TR F14 (aL.mono (k:=4) G_Pa 0x4) m_Pa b_Pa;have G15:=0o7 a3y (CK:=CK) T TR F15 (aL.mono (k:=4) G_Co 0x4) m_Co b_Co;have G16:=0o7 a3z (CK:=CK) T TR F16 G_Fa m_Fa b_Fa;have G17:=0o7 a3A (C:=C) TK TR F17 (aL.mono (k:=4) G_KH 0x4) m_KH b_KH;have G18:=0o7 a3B T TK TR F18 G_KX m_KX b_KX G_KT m_KT b_KT G_He m_He b_He G_Fa m_Fa b_Fa (aL.mono (k:=4) G_Co 0x4) m_Co b_Co;have G20:=0o7 a1K T F20 G_He m_He b_He G_Ho m_Ho b_Ho G_Lo m_Lo b_Lo;have G19:=0o7 a1L TK T TR F19 lY G20 M20 Wj Wb Wc;have G21:=0o7 a3D (CK:=CK) (C:=C) TR F21;have G8:=0o7 Uk F8 lY TB G9 M9 G12 M12 G19 M19 G10 M10 G11 M11 G13 M13 G17 M17 G18 M18 G21 M21 G14 M14 G15 M15 G16 M16;have G7:=0o7 Ut F7 fo wK;have G6:=0o7 Od F6 lX G7 M7;have G23:=0o7 Oj F23 G6 M6;have G_Ed:=0o7 Oo (CK:=CK) TC TR T F_Ed G_Tw m_Tw b_Tw G_Sa m_Sa b_Sa;have G_CI:=0o7 Oq TC TR T F_CI G22 M22 G_RI ⟨mkCR,m_RI.at_,m_RI.fn,kpCR⟩ Z9 b_RI G_Tw m_Tw b_Tw G23 M23 G8 M8 G_Ed m_Ed b_Ed;have cl:Classes K mg L_ NF_ W9 NS_ Wa:=⟨FJ,Wh,Ph,Jm,Wi,xE.1,xN.1,xE.2.1.x,xN.2.1.x,xE.2.2,xN.2.2,yy.1,yy.2.1,yy.2.2.1,yy.2.2.2.1,yy.2.2.2.2.1,yy.2.2.2.2.2.1,yy.2.2.2.2.2.2.1,yy.2.2.2.2.2.2.2⟩;have GcX:=0o7 a1X F2 cl.mN cl.hN GfX M1;have GlX:=0o7 YF F22 cl.mN cl.hN ((aL.lift _ G2).or GcX) M2 GfBX M1;have G_CX:=0o7 Ov F_CI GlX M22;have G_Ca:=0o7 a1Z TC F_Ca;have G_Cb:=0o7 a2a TC F_Cb;have G_Cv:=0o7 a2b TC F_Cv cl.mE cl.hE;have G24:=0o7 Xn F24 uF wM;have GsI:=0o7 S7 F25 ms;have G25:=0o7 Xp F25 ms M25 GsI;have G26:=0o7 a09 F26 a0h;have G27:=0o7 Vw F27 wM uF;have G28:=0o7 XJ F28;have G29:=0o7 a1l lX F29;have G30:=0o7 a1p F30 G29 M29;have G31:=0o7 a1m lX F31;have G32:=0o7 a1n F32 G31 M31;have G33:=0o7 a2e F33 G32 M32;have G34:=0o7 a3m F34 G29 M29;have G35:=0o7 a1s F35;have G36:=0o7 a3I F36;have G37:=0o7 a3J F37 G35 M35 G36 M36 G31 M31 G34 M34 G30 M30 G26 M26;have G38:=0o7 Vr F38 G33 M33 G37 M37;have G39:=0o7 Us F39;have G41:=0o7 UG F41 G39 M39;have G40:=0o7 Oh F40 wM G41 M41;have G42:=0o7 OD F42 G28 M28 G40 M40 G38 M38;have G43:=0o7 Vx F43 G27 M27;have G44:=0o7 a3O F44 wM G32 M32;have G45:=0o7 a2m F45 lX wK wM a4h a0g G44 M44;have G46:=0o7 VN F46 uF wM a0g G28 M28 G45 M45 G38 M38;have G48:=0o7 a1Y F48 n6 cl ((aL.lift _ G_CI).or G_CX) ⟨mkCC,m_CI.at_,m_CI.fn,kpCC⟩ Za b_CI;have G49:=0o7 a2c TC F49 n6 BJ cl G_Cv m_Cv b_Cv;have G47:=0o7 a3Y F47 wK uF;exact a2r TC F50 wK Wd G24 M24 G43 M43 G46 M46 G48 M48 G42 M42 G49 M49 G47 M47 G_Ca m_Ca b_Ca G_Cb m_Cb b_Cb G25 M25
def walk{l:PySem.W.OpenLaw}{q:Program}{d:DefRec}{K:Params->PySem.W.Frag}(hn:l.most=some 63)(hdf:d.params.defaults=[])
  (hY:∀(w:World)(h:Heap),YP w h->(K w.params).In h)
  (F:∀(w:World)(mg:Str->Option Value)(fa:Addr)(h:Heap),(K w.params).In h->h.Ns mainGlobals mg->mg d.name=some (.ref fa)->
   ∃fd:FuncData,(∀(s:Shared)(u:Value),BindsTo s fd ⟨[u],[]⟩ [("_law_script",u)])/\∀base:Heap,(K w.params).In base->base.Ns mainGlobals mg->aL l.prog w (K w.params) mg base bL 10 fa fd ["_law_script"] (Fx (K w.params))):
  PySem.W.WalkO q loose XP YP l.row.toRowW d [] (fun f vs=>PySem.call f vs):=
 L2.WW (n:=63) (k:=10) (x:="_law_script") (CX:=fun _=>bL) (sp:=fun w=>Fx (K w.params)) hn 0x5 hdf ⟨rfl,by decide,by decide⟩ hY F (fun _ _ a ns hl _ hS=>⟨a,ns,rfl,hS,hl,fun _=>rfl⟩) fun _ _ _ _ _ z=>z
end M
namespace PySem.W.Fast
def tw12213010303153507308:=0
def tw3392370667509655079:=0
def tw4637393013756971933:=0
def tw122304114520135895:=0
def tw1775507368875080430:=0
def tw24808878438165562:=0
def tw10388358910875620779:=0
def tw6289828820090761863:=0
def tw10735387381085377976:=0
def tw17018074800007790869:=0
def tw16622601846595349264:=0
def tw14284580805745544828:=0
def tw11225580408353318956:=0
def tw8389800801076251855:=0
def tw406568288319997438:=0
def tw5878665844691383911:=0
def tw5467405502357542508:=0
def tw17865311762767789885:=0
def tw11009454892032226774:=0
def tw15896490343597672529:=0
def tw1922186929114840990:=0
def tw1036619507437212981:=0
def tw18019448875268180300:=0
def tw739790563795691091:=0
def tw2558443799233409931:=0
def tw15999314065405857081:=0
def tw1438965612738462823:=0
def tw10197223352081499304:=0
def tw18132887203757481392:=0
def tw564855287038867069:=0
def tw16474450451151159309:=0
def tw5076776435052237404:=0
def tw17678909287562465288:=0
def tw4173167655659888712:=0
def tw17359903292538448342:=0
def tw12604215595966303044:=0
def tw15549486182506726007:=0
def tw4982964592760571334:=0
def tw10532512834358010759:=0
def tw14487773465990430945:=0
def tw12509120494230742753:=0
def tw17302420953388334052:=0
def tw10257045706598778843:=0
def tw9487490984172687117:=0
def tw7041901444284904663:=0
def tw13539697576988957136:=0
def tw1596080792760893658:=0
def tw5516494634580976024:=0
def tw13167653397436988456:=0
def tw2491613202980239841:=0
def tw4206395140040484200:=0
def tw6164970625350951458:=0
def tw18120309914695033384:=0
def tw5983097630319485975:=0
def tw1838881325819196979:=0
def tw11686860177805888386:=0
def tw10120243817011115349:=0
def tw10629193170812684384:=0
def tw10656565482719700574:=0
def tw3352828723596838940:=0
def tw12297782340742788799:=0
def tw648875926793623906:=0
def tw6315392615910909404:=0
def tw12391553647913761389:=0
def tw3518079790422418418:=0
def tw1543446551169570944:=0
def tw17967817330945814955:=0
def tw12394914699956968554:=0
def tw163078821831104924:=0
def tw12825708273151027720:=0
def tw5842192075384859946:=0
def tw9849052027701547107:=0
def tw16946100252779788543:=0
def tw10287014033637381242:=0
def tw3859684182308111748:=0
def tw5794250996963475533:=0
def tw902965910120149328:=0
def tw4328298585976706006:=0
def tw2856106175700753457:=0
def tw13582434937202504088:=0
def tw10800340240482884130:=0
def tw3086516323285684317:=0
def tw14603220161087997493:=0
def tw13371751142477539470:=0
def tw2749857136775319984:=0
def tw8604849068481164596:=0
def tw14222077234163495877:=0
def tw8514170314920963661:=0
def tw12225068438816127407:=0
def tw16467163606062454058:=0
def tw2574168270763102585:=0
def tw1657300473221103236:=0
def tw1638749031417396106:=0
def tw7773128258571243118:=0
def tw6974512340044009041:=0
def tw14553667379453050386:=0
def tw11441793931005207872:=0
def tw8147127916524019089:=0
def tw13969348686880250404:=0
def tw9664758799566548702:=0
def tw14598760678127298180:=0
def tw1109958638618801202:=0
def tw4282887096840049361:=0
def tw15291482843202275669:=0
def tw13427772519724086272:=0
def tw4127062423708133313:=0
def tw7277077093725641559:=0
def tw1076044842279726445:=0
def tw12844825137576126153:=0
def tw5436454647741975674:=0
def tw16797626777731290525:=0
def tw9196727292010609306:=0
def tw16577051866072564631:=0
def tw1121657910418564594:=0
def tw15171354476255476019:=0
def tw4266692724983951487:=0
def tw14447163981647722979:=0
def tw1820810722632504820:=0
def tw16885994611699323998:=0
def tw11358753396704272579:=0
def tw12878698897573496445:=0
def tw3560719184873412318:=0
def tw1834932304002587137:=0
def tw1065521227538605457:=0
def tw17315874915290393649:=0
def tw10397578012407119334:=0
def tw1612542624611940208:=0
def tw4343296685383430048:=0
def tw10956252805497140836:=0
def tw6567104600912867543:=0
def tw10516797239120233142:=0
def tw14253058546330016346:=0
def tw16084855296121990366:=0
def tw13535428422020393641:=0
def tw14736659666828761903:=0
def tw14222637985448632483:=0
def tw14878613948839584074:=0
def tw468049896068747825:=0
def tw10736175039771372626:=0
def tw5309299091916011784:=0
def tw15891015867065242294:=0
def tw14499727545653318789:=0
def tw17619520867189295647:=0
def tw11943956751497444028:=0
def tw1277213707005844644:=0
def tw532014381731134514:=0
def tw16577002863230279468:=0
def tw228758889056394932:=0
def tw7794812807307816653:=0
def tw3475018205685832004:=0
def tw1363092489450155683:=0
def tw17431613507793162518:=0
def tw7128709805724683153:=0
def tw17480990754106196849:=0
def tw2297900952299494625:=0
def tw7039951436420885586:=0
def tw6464139175155195871:=0
def tw17088884060578585480:=0
def tw6385845240128797550:=0
def tw923473574225678113:=0
def tw11666970921184931462:=0
def tw3019420089560829044:=0
def tw8938211071538418265:=0
def tw4264193551368923167:=0
def tw6733621689285149399:=0
def tw10114865218869584667:=0
def tw16537414859682486300:=0
def tw11853379398470479641:=0
def tw6176939510267002267:=0
def tw17414886938760224327:=0
def tw12838903880410604126:=0
def tw9325084774416287953:=0
def tw9916220586470343108:=0
def tw11712844183819604656:=0
def tw10299006315383233840:=0
def tw16606401156853061336:=0
def tw12301343539678495462:=0
def tw18216089657037652764:=0
def tw4805410432082708288:=0
def tw15250715726676433000:=0
def tw16081752931606609756:=0
def tw12894664283315088034:=0
def tw14209992321877668224:=0
def tw10946432324065962561:=0
def tw1343347210995509753:=0
def tw17431183280157245062:=0
def tw16632504595528669934:=0
def tw9727564722580308391:=0
def tw5237972110414485364:=0
def tw3397345629051566827:=0
def tw7961895551927292207:=0
def tw2729992813236657117:=0
def tw5704961063797109447:=0
def tw6323725696205452558:=0
def tw13767645313587554253:=0
def tw13080190982253740303:=0
def tw3457175523546734559:=0
def tw12231145915581541758:=0
def tw3025894811148047048:=0
def tw12144319969615085312:=0
def tw1147494073522620481:=0
def tw4121156359110616854:=0
def tw7835801608049649955:=0
def tw17292951584097585412:=0
def tw6081909743878718828:=0
def tw10730912319025560314:=0
def tw17817555114620420865:=0
def tw7465156785593984262:=0
def tw491406749028120011:=0
def tw1870407330031975646:=0
def tw5778195275180872277:=0
def tw4311198563128144591:=0
def tw14601006714939971826:=0
def tw13728760958342541873:=0
def tw2470090595919780186:=0
def tw11247185462281639430:=0
def tw355280858014001065:=0
def tw13140155042260266853:=0
def tw7878227539414812160:=0
def tw10412094240035097071:=0
def tw12488974034828699544:=0
def tw16365259114125016470:=0
def tw14594438029027691787:=0
def tw12097707622331620337:=0
def tw15756487910259611409:=0
def tw4008169075812991485:=0
def tw307961105640682530:=0
def tw8782806972040964522:=0
def tw14418326212309772684:=0
def tw16020128460694424914:=0
def tw3249717245650704347:=0
def tw15381161770572942607:=0
def tw18144007686097653404:=0
def tw12222829574264012460:=0
def tw6797339744101732152:=0
def tw4185715051536001460:=0
def tw5263121328017336771:=0
def tw2885185922401411391:=0
def tw2881018595407149305:=0
def tw5641362429189687487:=0
def tw8523852348344955199:=0
def tw7223419275128244060:=0
def tw15401767570883777336:=0
def tw4034583322408990114:=0
def tw12318718753598057096:=0
def tw15213043075626661190:=0
def tw12434118336490070854:=0
def tw13545211743702781001:=0
def tw14194244174007131403:=0
def tw10171693540899294647:=0
def tw12630475657619097558:=0
def tw7954890758496929128:=0
def tw5208300257771254665:=0
def tw1946774642706780525:=0
def tw2651890953066003822:=0
def tw10729801822416053137:=0
def tw13683231219306154840:=0
def tw13199506582595932987:=0
def tw11467107774309302974:=0
def tw2519779534714737464:=0
def tw4103482061112838259:=0
def tw9791381833151833384:=0
def tw16519593759597902382:=0
def tw3689689033972703228:=0
def tw15604943402058599880:=0
def tw1502315318226655094:=0
def tw11266305581843292925:=0
def tw5807680095306496711:=0
def tw16216574757058580697:=0
def tw15301204584841898641:=0
def tw5659227299171016051:=0
def tw11199031303437815342:=0
def tw6828198999862026016:=0
def tw12959416681169488565:=0
def tw11128460634083465501:=0
def tw14024511370920824688:=0
def tw1973727032990869534:=0
def tw4578732331263033830:=0
def tw1389605356884565918:=0
def tw5205857528507441797:=0
def tw5127491298422681133:=0
def tw9601277571117962420:=0
def tw15385099236122600375:=0
def tw11700372098464018382:=0
def tw9874694535907604568:=0
def tw4667541484846232331:=0
def tw5345863837440110002:=0
def tw7566286701378122365:=0
def tw521468178005196336:=0
def tw16124950929481469021:=0
def tw14744214793445648919:=0
def tw47545273225920113:=0
def tw15988700690743169035:=0
def tw8946047209629927961:=0
def tw13975996794907281290:=0
def tw6790781404760151550:=0
def tw4841600812591345390:=0
def tw13115729525855403741:=0
def tw11289200996239052552:=0
def tw14532715836706560812:=0
def tw16699874404237290899:=0
def tw138039396619337134:=0
def tw9791805202657926368:=0
def tw732257477536259567:=0
def tw3512459792617320489:=0
def tw17415198479960510939:=0
def tw9499239217310506083:=0
def tw2856177728554514160:=0
def tw15618738721502314422:=0
def tw420897865390218378:=0
def tw11240089373812897724:=0
def tw10860600264844719002:=0
def tw15145669984376611236:=0
def tw7254191553070175189:=0
def tw1460241891311109915:=0
def tw16215469830199688244:=0
def tw12164673311591819415:=0
def tw4028107744176465601:=0
def tw12000227211282787592:=0
def tw6777006896735648532:=0
def tw11212411629371858181:=0
def tw10230961393287707038:=0
def tw3665067890051719359:=0
def tw7900975871396760618:=0
def tw12616248398016118418:=0
def tw893769071362560636:=0
def tw8123782930744333228:=0
def tw1892685432022726594:=0
def tw12285621374246023596:=0
def tw1871602575773982231:=0
def tw4437507348425179944:=0
def tw11430691548640340381:=0
def tw16325610364676450701:=0
def tw18387331480792417760:=0
def tw18270302270426864573:=0
def tw16900843282751250568:=0
def tw17416729163884297509:=0
def tw3049048387457243547:=0
def tw1920476934152123388:=0
def tw9962028898635569148:=0
def tw11895799868771626463:=0
def tw5713416710783465757:=0
def tw17651675672028850090:=0
def tw6479135785295507997:=0
def tw6535979459151500501:=0
def tw1543178065299628835:=0
def tw3351691452097887777:=0
def tw11453893072321535693:=0
def tw1411459235390838203:=0
def tw2036903536234322183:=0
def tw4963745818160602210:=0
def tw16613254199774579100:=0
def tw9686042130836839447:=0
def tw4705765788263071729:=0
def tw364939477159527610:=0
end PySem.W.Fast
open PySem PySem.W PyProof.Rows
set_option maxRecDepth 100000 in
set_option maxHeartbeats 0 in
theorem PySem.Challenge.cw_manrent_k20_courts_refused_holds : PySem.Challenge.rw_manrent_k20_courts_refused.Holds := by
 w_on;o_law;k_head;(case hw=>w_witness2)
 k_fill
 refine M.walk (l:=PySem.Challenge.rw_manrent_k20_courts_refused) rfl rfl (fun w h Y=>PySem.W.kIn_of Y) ?F
 case F =>
  intro w mg fa h KX G hmg
  refine' M.all_mk KX G hmg ?A ?B0 ?B1 ?B2 ?B3 ?cC ?cCK ?cCR ?cCC ?Z ?Q ?kaB ?eaB ?laB ?kaF ?eaF ?laF ?kaW ?eaW ?laW ?kaD ?eaD ?laD ?tb2_ ?zb2_ ?vb2_ ?tb4_ ?zb4_ ?vb4_ ?xE ?xN ?yy
  (case Q=>(repeat refine ⟨by k_is,?_⟩);exact True.intro)
  (case A=>(repeat refine ⟨⟨by k_is,⟨_,_,_,_,_,_,_,_,_,by k_is,by k_is,by k_is⟩,fun _ _ _ _ _ _=>by (repeat refine M.onS fun _=>?_);exact M.on0 rfl⟩,?_⟩);exact True.intro)
  (case B0=>(repeat refine ⟨⟨by k_is,by k_is,⟨_,_,_,_,_,_,_,_,_,by k_is,by k_is,by k_is⟩,fun _ _ _ _ _ _=>by (repeat refine M.onS fun _=>?_);exact M.on0 rfl⟩,?_⟩);exact True.intro)
  (case B1=>(repeat refine ⟨⟨by k_is,by k_is,⟨_,_,_,_,_,_,_,_,_,by k_is,by k_is,by k_is⟩,fun _ _ _ _ _ _=>by (repeat refine M.onS fun _=>?_);exact M.on0 rfl⟩,?_⟩);exact True.intro)
  (case B2=>(repeat refine ⟨⟨by k_is,by k_is,⟨_,_,_,_,_,_,_,_,_,by k_is,by k_is,by k_is⟩,fun _ _ _ _ _ _=>by (repeat refine M.onS fun _=>?_);exact M.on0 rfl⟩,?_⟩);exact True.intro)
  (case B3=>(repeat refine ⟨⟨by k_is,by k_is,⟨_,_,_,_,_,_,_,_,_,by k_is,by k_is,by k_is⟩,fun _ _ _ _ _ _=>by (repeat refine M.onS fun _=>?_);exact M.on0 rfl⟩,?_⟩);exact True.intro)
  (case cC=>exact ⟨⟨by k_is,by k_is,by k_is,by k_is⟩,by k_is,by k_is,⟨by k_is,⟨by k_is,⟨by k_is,⟨by k_is,⟨by k_is,True.intro⟩⟩⟩⟩⟩⟩)
  (case cCK=>exact ⟨⟨by k_is,by k_is,by k_is,by k_is⟩,by k_is,by k_is,⟨by k_is,⟨by k_is,True.intro⟩⟩⟩)
  (case cCR=>exact ⟨⟨by k_is,by k_is,by k_is,by k_is⟩,by k_is,by k_is,⟨by k_is,⟨by k_is,⟨by k_is,⟨by k_is,⟨by k_is,True.intro⟩⟩⟩⟩⟩⟩)
  (case cCC=>exact ⟨⟨by k_is,by k_is,by k_is,by k_is⟩,by k_is,by k_is,⟨by k_is,⟨by k_is,⟨by k_is,⟨by k_is,⟨by k_is,True.intro⟩⟩⟩⟩⟩⟩)
  (case Z=>(repeat refine ⟨by k_is,?_⟩);exact True.intro)
  case kaB=>k_is
  (case eaB=>exact ⟨⟨⟨_,rfl⟩,rfl,rfl⟩,⟨⟨_,rfl⟩,rfl,rfl⟩,⟨⟨_,rfl⟩,rfl,rfl⟩,⟨⟨_,rfl⟩,rfl,rfl⟩,⟨⟨_,rfl⟩,rfl,rfl⟩,⟨⟨_,rfl⟩,rfl,rfl⟩,⟨⟨_,rfl⟩,rfl,rfl⟩,True.intro⟩)
  (case laB=>rfl)
  case kaF=>k_is
  (case eaF=>exact ⟨⟨⟨_,rfl⟩,rfl,rfl⟩,⟨⟨_,rfl⟩,rfl,rfl⟩,⟨⟨_,rfl⟩,rfl,rfl⟩,⟨⟨_,rfl⟩,rfl,rfl⟩,⟨⟨_,rfl⟩,rfl,rfl⟩,⟨⟨_,rfl⟩,rfl,rfl⟩,⟨⟨_,rfl⟩,rfl,rfl⟩,True.intro⟩)
  (case laF=>rfl)
  case kaW=>k_is
  (case eaW=>exact ⟨⟨⟨_,rfl⟩,rfl,rfl⟩,⟨⟨_,rfl⟩,rfl,rfl⟩,⟨⟨_,rfl⟩,rfl,rfl⟩,⟨⟨_,rfl⟩,rfl,rfl⟩,⟨⟨_,rfl⟩,rfl,rfl⟩,⟨⟨_,rfl⟩,rfl,rfl⟩,⟨⟨_,rfl⟩,rfl,rfl⟩,True.intro⟩)
  (case laW=>rfl)
  case kaD=>k_is
  (case eaD=>exact ⟨⟨⟨_,rfl⟩,rfl,rfl⟩,⟨⟨_,rfl⟩,rfl,rfl⟩,⟨⟨_,rfl⟩,rfl,rfl⟩,⟨⟨_,rfl⟩,rfl,rfl⟩,⟨⟨_,rfl⟩,rfl,rfl⟩,⟨⟨_,rfl⟩,rfl,rfl⟩,⟨⟨_,rfl⟩,rfl,rfl⟩,True.intro⟩)
  (case laD=>rfl)
  case tb2_=>k_is
  (case zb2_=>exact M.small (Nat.le_of_ble_eq_true rfl))
  (case vb2_=>exact .cons ⟨_,rfl⟩ (.cons ⟨_,rfl⟩ (.nil)))
  case tb4_=>k_is
  (case zb4_=>exact M.small (Nat.le_of_ble_eq_true rfl))
  (case vb4_=>exact .cons ⟨_,rfl⟩ (.cons ⟨_,rfl⟩ (.nil)))
  (case xE=>exact ⟨by k_exc,⟨by k_is,by k_is,by k_is,by k_is,by k_is,by k_is,by k_is,by k_is⟩,by kts_exm⟩)
  (case xN=>exact ⟨by k_exc,⟨by k_is,by k_is,by k_is,by k_is,by k_is,by k_is,by k_is,by k_is⟩,by kts_exm⟩)
  (case yy=>exact ⟨by kit_is,by kit_is,by kit_is,by kit_is,by kit_is,by kit_is,by kit_is,by kit_is⟩)
