import PyProof.Rows.All
import KE.RegKIsAll
import KE.RegKTryMore
import Wide.All
import OpenK.KLine
import OpenK.KWalk
import OpenK.KOwn
import Wide.FinOn
import PyProof.EqAt
import PyProof.EqKinds
import PyProof.TupleCall
import PyProof.P3Eq
import PyProof.NeData
import KE.KTryDeep
import KE.KTryMore
import KE.KIsAll
import PyProof.NsDelKeeps
import PyProof.ExcArgsOwn
import OpenK.KTop
import PyProof.ExcBaseAll.ValueError
import PyProof.EnumMake
import PyProof.Draws
import KE.KSetDisp
import PyProof.SetRoads
import PyProof.Rows.SortStr
import PyProof.Rows.SortWalk
import PyProof.DictItems
import PyProof.DictValues
import KE.KSortTup
import PyProof.SetKind
import KE.KDictList
import KE.KItemsList
import KE.KDictOf
import PyProof.Rows.SetFrom
import PyProof.ListRange
import KE.KEqDict
import KE.KDictLaws
import KE.KSortKey
import KE.KListMore
import PyProof.AutoListH
import PyProof.DictTruth
import PySem.Challenge.RW_manrent_k14_land_charters_judged
set_option hygiene false
local macro_rules
|`(0x0)=>`(⟨rfl,rfl,rfl,by decide +kernel,rfl,by decide +kernel,by decide +kernel⟩)
|`(0x1)=>`(fun vs H Q E h=>by cases h;subst_vars;rfl)
|`(0x2)=>`(by lia)
|`(0x3)=>`(fun cdv A outer s H vs Q E hr h=>?_)
|`(0x4)=>`(by intro z;cases z)
|`(0x5)=>`(fun _ _=>rfl)
|`(0x6)=>`(by decide +kernel)
|`(0x7)=>`(by decide)
|`(0x8)=>`(Or.inl rfl)
|`(0x9)=>`(model X.prog X.w)
|`(0xA)=>`(by simp)
|`(0xB)=>`(⟨rfl,by decide +kernel,by decide +kernel,by decide +kernel,rfl,by decide +kernel⟩)
|`(0xC)=>`(model prog w)
|`(0xD)=>`(bB 0x3A rfl)
|`(0xE)=>`(by intro q;cases q)
|`(0xF)=>`(fun _=>rfl)
|`(0x10)=>`(es.filter fun y=>decide (y.n≠e0.n))
|`(0x11)=>`(pv 1)
|`(0x12)=>`(s.heap.objs.size+1)
|`(0x13)=>`(⟨_,rfl,x,dx,_,rfl,L.o,rfl,_,rfl,x,dx,a1,a2,a3,a4,a5,lo,ho,ow,se,br,e,rfl,L,he,?_⟩)
|`(0x14)=>`(putK ow 0x2D (.int (own - acres)))
|`(0x15)=>`(oA (sx.1 * acres) (sx.2 * pO))
|`(0x16)=>`(by with_unfolding_all rfl)
|`(0x17)=>`(.ref s.heap.objs.size)
|`(0x18)=>`(Bp X (ts++fr) scope s H fp C)
|`(0x19)=>`(aO bA 0x11 aA 0x5)
|`(0x1A)=>`(bf (u1 hr) 0x3A aN 0x5)
|`(0x1B)=>`(⟨_,au (bO (bW 0x3A T.cl m1 G1 hr b1 .nil aY 0x33)) (aG (aZ (bf (u1 hr) 0xD 0x11 0x5))),?_⟩)
|`(0x1C)=>`(⟨_,rfl,r,_,_,_,rfl,rfl,bR.of x1,aH (j:=0) rfl,rfl,_,rfl,gq 0x6 ?_⟩)
|`(0x1D)=>`(⟨_,rfl,r,_,_,_,rfl,rfl,bR.of x2,aH (j:=0) rfl,rfl,_,rfl,gq 0x6 ?_⟩)
local macro_rules
|`(0x1E)=>`(⟨_,rfl,r,_,_,_,rfl,rfl,bR.of hx,aH (j:=0) rfl,rfl,_,rfl,gq 0x6 ?_⟩)
|`(0x1F)=>`(⟨_,rfl,r,_,_,_,rfl,rfl,bR.of x1,aH (j:=2) rfl,_,rfl,q.B,_,rfl,b1.gl,q.l,_,rfl,fQ.k (k:=.inr e) b1.l,_,rfl,?_⟩)
|`(0x20)=>`(((eV items.size 0 lo:Nat):Int)==0&&(1:Int)==1&&(eV items.size items.size hi - eV items.size 0 lo)==items.size)
|`(0x21)=>`(stp y es t1 t2 b1 b2 bG)
|`(0x22)=>`(Addr×Obj)
|`(0x23)=>`(mod y.n (oO m) es)
|`(0x24)=>`(.dK kvs)
|`(0x25)=>`(cH e0.n p e0.own es)
|`(0x26)=>`(p.toList.map fun i=>vs.getD i Value.none)
|`(0x27)=>`(⟨_,rfl,r,_,_,_,rfl,rfl,bR.of x6,aH (j:=0) rfl,rfl,_,rfl,gq 0x6 ?_⟩)
|`(0x28)=>`(.inr n)
|`(0x29)=>`(.SetComp elt (⟨target,iter,ifs,0⟩::rest) scope pos)
|`(0x2A)=>`(.lst (all.map V.ref++[V.ref r]))
|`(0x2B)=>`(Prod L2.Key V)
|`(0x2C)=>`(.ListComp elt [⟨tg,iter,ifs,0⟩] scope pos)
|`(0x2D)=>`(.inr e)
|`(0x2E)=>`(strKind prog w)
|`(0x2F)=>`(⟨_,rfl,r,_,_,_,rfl,rfl,bR.of (s1 _ _ hx),aH (j:=0) rfl,aD,_,_,_,rfl,rfl,kD,rfl,?_⟩)
|`(0x30)=>`(A2P (A1c (name:=Str.ofString "__next__") (iI hi) cT (A1a cT (iI hi) jf ?_ (jG _))))
|`(0x31)=>`(x==("__debug__" : Str))
|`(0x32)=>`(⟨_,rfl,_,rfl,q.B,_,rfl,b3.gx,q.dd,_,rfl,.inl (bT.of b3.x),rfl,rfl,_,rfl,qG (l:=[]) (fun z=>absurd z 0xA) (fun _=>?_)⟩)
|`(0x33)=>`(aj 0x11 aC)
|`(0x34)=>`(show false=true from hs)
|`(0x35)=>`(dw.ud (H:=H5) (o:=.dK (putK (putK (qU es) 0x28 (.ref t)) (.inr y.n) (.ref u))))
|`(0x36)=>`(cY rfl mC ⟨_,rfl⟩ (v:=.str ""))
|`(0x37)=>`(⟨_,rfl,rfl,_,rfl,qI (fun e=>?_) (fun ne=>⟨_,rfl,fin2 w1 H1 s1 ne hw⟩)⟩)
|`(0x38)=>`(⟨_,rfl,r,_,_,_,rfl,rfl,bR.of hx,aH (j:=0) rfl,aW,_,_,_,rfl,rfl,kW,rfl,?_⟩)
|`(0x39)=>`(gC p1 p2 p3 p4 p5 ph pd p8)
|`(0x3A)=>`(pv 0)
|`(0x3B)=>`(putK br 0x2D (.int (pO - acres)))
local macro_rules
|`(0x3C)=>`(all.map Value.ref)
|`(0x3D)=>`(aj (pv 2) aC)
|`(0x3E)=>`(.tup xs)
|`(0x3F)=>`(⟨I.ok.mod,?_,I.ok.glob,I.ok.blt,hC,fun x y c h1 h2=>?_,fun x hx=>?_,fun x c hfx=>?_,I.ok.hd,I.ok.frames,.inl rfl,fun b hb=>⟨?_,fun x c e=>?_⟩,I.bs,A0M I.ok.OJ I.sz,fun b o e hb=>?_,Zy,I.stack,I.yL⟩)
|`(0x40)=>`(aO bI (pv 2) aA 0x5)
|`(0x41)=>`(⟨_,rfl,r,_,_,_,rfl,rfl,bR.of hx,aH (j:=0) rfl,rfl,_,rfl,Kr 0x6 ?_⟩)
|`(0x42)=>`(fun z=>by rw [z,hy0] at hc;cases hc)
|`(0x43)=>`(⟨_,rfl,_,_,rfl,rfl,⟨by decide,by decide⟩,_,_,rfl,rfl,(by show (0:Int)<3;decide),rfl,_,rfl,?_⟩)
|`(0x44)=>`((items.toList.drop (eV items.size 0 lo)).take (eV items.size items.size hi - eV items.size 0 lo))
|`(0x45)=>`(EP X pins σ Q)
|`(0x46)=>`(by intro ys z;cases z)
|`(0x47)=>`(.ins CC dc (Fi n b m.z jl ll))
|`(0x48)=>`(I.hok.fresh (A0f _))
|`(0x49)=>`(.lst (ss.map V.str))
|`(0x4A)=>`(.lst [V.int 1,V.int 1,V.int 0,V.int 5,V.int 300])
|`(0x4B)=>`(all.map V.ref)
|`(0x4C)=>`((jq P w se (lE (es.map (·.man)))))
|`(0x4D)=>`(fun r s'=>r=.ok (.ret (.bool true))/\OldK s₁.heap s'.heap/\s'.os=s₁.os/\AllBare s'.gens)
|`(0x4E)=>`(ha pins s σ H _ I h)
|`(0x4F)=>`(⟨fun hi=>⟨⟨⟨xs,xs[i],ha,by simp [hi]⟩,⟨ys,ys[i]' 0x2,hb,by simp [hl ▸ hi]⟩⟩,fun v H' ⟨p,x,y,e1,e2,e3,e4,e5⟩=>⟨p,e1,e2,?_⟩⟩,fun hi=>.inl ⟨xs,ha,hi⟩⟩)
|`(0x50)=>`(aO bI 0x3A aA 0x5)
|`(0x51)=>`((∀ b o,s.heap.get? b=some o->h'.get? b=some o))
|`(0x52)=>`(pickOrder (w.params.setOrder a ep) es)
|`(0x53)=>`((false,eval e X.env))
|`(0x54)=>`(fun c=>?_)
|`(0x55)=>`(backTo pos (starEach es X.env))
|`(0x56)=>`(by rw [e];exact True.intro)
|`(0x57)=>`(.tup [V.ref r,V.str w'])
|`(0x58)=>`(⟨_,rfl,m.z,CR,m.dz,_,_,rfl,R1.o,TR.cl,TR.n1,rfl,q.x,q.dx,_,rfl,R1.L.o,rfl,_,rfl,?_⟩)
|`(0x59)=>`(cF I q 0xA)
local macro_rules
|`(0x5A)=>`(he pins s σ H _ I h)
|`(0x5B)=>`(mod y.n (oN a r' c2) es++[tG y n m a g c1])
|`(0x5C)=>`(backToKw pos (keywordEach kws env))
|`(0x5D)=>`(⟨_,rfl,r,_,_,_,rfl,rfl,bR.of x4,aH (j:=5) rfl,_,rfl,q.B,_,rfl,b4.go,_,rfl,r,_,_,_,rfl,rfl,bR.of x4,aH (j:=2) rfl,q.o,_,rfl,Ov b4.o nd hy,_,_,rfl,rfl,_,rfl,?_⟩)
|`(0x5E)=>`(bf (u1 hr) 0x11 aN 0x5)
|`(0x5F)=>`(.ref s2.heap.objs.size)
|`(0x60)=>`(NameKind.free==NameKind.free&&env.scope.kind==.function&&env.kindOf x==some .cell)
|`(0x61)=>`(Key×V)
|`(0x62)=>`(dX 0x11 (fY jT rfl md qH (aj 0xD aC)) rfl)
|`(0x63)=>`(.gM o 0x24)
set_option Elab.async false
set_option linter.all false
set_option maxHeartbeats 16000000
set_option maxRecDepth 100000
set_option hygiene false
abbrev A5G:List PySem.Str:=["self", "estate"]
abbrev A5H:List PySem.Str:=["_law_book_here", "_law_estate"]
abbrev A5I:List PySem.Str:=["realm", "row"]
abbrev A5J:List PySem.Str:=["_law_book_here", "_law_row_here"]
abbrev A5K:List PySem.Str:=["self", "name", "lord", "holder", "acres", "service"]
abbrev A5L:List PySem.Str:=["_law_book_here", "_law_pools_here", "_law_d", "_law_day", "_law_men", "_law_lands", "_law_there", "_law_estate", "_law_man", "_law_fresh", "_law_new_here", "_law_wide", "_law_many", "_law_way", "_law_others"]
abbrev A5M:List PySem.Str:=["_law_found", "_law_due"]
abbrev A5N:List PySem.Str:=["_law_feed_here", "_law_at", "_law_many", "_law_pools_here", "_law_ways"]
abbrev A5O:List PySem.Str:=["_law_book_here", "_law_row_here", "_law_lord", "_law_due"]
abbrev A5P:List PySem.Str:=["_law_pools_here", "_law_feed_here", "_law_rows_here"]
abbrev A5Q:List PySem.Str:=["self", "estate", "new", "man", "acres", "service"]
abbrev A5R:List PySem.Str:=["_law_book_here", "_law_pools_here", "_law_d", "_law_day"]
abbrev A5S:List PySem.Str:=["self"]
abbrev A5T:List PySem.Str:=["_law_court_here", "_law_pools_here", "_law_rows_here"]
abbrev A5U:List PySem.Str:=["_law_book_here", "_law_man"]
abbrev A5V:List PySem.Str:=["_law_land", "_law_book_here", "_law_names_here", "_law_folk"]
abbrev A5W:List PySem.Str:=["self", "acres"]
abbrev A5X:List PySem.Str:=["_law_d", "_law_many", "_law_letters", "_law_k", "_law_base", "_law_at", "_law_names_here", "_law_sign", "_law_name"]
abbrev A5Y:List PySem.Str:=["_law_land", "_law_book_here", "_law_estate"]
abbrev A5Z:List PySem.Str:=["self", "man"]
abbrev A6a:List PySem.Str:=["_law_acres", "_law_rows_here"]
abbrev A6b:List PySem.Str:=["self", "estate", "new", "man", "acres"]
abbrev A6c:List PySem.Str:=["grant", "part"]
abbrev A6d:List PySem.Str:=["_law_one", "_law_other"]
abbrev A6e:List PySem.Str:=["self", "acres", "bears", "rows"]
abbrev A6f:List PySem.Str:=["_law_court_here", "_law_pools_here", "_law_rows_here", "_law_words", "_law_told"]
abbrev A6g:List PySem.Str:=["_law_rows_here", "_law_number"]
abbrev A6h:List PySem.Str:=["grant", "part", "convey", "surrender"]
local macro_rules | `(tactic| apply 0o1 $H $t $ht $s:ident $k:ident $X:ident) => `(tactic| (generalize hX : upd $H $t _ = $X; have $s : Same $H $X := hX ▸ aP $ht _; have $k := (congrFun hX $t).symm.trans ao; clear hX))
local macro_rules
  | `(0o7 $f $a*) => `($f (P := l.prog) (w := w) (mg := mg) (base := base) $a*)
theorem cg {α β:Type _}{as:List α} (f:α->β):(as.map f).length=as.length:=List.length_map f
theorem ju {α:Type _}{l:List α}{i:Nat} (h:i<l.length):l[i]?=some l[i]:=List.getElem?_eq_getElem h
theorem qT {α:Type _}{l:List α}{i:Nat}{a:α}:l.getD i a=l[i]?.getD a:=List.getD_eq_getElem?_getD
theorem sS {p:Prop} [inst:Decidable p] (h:decide p=true):p:=of_decide_eq_true h
theorem jY {α β:Type _}{f:α->β}{l:List α}{i:Nat}:(l.map f)[i]?=Option.map f l[i]?:=List.getElem?_map
theorem iT {α:Type _}{as bs:List α}:(as++bs).length=as.length+bs.length:=List.length_append
theorem jh {α:Type _} (y:α) {a:α}{l:List α} (h:a∈l):a∈y::l:=List.mem_cons_of_mem y h
theorem pN {α:Type _}{a:α}{as:List α}:(a::as).length=as.length+1:=List.length_cons
theorem wD {α:Type _}{l:List α}{i:Nat}{a:α} (e:l[i]?=some a):a∈l:=List.mem_of_getElem? e
theorem jP {α β:Type _}{f:α->β}{l₁ l₂:List α}:(l₁++l₂).map f=l₁.map f++l₂.map f:=List.map_append
section
open PySem PySem.Spec PyProof.Rows
def A0a:=@wpAny_bind
def A0b:=@Heap.get?_push_of_some
def A0c:=@List.mem_singleton
def A0d:=@wpAny_pure
def A0e:=@if_neg
def A0f:=@Nat.le_refl
def A0g:=@List.map_cons
def A0h:=@List.mem_cons_self
def A0i:=@if_pos
def A0j:=@decide_eq_true
def A0k:=@Ne.symm
def A0l:=@List.getElem?_eq_some_iff
def A0m:=@List.mem_map
def A0n:=@Heap.get?_push_size
def A0o:=@Bool.false_ne_true
def A0p:=@Nat.lt_of_lt_of_le
def A0q:=@Heap.lt_size
def A0r:=@List.size_toArray
def A0s:=@decide_eq_false
def A0t:=@List.length_singleton
def A0u:=@Nat.lt_of_sub_eq_succ
def A0v:=@List.mem_append
def A0w:=@Option.map_eq_some_iff
def A0x:=@List.mem_append_right
def A0y:=@Nat.ne_of_lt
def A0z:=@List.sum_cons
def A0G:=@List.length_take
def A0H:=@PySem.F.plainAttrs_list
def A0I:=@Array.length_toList
def A0J:=@Int.emod_lt_of_pos
def A0K:=@List.length_filter_le
def A0L:=@List.not_mem_nil
def A0M:=@Nat.le_trans
def A0N:=@List.getElem_mem
def A0O:=@Option.some.inj
def A0P:=@List.nodup_cons
def A0Q:=@Int.emod_nonneg
def A0R:=@List.map_map
def A0S:=@List.getElem?_append_right
def A0T:=@PySem.F.slot_list_append
def A0U:=@PySem.F.type_list_append
def A0V:=@List.mem_filter
def A0W:=@PassesOwn.never
def A0X:=@Nat.lt_of_le_of_lt
def A0Y:=@Bool.and_eq_true
def A0Z:=@Nat.zero_le
def A1a:=@wpAny_call_entry
def A1b:=@List.lookup_cons
def A1c:=@wpAny_callSpecial?_slot
def A1d:=@wpAny_mono
def A1e:=@sizeLine_eq
def A1f:=@List.pairwise_iff_getElem
def A1g:=@PySem.mem_of_lookup
def A1h:=@List.take_length
def A1i:=@Bool.eq_iff_iff
def A1j:=@Nat.le_of_ble_eq_true
def A1k:=@Heap.get?_update_ne
def A1l:=@List.getElem?_append_left
def A1m:=@List.mem_append_left
def A1n:=@wpAny_newObj_type
def A1o:=@List.take_add_one
def A1p:=@Nat.lt_irrefl
def A1q:=@Bool.false_eq_true
def A1r:=@PyProof.Rows.slot_tuple_getitem
def A1s:=@List.append_nil
def A1t:=@List.foldl_cons
def A1u:=@List.filter_cons_of_pos
def A1v:=@congrArg
def A1w:=@Calls.callWith_builtin
def A1x:=@List.find?_cons_of_neg
def A1y:=@PySem.boot_len
def A1z:=@List.length_drop
def A1G:=@List.all_eq_true
def A1H:=@beq_eq_false_iff_ne
def A1I:=@List.map_congr_left
def A1J:=@decide_eq_true_eq
def A1K:=@decide_eq_true_iff
def A1L:=@PySem.W.kia_one
def A1M:=@List.find?_cons_of_pos
def A1N:=@or_false
def A1O:=@List.filterMap_cons
def A1P:=@wpAny_field
def A1Q:=@List.length_replicate
def A1R:=@Heap.size_push
def A1S:=@wpAny_holding
def A1T:=@wpAny_Call_Name_kw
def A1U:=@PySem.F.called_set
def A1V:=@List.mem_iff_getElem
def A1W:=@PySem.F.plainAttrs_dict
def A1X:=@List.filter_cons_of_neg
def A1Y:=@Int.toNat_natCast
def A1Z:=@List.nodup_append
def A2a:=@Heap.SameBut.update
def A2b:=@Nat.le_succ
def A2c:=@Array.getElem?_eq_getElem
def A2d:=@Heap.get?_update_self
def A2e:=@List.getElem?_eq_none
def A2f:=@List.cons_append
def A2g:=@of_decide_eq_false
def A2h:=@wpAny_askSetting
def A2i:=@Nat.le_of_lt
def A2j:=@wpAny_standAt
def A2k:=@List.eq_of_mem_replicate
def A2l:=@List.mem_of_mem_take
def A2m:=@wpAny_truthy_bool
def A2n:=@Nat.lt_succ_of_lt
def A2o:=@List.find?_cons
def A2p:=@List.nil_append
def A2q:=@Nat.min_eq_left
def A2r:=@PyProof.Rows.F.plain_set_update_loop
def A2s:=@PyProof.Rows.callWith_type1
def A2t:=@List.any_cons
def A2u:=@Calls.spliced_cons
def A2v:=@F.slot_tuple_iterator_next
def A2w:=@wpAny_seqItems
def A2x:=@wpAny_setField
def A2y:=@wpAny_setField_rec
def A2z:=@Array.perm_iff_toList_perm
def A2G:=@wpAny_passesOwn
def A2H:=@if_false
def A2I:=@Nat.pow_le_pow_right
def A2J:=@List.append_assoc
def A2K:=@wpAny_setState_of
def A2L:=@Around.under_plainId
def A2M:=@List.filter_congr
def A2N:=@Option.isSome_iff_exists
def A2O:=@List.all_cons
def A2P:=@wpAny_attempt
def A2Q:=@PySem.F.slot_dict_values
def A2R:=@Value.isStrOf_shape
def A2S:=@wpAny_setEntries_of
def A2T:=@List.flatten_append
def A2U:=@Nat.lt_succ_self
def A2V:=@wpAny_Call_method0_late
def A2W:=@beq_self_eq_true
def A2X:=@PySem.F.slot_list_index
def A2Y:=@Int.mul_pos
def A2Z:=@wpAny_rule
def A3a:=@Nat.ne_of_gt
def A3b:=@List.take_of_length_le
def A3c:=@tupleKind_room_in1
def A3d:=@call_meetsIn
def A3e:=@List.filter_append
def A3f:=@Int.mul_comm
def A3g:=@F.slot_zip_next
def A3h:=@codeAny_builtin
def A3i:=@List.sum_append
def A3j:=@listUpdate_at
def A3k:=@Int.mul_assoc
def A3l:=@Array.getElem?_toList
def A3m:=@wpAny_pyIter_list
def A3n:=@Calls.evalArgs_plain
def A3o:=@List.mem_of_mem_drop
def A3p:=@List.foldl_nil
def A3q:=@List.pairwise_append
def A3r:=@codeAny_mono
def A3s:=@if_true
def A3t:=@List.getElem_map
def A3u:=@Nat.sub_self
def A3v:=@List.prefix_refl
def A3w:=@PySem.evalArgs_none
def A3x:=@List.replicate_succ
def A3y:=@PyProof.Rows.F.entry_set_update_loop
def A3z:=@PySem.F.slot_dict_valueiterator_iter
def A3G:=@PySem.F.slot_dict_itemiterator_iter
def A3H:=@List.Perm.eq_of_pairwise
def A3I:=@List.idxOf_lt_length_iff
def A3J:=@List.of_mem_zip
def A3K:=@List.filter_map
def A3L:=@beq_iff_eq
def A3M:=@PySem.W.callWith_K
def A3N:=@List.getElem_idxOf
def A3O:=@List.prefix_append
def A3P:=@List.getElem?_replicate
def A3Q:=@PySem.F.type_list_index
def A3R:=@List.any_eq_false
def A3S:=@Calls.spliced_nil
def A3T:=@Heap.get?_update_other
def A3U:=@List.map_nil
def A3V:=@List.length_range
def A3W:=@wpAny_pyIter_slot
def A3X:=@Int.ne_of_gt
def A3Y:=@bne_self_eq_false
def A3Z:=@Array.getElem?_eq_none
def A4a:=@PySem.F.slot_dict_get
def A4b:=@List.mem_iff_getElem?
def A4c:=@List.take_append_drop
def A4d:=@wpAny_isInstance
def A4e:=@strKind_is
def A4f:=@decide_eq_decide
def A4g:=@List.getElem!_eq_getElem?_getD
def A4h:=@Paired.length
def A4i:=@plainId_quiet
def A4j:=@List.getElem?_set_ne
def A4k:=@wpAny_updateSeq_pair
def A4l:=@List.replicate_succ'
def A4m:=@wpAny_execs_nil
def A4n:=@wpAny_loadPart'
def A4o:=@List.forIn_cons
def A4p:=@F.args_tuple_iterator_next_1
def A4q:=@Option.map_some
def A4r:=@List.length_nil
def A4s:=@get?_update_seq
def A4t:=@PySem.F.slot_dict_setdefault
def A4u:=@PySem.W.plainGet_of
def A4v:=@PySem.W.callWith_K0
def A4w:=@wpAny_typeOf
def A4x:=@F.entry_tuple_iterator_next
def A4y:=@Array.getD_eq_getD_getElem?
def A4z:=@eq_of_beq
def A4G:=@SeqAt.EqAt.int_str
def A4H:=@SeqAt.EqAt.str_int
def A4I:=@List.mem_range
def A4J:=@Calls.Name_function_global
def A4K:=@assignInOrder_cons
def A4L:=@List.mem_filterMap
def A4M:=@SeqAt.EqAt.str_str
def A4N:=@List.drop_zero
def A4O:=@wpAny_newTuple
def A4P:=@entryFor_alias
def A4Q:=@List.map_replicate
def A4R:=@Nat.lt_or_gt_of_ne
def A4S:=@List.getElem_range
def A4T:=@List.Perm.refl
def A4U:=@List.length_eraseIdx_of_lt
def A4V:=@wpAny_fieldsOf
def A4W:=@PySem.F.args_dict_values_1
def A4X:=@slot_list_getitem
def A4Y:=@F.args_zip_next_1
def A4Z:=@Option.isSome_map
def A5a:=@wpAny_Call_method
def A5b:=@seqEpoch_at
def A5c:=@List.getElem_take
def A5d:=@wpAny_onRaise
def A5e:=@wpAny_newList
def A5f:=@wpAny_eqBool_int
def A5g:=@F.entry_zip_next
def A5h:=@List.ext_getElem
def A5i:=@SeqAt.eqAt_reads
def A5j:=@wpAny_load
def A5k:=@Nat.lt_trans
def A5l:=@dif_pos
def A5m:=@Nat.not_lt_zero
def A5n:=@Array.Perm.refl
def A5o:=@wpAny_ite_split
def A5p:=@codeAny_of_tree
def A5r:=@wpAny_letGo
end
namespace M
inductive Ig where
 | d | n | c | a | s
 deriving DecidableEq
end M
variable {its us:List PySem.Value}{C CC CK D a b b1 b2 c d dc dx f g1 g2 g3 g4 g5 g6 i1 i2 it jl l ll p q sl t1 t2:PySem.Addr}{u vl vu:PySem.Value}{P prog:PySem.Program}{w:PySem.World}{base h h' h1:PySem.Heap}{name qual x z:PySem.Str}{e iter tg value:PySem.Expr}{pins:List (PySem.Addr×PySem.Obj)}{s s':PySem.Shared}{ep i j n t' x1:Nat}{as ch fp jO pr ts:List PySem.Addr}{Fl N ks ks' loose ls ps ss ws zs:List PySem.Str}{A:PySem.Around}{E Q:PySem.Value->PySem.Shared->Prop}{apos cpos pos pos' tp:PySem.Pos}{op:PySem.CmpOp}{dy t wd:Int}{K:PySem.W.Frag}{st:PySem.Stmt}{es:Array (Int×PySem.Value)}{body:List PySem.Stmt}{tS tk:PySem.Tok}{mA mg:PySem.Str->Option PySem.Value}{pl:PySem.Sem Bool}{kw:List (PySem.Str×PySem.Value)}{env:PySem.Env}{d1 d2 d3 d4 d5 d6 fd:PySem.FuncData}{outer:List PySem.Env}{scope:PySem.Scope}{T:String}{hi:Option Int}{XP:(PySem.Str->Option PySem.Value)->PySem.Heap->Prop}{YP:PySem.World->PySem.Heap->Prop}{B:Prop}{ix:List Nat}{elts:List PySem.Expr}
namespace L2
open PySem PySem.Spec PyProof.Rows
abbrev Key:=Sum Int Str
def uy:Key->Value->Bool
 | .inl k,v=>Value.isInt k v
 | .inr x,v=>Value.isStrOf x v
def keyH (w:World):Key->Int
 | .inl k=>hashInt k
 | .inr x=>hashStr w x
theorem dN:∀ {k:Key}{v:Value},uy k v=true->(∃ i t,k=Sum.inl i/\v=Value.int i t)\/(∃ x t,k=Sum.inr x/\v=Value.str x t)
 | .inl i,v,h=>by
  obtain ⟨t,e⟩:=Value.isInt_shape (k:=i) (v:=v) h;exact .inl ⟨i,t,rfl,e⟩
 | .inr x,v,h=>by
  obtain ⟨t,e⟩:=A2R (x:=x) (v:=v) h;exact .inr ⟨x,t,rfl,e⟩
theorem Lr (i:Int) (t:Tok):uy (.inl i) (.int i t)=true:=by simp [uy,Value.isInt]
theorem Ls (x:Str) (t:Tok):uy (.inr x) (.str x t)=true:=by simp [uy,Value.isStrOf]
theorem Z4 (a b:Int):decide ((Sum.inl a:Key)=Sum.inl b)=(a==b):=by
 by_cases e:a=b
 ·subst e;simp
 ·have h:¬ (Sum.inl a:Key)=Sum.inl b:=fun q=>e (Sum.inl.inj q);rw [A0s h];exact (A1H.mpr e).symm
theorem Z5 (a b:Str):decide ((Sum.inr a:Key)=Sum.inr b)=decide (a=b):=by
 by_cases e:a=b
 ·subst e;simp
 ·have h:¬ (Sum.inr a:Key)=Sum.inr b:=fun q=>e (Sum.inr.inj q);rw [A0s h,A0s e]
theorem Z6 (a:Int) (b:Str):decide ((Sum.inl a:Key)=Sum.inr b)=false:=A0s (fun q=>nomatch q)
theorem Z7 (a:Str) (b:Int):decide ((Sum.inr a:Key)=Sum.inl b)=false:=A0s (fun q=>nomatch q)
def bV (prog:Program) (w:World):PySem.KeyKind prog w Key where
 is:=uy
 hash:=keyH w
 inj:=fun v a b ha hb=>by
  rcases dN ha with ⟨i,t,rfl,rfl⟩ | ⟨x,t,rfl,rfl⟩
  ·rcases dN hb with ⟨j,u,rfl,e⟩ | ⟨y,u,rfl,e⟩
   ·injection e with e1 _;rw [e1]
   ·exact nomatch e
  ·rcases dN hb with ⟨j,u,rfl,e⟩ | ⟨y,u,rfl,e⟩
   ·exact nomatch e
   ·injection e with e1 _;rw [e1]
 byValue:=fun k v h=>by
  rcases dN h with ⟨i,t,rfl,rfl⟩ | ⟨x,t,rfl,rfl⟩ <;> rfl
 pyHash:=fun hv h=>by
  rcases dN hv with ⟨i,t,rfl,rfl⟩ | ⟨x,t,rfl,rfl⟩
  ·exact wpAny_pyHash_int h
  ·exact wpAny_pyHash_str h
 eqBool:=fun hu hv h=>by
  rcases dN hu with ⟨i,t,rfl,rfl⟩ | ⟨x,t,rfl,rfl⟩
  ·rcases dN hv with ⟨j,u,rfl,rfl⟩ | ⟨y,u,rfl,rfl⟩
   ·rw [Z4] at h;exact A5f h
   ·rw [Z6] at h;exact A4G i t y u _ _ _ _ h
  ·rcases dN hv with ⟨j,u,rfl,rfl⟩ | ⟨y,u,rfl,rfl⟩
   ·rw [Z7] at h;exact A4H x t j u _ _ _ _ h
   ·rw [Z5] at h;exact wpAny_eqBool_str h
 «strs»:=fun k x t v h=>by
  rcases dN h with ⟨i,u,rfl,e⟩ | ⟨y,u,rfl,e⟩
  ·exact nomatch e
  ·injection e with e1 _;subst e1;cases v <;> rfl
theorem Br (prog:Program) (w:World) (i:Int) (t:Tok):(bV prog w).is (.inl i) (.int i t)=true:=Lr i t
theorem Bs (prog:Program) (w:World) (x:Str) (t:Tok):(bV prog w).is (.inr x) (.str x t)=true:=Ls x t
inductive V where
 | non | bl (b:Bool) | int (i:Int) | str (x:Str) | J4 (b:Array UInt8) | flt (b:UInt64) | ref (a:Addr) | ty (n:String)
 deriving DecidableEq
variable {r xs ys:List V}{v y:V}{du ho kvs lo ow:List 0x61}{fs':List (Str×V)}{dat:Addr->List V}
def RelV:V->Value->Prop
 | .non,u=>u=Value.none
 | .bl b,u=>u=Value.bool b
 | .int i,u=>∃ t,u=Value.int i t
 | .str x,u=>∃ t,u=Value.str x t
 | .J4 b,u=>∃ t,u=Value.bytes b t
 | .flt b,u=>∃ t,u=Value.float b t
 | .ref a,u=>u=Value.ref a
 | .ty n,u=>u=Value.type n
abbrev Vals:List V->List Value->Prop:=Paired RelV
theorem Vals.length (r:Vals xs us):xs.length=us.length:=A4h r
theorem Vals.get:∀ {xs:List V}{us:List Value}{i:Nat}{x:V},Vals xs us->xs[i]?=some x->∃ u,us[i]?=some u/\RelV x u
 | _,_,_,_,.nil,e=>by simp at e
 | _,_,0,_,.cons r _,e=>by simp at e;subst e;exact ⟨_,rfl,r⟩
 | _,_,i+1,x,.cons _ t,e=>by
  obtain ⟨u,h1,h2⟩:=Vals.get (i:=i) (x:=x) t (by simpa using e);exact ⟨u,by simpa using h1,h2⟩
theorem Vals.append:∀ {xs ys:List V}{us ws:List Value},Vals xs us->Vals ys ws->Vals (xs++ys) (us++ws)
 | _,_,_,_,.nil,s=>s
 | _,_,_,_,.cons r t,s=>.cons r (Vals.append t s)
theorem Vals.take:∀ {xs:List V}{us:List Value} (n:Nat),Vals xs us->Vals (xs.take n) (us.take n)
 | _,_,0,_=>.nil
 | _,_,_+1,.nil=>.nil
 | _,_,n+1,.cons r t=>.cons r (Vals.take n t)
theorem Vals.drop:∀ {xs:List V}{us:List Value} (n:Nat),Vals xs us->Vals (xs.drop n) (us.drop n)
 | _,_,0,r=>r
 | _,_,_+1,.nil=>.nil
 | _,_,n+1,.cons _ t=>Vals.drop n t
theorem Vals.none_of:∀ {xs:List V}{us:List Value}{i:Nat},Vals xs us->xs[i]?=none->us[i]?=none:=fun {xs us i} r e=>by
 have h1:=r.length;have h2:xs.length<=i:=List.getElem?_eq_none_iff.mp e;exact List.getElem?_eq_none_iff.mpr 0x2
def jA:Option V->Option Value->Prop
 | some v,some u=>RelV v u
 | none,none=>True
 | _,_=>False
def KV {κ:Type}:List (κ×V)->List (κ×Value)->Prop:=Paired fun (p:κ×V) (q:κ×Value)=>p.1=q.1/\RelV p.2 q.2
def kV:Key->V
 | .inl i=>.int i
 | .inr x=>.str x
inductive HO where
 | lst (xs:List V)
 | tup (xs:List V)
 | dK (kvs:List 0x61) | dT (kvs:List (List Key×V))
 | set (S:Int->Bool) (n:Nat)
 | ins (C dx:Addr) (fs:List (Str×V))
 | own (x:Addr)
 | xd (fs:List (Str×V))
 | met (f x:Addr)
 | rng (lo hi:Int)
 | gM (o:Obj) (u:HO)
 | Y8 (ps:Array Value)
 | ext (φ:Heap->Prop)
variable {o:HO}
abbrev Hp:=Addr->Option HO
variable {H H' H1 H2:Hp}
def upd (H:Hp) (a:Addr) (o:HO):Hp:=fun b=>if b=a then some o else H b
theorem ao:upd H a o a=some o:=by unfold upd;rw [A0i rfl]
theorem ak (h:b≠a):upd H a o b=H b:=by unfold upd;rw [A0e h]
theorem aK {u:HO} (h:H a=some o) (h':H b=some u) (d:o≠u):a≠b:=by
 intro e;subst e;rw [h] at h';exact d (A0O h')
theorem aq (h:H a=some o) (h':H b=none):a≠b:=by
 intro e;subst e;rw [h] at h';cases h'
section
variable (P:Program) (w:World)
def cM (H:Hp) (h:Heap) (a:Addr):HO->Prop
 | .lst xs=>xs.length<=sizeLine/\∃ (its:List Value) (n:Nat),Vals xs its/\h.get? a=some { cls:=.type "list",data:=.seq its.toArray n }
 | .tup xs=>xs.length<=sizeLine/\∃ its:List Value,Vals xs its/\IsTup h a its.toArray
 | .dK kvs=>kvs.length<=sizeLine/\(a==sysModules)=false/\∃ vs,KV kvs vs/\h.DictOf (bV P w) a vs
 | .dT kvs=>kvs.length<=sizeLine/\(a==sysModules)=false/\∃ xs:List (List Key×Addr×Value),
   Paired (fun (p:List Key×V) (q:List Key×Addr×Value)=>p.1=q.1/\H q.2.1=some (.tup (p.1.map kV))/\RelV p.2 q.2.2) kvs xs /\
   ∃ o es ep,h.get? a=some o/\o.ExactDict/\o.data=.dict es ep/\es.toList=xs.map (entryOfKey (tupleKind (bV P w)))/\(xs.map (·.1)).Nodup
 | .set S n=>h.SetOf (intKind P w) a S n
 | .ins C dx fs=>H dx=some (.own a)/\fs.length<=1000/\dx≠a/\h.get? a=some (PySem.W.instObj C dx) /\
   ∃ mA,h.Ns1 dx mA/\(∀ f,jA (fs.lookup f) (mA f))/\PySem.Within mA (fs.map (·.1))
 | .own _=>∃ o,h.get? a=some o
 | .xd fs=>∃ mA,h.Ns1 a mA/\∀ f,jA (fs.lookup f) (mA f)
 | .rng lo hi=>∃ t u v,h.get? a=some { cls:=.type "range",data:=.fields #[.int lo t,.int hi u,.int 1 v] }
 | .gM o u=>h.get? a=some o/\cM H h a u
 | .Y8 ps=>h.get? a=some { cls:=.none,data:=.fields ps }
 | .met f x=>h.get? a=some (PySem.W.methodObj (.ref f) (.ref x))
 | .ext φ=>φ h/\(∃ o,h.get? a=some o)/\∀ h1 h2:Heap,φ h1->(∀ o,h1.get? a=some o->h2.get? a=some o)->φ h2
def nZ (H:Hp) (h:Heap):Prop:=∀ a o,H a=some o->cM P w H h a o
end
theorem cM.lt (x:cM P w H h a o):a<h.objs.size:=by
 cases o with
 | lst xs=>obtain ⟨_,_,_,_,e⟩:=x;exact A0q e
 | tup xs=>obtain ⟨_,_,_,p⟩:=x;exact p.lt
 | dK kvs=>obtain ⟨_,_,_,_,o,_,_,e,_⟩:=x;exact A0q e
 | dT kvs=>obtain ⟨_,_,_,_,o,_,_,e,_⟩:=x;exact A0q e
 | set S n=>obtain ⟨o,_,_,_,e,_⟩:=x;exact A0q e
 | ins C dx fs=>obtain ⟨_,_,_,e,_⟩:=x;exact A0q e
 | own y=>obtain ⟨_,e⟩:=x;exact A0q e
 | xd fs=>obtain ⟨_,⟨_,_,_,e,_⟩,_⟩:=x;exact A0q e
 | rng lo hi=>obtain ⟨_,_,_,e⟩:=x;exact A0q e
 | gM ob u=>obtain ⟨e,_⟩:=x;exact A0q e
 | Y8 ps=>exact A0q (show h.get? a=some _ from x)
 | met f y=>exact A0q (show h.get? a=some _ from x)
 | ext φ=>obtain ⟨_,⟨_,e⟩,_⟩:=x;exact A0q e
theorem Paired.Oz {α β:Type}{F G:α->β->Prop}:∀ {l₁:List α}{l₂:List β},Paired F l₁ l₂->(∀ a b,F a b->G a b)->Paired G l₁ l₂
 | _,_,.nil,_=>.nil
 | _,_,.cons r t,f=>.cons (f _ _ r) (Paired.Oz t f)
theorem cM.stay (x:cM P w H h a o) (k:∀ b u,(b=a\/H b=some (.own a))->h.get? b=some u->h'.get? b=some u)
  (ho:∀ b,H b=some (.own a)->H' b=some (.own a)) (ht:∀ b xs,H b=some 0x3E->H' b=some 0x3E):cM P w H' h' a o:=by
 induction o with
 | lst xs=>obtain ⟨z,its,n,r,e⟩:=x;exact ⟨z,its,n,r,k _ _ (.inl rfl) e⟩
 | tup xs=>obtain ⟨z,its,r,ob,e,c⟩:=x;exact ⟨z,its,r,ob,k _ _ (.inl rfl) e,c⟩
 | dK kvs=>obtain ⟨z,y,vs,r,ob,es,ep,e,c⟩:=x;exact ⟨z,y,vs,r,ob,es,ep,k _ _ (.inl rfl) e,c⟩
 | dT kvs =>
  obtain ⟨z,y,xs,r,ob,es,ep,e,c⟩:=x;exact ⟨z,y,xs,Paired.Oz r fun p q z=>⟨z.1,ht _ _ z.2.1,z.2.2⟩,ob,es,ep,k _ _ (.inl rfl) e,c⟩
 | set S n=>obtain ⟨ob,es,ep,t,e,c⟩:=x;exact ⟨ob,es,ep,t,k _ _ (.inl rfl) e,c⟩
 | ins C dx fs =>
  obtain ⟨d,z,ne,e,mA,⟨od,es,ep,e2,c⟩,r⟩:=x;exact ⟨ho _ d,z,ne,k _ _ (.inl rfl) e,mA,⟨od,es,ep,k _ _ (.inr d) e2,c⟩,r⟩
 | own y=>obtain ⟨ob,e⟩:=x;exact ⟨ob,k _ _ (.inl rfl) e⟩
 | xd fs=>obtain ⟨mA,⟨od,es,ep,e,c⟩,r⟩:=x;exact ⟨mA,⟨od,es,ep,k _ _ (.inl rfl) e,c⟩,r⟩
 | rng lo hi=>obtain ⟨t,u,v,e⟩:=x;exact ⟨t,u,v,k _ _ (.inl rfl) e⟩
 | gM ob u ih=>obtain ⟨e,q⟩:=x;exact ⟨k _ _ (.inl rfl) e,ih q⟩
 | Y8 ps =>
  have e:h.get? a=some { cls:=.none,data:=.fields ps }:=x
  show h'.get? a=some { cls:=.none,data:=.fields ps }
  exact k a _ (.inl rfl) e
 | met f y =>
  have e:h.get? a=some (PySem.W.methodObj (.ref f) (.ref y)):=x
  show h'.get? a=some (PySem.W.methodObj (.ref f) (.ref y))
  exact k a _ (.inl rfl) e
 | ext φ=>obtain ⟨p,⟨o,e⟩,st⟩:=x;exact ⟨st _ _ p fun o q=>k _ _ (.inl rfl) q,⟨o,k _ _ (.inl rfl) e⟩,st⟩
theorem nZ.lt (x:nZ P w H h) (e:H a=some o):a<h.objs.size:=(x a o e).lt
theorem nZ.fresh (x:nZ P w H h) (e:h.objs.size<=a):H a=none:=by
 cases q:H a with
 | none=>rfl
 | some u=>exact absurd (A0p (x.lt q) e) (A1p _)
theorem nZ.kept (x:nZ P w H h) (k:∀ b u,h.get? b=some u->h'.get? b=some u):nZ P w H h':=fun a o e =>
 (x a o e).stay (fun b u _ q=>k b u q) (fun _ q=>q) fun _ _ q=>q
theorem nZ.laid (x:nZ P w H h) (k:∀ b u,h.get? b=some u->h'.get? b=some u) (hp:h.objs.size<=a) (new:cM P w (upd H a o) h' a o):nZ P w (upd H a o) h':=fun b u e=>by
 have hn:=x.fresh hp
 by_cases hb:b=a
 ·subst hb;rw [ao] at e;cases e;exact new
 ·rw [ak hb] at e;exact (x b u e).stay (fun c v _ q=>k c v q) (fun c q=>by rw [ak (aq q hn)];exact q) fun c xs q=>by rw [ak (aq q hn)];exact q
def Rd (H:Hp) (a:Addr) (u:HO):Prop:=H a=some u\/∃ o,H a=some (.gM o u)
theorem Rd.ok {u:HO} (r:Rd H a u) (x:nZ P w H h):cM P w H h a u:=by
 rcases r with r | ⟨o,r⟩
 ·exact x a u r
 ·obtain ⟨_,q⟩:=x a _ r;exact q
def Mut:Option HO->Prop
 | some (.lst _)=>True
 | some (.dK _)=>True
 | some (.dT _)=>True
 | some (.set _ _)=>True
 | some (.ins _ _ _)=>True
 | some (.ext _)=>True
 | _=>False
section
variable {x e:Addr}{o':HO}
theorem nZ.write (ok:nZ P w H h) (mu:Mut (H x)) (he:e=x\/H e=some (.own x)) (k:∀ b u,b≠e->h.get? b=some u->h'.get? b=some u) (heo:∃ u,h'.get? e=some u)
  (new:cM P w (upd H x o') h' x o'):nZ P w (upd H x o') h':=fun b u q=>by
 have nown:∀ c y,H c=some (.own y)->c≠x:=fun c y r z=>by subst z;rw [r] at mu;exact mu
 have ntup:∀ c xs,H c=some 0x3E->c≠x:=fun c xs r z=>by subst z;rw [r] at mu;exact mu
 by_cases hb:b=x
 ·subst hb;rw [ao] at q;cases q;exact new
 ·rw [ak hb] at q
  by_cases hbe:b=e
  ·have q':H b=some (.own x):=by
    rcases he with z | z
    ·exact absurd (hbe.trans z) hb
    ·rw [hbe];exact z
   rw [q] at q';cases q';obtain ⟨v,hv⟩:=heo;exact ⟨v,by rw [hbe];exact hv⟩
  ·refine (ok b u q).stay (fun c v hc r=>k c v ?_ r) (fun c r=>by rw [ak (nown c b r)];exact r) fun c xs r=>by rw [ak (ntup c xs r)];exact r
   rcases hc with rfl | hc
   ·exact hbe
   ·rintro rfl;rcases he with z | z
    ·exact nown c b hc z
    ·rw [hc] at z;cases z;exact hb rfl
end
structure Un (fs ex:List Addr) (H H':Hp) (h h':Heap):Prop where
 keep:∀ b o,h.get? b=some o->H b=none->b∉fs->b∉ex->h'.get? b=some o
 slot:∀ b o,h.get? b=some o->H b=none->b∈fs->b∉ex->∃ sl,h'.get? b=some { o with slots:=sl }
 free:∀ b o,h.get? b=some o->H b=none->b∉ex->H' b=none
 there:∀ b o,h.get? b=some o->b∉ex->∃ o',h'.get? b=some o'
 tups:∀ b xs,H b=some 0x3E->H' b=some 0x3E
 uz:∀ b o u,H b=some (.gM o u)->H' b=some (.gM o u)
 yI:∀ b ps,H b=some (.Y8 ps)->∃ more,H' b=some (.Y8 (ps++more))
section
variable {fs fs' ex ex':List Addr}{h2:Heap}{x e:Addr}
theorem Un.any (u:Un fs ex H H1 h h1) {ob:Obj} (q:h.get? b=some ob) (n:H b=none) (hx:b∉ex):∃ sl,h1.get? b=some { ob with slots:=sl }:=by
 by_cases hb:b∈fs
 ·exact u.slot b ob q n hb hx
 ·exact ⟨ob.slots,u.keep b ob q n hb hx⟩
theorem Un.kept (k:∀ b u,h.get? b=some u->h'.get? b=some u):Un fs ex H H h h' :=
 ⟨fun b ob q _ _ _=>k b ob q,fun b ob q _ _ _=>⟨ob.slots,k b ob q⟩,fun _ _ _ n _=>n,fun b ob q _=>⟨ob,k b ob q⟩,fun _ _ q=>q,fun _ _ _ q=>q,fun _ ps q=>⟨#[],by rw [q];simp⟩⟩
theorem Un.refl:Un fs ex H H h h:=Un.kept fun _ _ q=>q
theorem Un.laid (k:∀ b u,h.get? b=some u->h'.get? b=some u) (hp:h.objs.size<=a) (hn:H a=none):Un fs ex H (upd H a o) h h' where
 keep:=fun b u q _ _ _=>k b u q
 slot:=fun b u q _ _ _=>⟨u.slots,k b u q⟩
 free:=fun b u q n _=>by rw [ak (A0y (A0p (A0q q) hp))];exact n
 there:=fun b u q _=>⟨u,k b u q⟩
 tups:=fun b xs q=>by rw [ak (aq q hn)];exact q
 uz:=fun b u xs q=>by rw [ak (aq q hn)];exact q
 yI:=fun b ps q=>⟨#[],by rw [ak (aq q hn),q];simp⟩
theorem Un.write (mu:Mut (H x)) (he:e=x\/H e=some (.own x)) (k:∀ b u,b≠e->h.get? b=some u->h'.get? b=some u) (heo:∃ u,h'.get? e=some u):Un fs ex H (upd H x o) h h':=by
 have hx:∀ b,H b=none->b≠x:=fun b n z=>by subst z;rw [n] at mu;exact mu
 have hb:∀ b,H b=none->b≠e:=fun b n z=>by
  subst z;rcases he with r | r
  ·exact hx b n r
  ·rw [n] at r;cases r
 have hm:∀ b u,H b=some u->¬ Mut (some u)->b≠x:=fun b u q nm z=>by subst z;rw [q] at mu;exact nm mu
 refine ⟨fun b u q n _ _=>k b u (hb b n) q,fun b u q n _ _=>⟨u.slots,k b u (hb b n) q⟩,fun b u q n _=>by rw [ak (hx b n)];exact n,fun b u q _=>?_,
  fun b xs q=>by rw [ak (hm b _ q fun z=>z)];exact q,fun b u xs q=>by rw [ak (hm b _ q fun z=>z)];exact q,fun b ps q=>⟨#[],by rw [ak (hm b _ q fun z=>z),q];simp⟩⟩
 by_cases hbe:b=e
 ·subst hbe;exact heo
 ·exact ⟨u,k b u hbe q⟩
end
def trk (h:Heap) (H:Hp):List Addr:=(List.range h.objs.size).filter fun a=>(H a).isSome
def yJ (h:Heap) (H:Hp):Heap:=PySem.W.hideAll h (trk h H)
theorem Lw (h:Heap) (H:Hp):(yJ h H).objs.size=h.objs.size:=PySem.W.hideAll_size _ _
theorem OD {o:Obj} (e:h.get? b=some o) (n:H b=none):(yJ h H).get? b=some o :=
 PySem.W.hideAll_get _ e fun hm=>by
  have q:(H b).isSome=true:=(A0V.mp hm).2;rw [n] at q;simp at q
theorem Vu {o:Obj} (e:(yJ h H).get? b=some o):h.get? b=some o/\H b=none:=by
 have e':h.get? b=some o:=PySem.W.of_hideAll (trk h H) e;refine ⟨e',?_⟩;cases q:H b with
 | none=>rfl
 | some x =>
  have hm:b∈trk h H:=A0V.mpr ⟨A4I.mpr (A0q e'),by simp [q]⟩;have z:(yJ h H).get? b=none:=PySem.W.hideAll_none (trk h H) hm;rw [z] at e;cases e
structure Mod (K:PySem.W.Frag) (mg:Str->Option Value) (base:Heap):Prop where
 kin:K.In base
 glob:base.Ns mainGlobals mg
 blt:∃ mb,base.Ns builtinsNs mb/\∀ x:Str,x≠"__name__"->mb x=bootBuiltins x
 nolimit:base.NoLimit
structure Cx where
 prog:Program
 w:World
 K:PySem.W.Frag
 mg:Str->Option Value
 base:Heap
 A:Around
 N:List Str
 s₀:Shared
 H₀:Hp
 env:Env
 outer:List Env
 stack:List Env
 ex:List Addr
 fn:Str->Bool
 calm:Bool
 pn:List 0x22
 xe:Value->Shared->Prop
variable {X:Cx}
def frs (l:List Env):List Addr:=l.filterMap (·.frame)
abbrev Cx.fs (X:Cx):List Addr:=frs X.outer
def Vis (sc:Scope) (x:Str):Prop:=sc.names.lookup x=some .local\/sc.names.lookup x=some .cell\/sc.names.lookup x=some .free
def Loc (sc:Scope) (x:Str):Prop:=sc.names.lookup x=some .local\/sc.names.lookup x=some .cell
def Look (env:Env) (h:Heap) (m:Str->Option Value) (x:Str) (u:Value):Prop :=
 (env.kindOf x=some .local/\m x=some u)\/((env.kindOf x=some .cell\/env.kindOf x=some .free)/\∃ c,env.cells.lookup x=some c/\h.IsCell c (some u))
structure Cx.Ok (X:Cx):Prop where
 mod:Mod X.K X.mg X.base
 kind:X.env.scope.kind=.function
 glob:X.env.globals=mainGlobals
 blt:X.env.builtins=builtinsNs
 above:X.s₀.heap.objs.size<=X.env.locals
 inj:∀ x y c,X.env.cells.lookup x=some c->X.env.cells.lookup y=some c->x=y
 has:∀ x,(X.env.kindOf x=some .cell\/X.env.kindOf x=some .free)->∃ c,X.env.cells.lookup x=some c
 cab:∀ x c,X.fn x=true->X.env.cells.lookup x=some c->X.s₀.heap.objs.size<=c
 hd:X.calm=true->X.A.handled=none
 frames:X.A.frames=some X.stack
 stk:X.stack=X.outer\/(X.stack=X.env::X.outer/\X.env.frame=some X.env.locals)
 exf:∀ b∈X.ex,b≠X.env.locals/\∀ x c,X.env.cells.lookup x=some c->c≠b
 bs:∀ b o,X.base.get? b=some o->X.s₀.heap.get? b=some o/\X.H₀ b=none
 OJ:X.base.objs.size<=X.s₀.heap.objs.size
 Fo:∀ b o,X.base.get? b=some o->b∉X.ex
 Ly:∀ b∈X.ex,b∉X.fs
 qY:X.s₀.heap.FunFrames X.base X.outer
 Y9:∀ b∈X.fs,X.H₀ b=none
structure Inv (X:Cx) (pins:List 0x22) (σ:List (Option V)) (H:Hp) (s:Shared):Prop where
 ok:X.Ok
 os:s.os=X.s₀.os
 bare:AllBare s.gens
 base:Un X.fs X.ex X.H₀ H X.s₀.heap s.heap
 loc:∃ m,s.heap.Ns X.env.locals m/\∀ (i:Nat) (x:Str) (v:V),X.N[i]?=some x->σ[i]?=some (some v)->Vis X.env.scope x->∃ u,RelV v u/\Look X.env s.heap m x u
 cell:∀ x c,X.env.cells.lookup x=some c->∃ v,s.heap.IsCell c v
 free:H X.env.locals=none
 jZ:∀ x c,X.env.cells.lookup x=some c->H c=none
 pin:∀ p∈X.pn++pins,s.heap.get? p.1=some p.2/\H p.1=none/\p.1≠X.env.locals/\p.1∉X.fs/\∀ v,p.2.data≠.cell v
 hok:nZ X.prog X.w H s.heap
 len:σ.length=X.N.length
section
variable {σ:List (Option V)}
theorem Cx.Ok.nofr (ok:X.Ok) {o:Obj} (e:X.base.get? b=some o):b∉X.fs:=fun hb=>by
 have:=(ok.qY.mem hb).1;rw [e] at this;cases this
theorem Inv.bs (I:Inv X pins σ H s):∀ b o,X.base.get? b=some o->s.heap.get? b=some o/\H b=none:=fun b o e =>
 ⟨I.base.keep b o (I.ok.bs b o e).1 (I.ok.bs b o e).2 (I.ok.nofr e) (I.ok.Fo b o e),I.base.free b o (I.ok.bs b o e).1 (I.ok.bs b o e).2 (I.ok.Fo b o e)⟩
theorem Inv.bk (I:Inv X pins σ H s):∀ b o,X.base.get? b=some o->s.heap.get? b=some o:=fun b o e=>(I.bs b o e).1
theorem Inv.mod (I:Inv X pins σ H s):Mod X.K X.mg X.base:=I.ok.mod
theorem Inv.oU (I:Inv X pins σ H s):X.K.In s.heap:=I.ok.mod.kin.keeps I.bk
theorem Inv.fr (I:Inv X pins σ H s):∃ m,Fr X.base X.env.locals s.heap m :=
 let ⟨m,hn,_⟩:=I.loc
 ⟨m,hn,I.bk,A0M I.ok.OJ I.ok.above⟩
theorem Inv.lt (I:Inv X pins σ H s):X.env.locals<s.heap.objs.size:=let ⟨_,hn,_⟩:=I.loc;hn.lt
theorem Inv.sz (I:Inv X pins σ H s):X.s₀.heap.objs.size<=s.heap.objs.size:=A0M I.ok.above (A2i I.lt)
theorem Inv.nofs (I:Inv X pins σ H s)  (h:s.heap.objs.size<=a):a∉X.fs:=fun hb=>by
 obtain ⟨_,o,ho,_⟩:=I.ok.qY.mem hb;exact absurd (A0p (A0q ho) (A0M I.sz h)) (A1p _)
theorem Inv.Z8 (I:Inv X pins σ H s):∀ x c,X.env.cells.lookup x=some c->c≠X.env.locals:=fun x c e z=>by
 obtain ⟨v,o,ho,hd⟩:=I.cell x c e;obtain ⟨m,⟨o',es,ep,ho',hd',_⟩,_⟩:=I.loc;rw [z,ho'] at ho;cases ho;rw [hd'] at hd;cases hd
theorem Inv.qY (I:Inv X pins σ H s):s.heap.FunFrames X.base X.outer:=by
 have all:∀ (l:List Env),(∀ b∈frs l,b∈X.fs)->X.s₀.heap.FunFrames X.base l->s.heap.FunFrames X.base l:=by
  intro l
  induction l with
  | nil=>intro _ _;trivial
  | cons env r ih =>
   intro hs hl;obtain ⟨hk,⟨L,o,hf,hn,ho,hd⟩,hr⟩:=hl;have hL:L∈X.fs:=hs L (by unfold frs;rw [A1O,hf];exact A0h);obtain ⟨sl,e⟩:=I.base.slot L o ho (I.ok.Y9 L hL) hL fun z=>I.ok.Ly L z hL;exact ⟨hk,⟨L,_,hf,hn,e,hd⟩,ih (fun b hb=>hs b (by unfold frs;rw [A1O,hf];exact jh _ hb)) hr⟩
 exact all X.outer (fun _ hb=>hb) I.ok.qY
theorem Inv.stack (I:Inv X pins σ H s):s.heap.FunFrames X.base X.stack:=by
 rcases I.ok.stk with e | ⟨e,hf⟩
 ·rw [e];exact I.qY
 ·rw [e];obtain ⟨m,hn,_⟩:=I.loc;refine .cons (by rw [I.ok.kind];decide) hf hn ?_ I.qY;exact Heap.get?_none_of_le (A0M I.ok.OJ I.ok.above)
theorem Inv.yK (I:Inv X pins σ H s):∀ b∈frs X.stack,b∈X.env.locals::X.fs:=fun b hb=>by
 rcases I.ok.stk with e | ⟨e,hf⟩
 ·rw [e] at hb;exact jh _ hb
 ·rw [e] at hb;unfold frs at hb;rw [A1O,hf] at hb;exact hb
theorem Inv.yL (I:Inv X pins σ H s):∀ b∈frs X.stack,H b=none:=fun b hb=>by
 rcases List.mem_cons.mp (I.yK b hb) with e | hb
 ·rw [e];exact I.free
 ·obtain ⟨_,o,ho,_⟩:=I.ok.qY.mem hb;exact I.base.free b o ho (I.ok.Y9 b hb) fun z=>I.ok.Ly b z hb
theorem Inv.step {g':Array GenState}{d':Drawn} (I:Inv X pins σ H s)
  (hch:∀ b∈ch,(b∈X.ex\/X.s₀.heap.objs.size<=b)/\b≠X.env.locals/\(∀ x c,X.env.cells.lookup x=some c->c≠b)/\∀ p∈X.pn++pins,p.1≠b)
  (keep:∀ b o,b≠X.env.locals->b∉X.fs->b∉ch->s.heap.get? b=some o->H b=none->h'.get? b=some o)
  (slot:∀ b o,b≠X.env.locals->b∈X.fs->b∉ch->s.heap.get? b=some o->H b=none->∃ sl,h'.get? b=some { o with slots:=sl }) (free:∀ b o,b∉ch->s.heap.get? b=some o->H b=none->H' b=none)
  (there:∀ b o,b∉ch->s.heap.get? b=some o->∃ o',h'.get? b=some o')
  (tups:∀ b xs,H b=some 0x3E->H' b=some 0x3E) (uz:∀ b o u,H b=some (.gM o u)->H' b=some (.gM o u)) (yI:∀ b ps,H b=some (.Y8 ps)->∃ more,H' b=some (.Y8 (ps++more)))
  (ns:∀ m,s.heap.Ns X.env.locals m->h'.Ns X.env.locals m) (hok:nZ X.prog X.w H' h') (hg:AllBare g') :
  Inv X pins σ H' { s with heap:=h',gens:=g',drawn:=d',toks:=t' }:=by
 have neL:∀ b o,X.s₀.heap.get? b=some o->b≠X.env.locals:=fun b o e=>A0y (A0p (A0q e) I.ok.above);have neC:∀ b o,X.s₀.heap.get? b=some o->b∉X.ex->b∉ch:=fun b o e hx hb=>by
  rcases (hch b hb).1 with z | z
  ·exact hx z
  ·exact absurd (A0p (A0q e) z) (A1p _)
 have cellK:∀ x c,X.env.cells.lookup x=some c->∀ v,s.heap.IsCell c v->h'.IsCell c v:=fun x c e v ⟨o,ho,hd⟩=>by
  have nch:c∉ch:=fun z=>(hch c z).2.2.1 x c e rfl
  by_cases hc:c∈X.fs
  ·obtain ⟨sl,q⟩:=slot c o (I.Z8 x c e) hc nch ho (I.jZ x c e);exact ⟨_,q,hd⟩
  ·exact ⟨o,keep c o (I.Z8 x c e) hc nch ho (I.jZ x c e),hd⟩
 refine ⟨I.ok,I.os,hg,⟨fun b o e n hb hx=>?_,fun b o e n hb hx=>?_,fun b o e n hx=>?_,fun b o e hx=>?_,fun b xs e=>tups b xs (I.base.tups b xs e),fun b o xs e=>uz b o xs (I.base.uz b o xs e),fun b ps e=>?_⟩,?_,fun x c e=>?_,?_,fun x c e=>?_,fun p hp=>?_,hok,I.len⟩
 ·exact keep b o (neL b o e) hb (neC b o e hx) (I.base.keep b o e n hb hx) (I.base.free b o e n hx)
 ·obtain ⟨sl,e1⟩:=I.base.slot b o e n hb hx;obtain ⟨sl',e2⟩:=slot b _ (neL b o e) hb (neC b o e hx) e1 (I.base.free b o e n hx);exact ⟨sl',e2⟩
 ·obtain ⟨o',e1⟩:=I.base.there b o e hx;exact free b o' (neC b o e hx) e1 (I.base.free b o e n hx)
 ·obtain ⟨o',e1⟩:=I.base.there b o e hx;exact there b o' (neC b o e hx) e1
 ·obtain ⟨m1,e1⟩:=I.base.yI b ps e;obtain ⟨m2,e2⟩:=yI b _ e1;exact ⟨m1++m2,by rw [e2,Array.append_assoc]⟩
 ·obtain ⟨m,hn,hl⟩:=I.loc;refine ⟨m,ns m hn,fun i x v e1 e2 e3=>?_⟩;obtain ⟨u,r,l⟩:=hl i x v e1 e2 e3;refine ⟨u,r,?_⟩;rcases l with l | ⟨k,c,e,z⟩
  ·exact .inl l
  ·exact .inr ⟨k,c,e,cellK x c e _ z⟩
 ·obtain ⟨v,z⟩:=I.cell x c e;exact ⟨v,cellK x c e v z⟩
 ·obtain ⟨m,⟨o,_,_,ho,_⟩,_⟩:=I.loc;exact free _ o (fun z=>(hch _ z).2.1 rfl) ho I.free
 ·obtain ⟨v,o,ho,hd⟩:=I.cell x c e;exact free c o (fun z=>(hch c z).2.2.1 x c e rfl) ho (I.jZ x c e)
 ·obtain ⟨e,n,ne,nf,d⟩:=I.pin p hp;have nch:p.1∉ch:=fun z=>(hch p.1 z).2.2.2 p hp rfl;exact ⟨keep p.1 p.2 ne nf nch e n,free p.1 p.2 nch e n,ne,nf,d⟩
theorem Inv.un (I:Inv X pins σ H s) (u:Un X.fs [] H H' s.heap h') (hok:nZ X.prog X.w H' h'):Inv X pins σ H' { s with heap:=h',toks:=t' }:=by
 obtain ⟨m,⟨o,es,ep,ho,r⟩,_⟩:=id I.loc;obtain ⟨sl,hL⟩:=u.any ho I.free 0xA;exact I.step (g':=s.gens) (d':=s.drawn) (ch:=[]) (fun _ z=>nomatch z) (fun b o _ hb _ e n=>u.keep b o e n hb 0xA) (fun b o _ hb _ e n=>u.slot b o e n hb 0xA) (fun b o _ e n=>u.free b o e n 0xA) (fun b o _ e=>u.there b o e 0xA) u.tups u.uz u.yI (fun m' hm=>by
  obtain ⟨o',es',ep',ho',r'⟩:=hm;rw [ho] at ho';cases ho';exact ⟨_,es',ep',hL,r'⟩) hok I.bare
theorem Inv.call {g':Array GenState}{d':Drawn} (I:Inv X pins σ H s) (u:Un (frs X.stack) ch H H' s.heap h') (hok:nZ X.prog X.w H' h') (hg:AllBare g')
  (hch:∀ b∈ch,(b∈X.ex\/X.s₀.heap.objs.size<=b)/\b≠X.env.locals/\(∀ x c,X.env.cells.lookup x=some c->c≠b)/\∀ p∈X.pn++pins,p.1≠b) :
  Inv X pins σ H' { s with heap:=h',gens:=g',drawn:=d',toks:=t' }:=by
 obtain ⟨m,⟨o,es,ep,ho,r⟩,_⟩:=id I.loc;obtain ⟨sl,hL⟩:=u.any ho I.free fun z=>(hch _ z).2.1 rfl;exact I.step (ch:=ch) hch (fun b o hL hb hc e n=>u.keep b o e n (fun z=>(List.mem_cons.mp (I.yK b z)).elim hL hb) hc) (fun b o _ _ hc e n=>u.any e n hc) (fun b o hc e n=>u.free b o e n hc) (fun b o hc e=>u.there b o e hc) u.tups u.uz u.yI (fun m' hm=>by
  obtain ⟨o',es',ep',ho',r'⟩:=hm;rw [ho] at ho';cases ho';exact ⟨_,es',ep',hL,r'⟩) hok hg
theorem Inv.turned (I:Inv X pins σ H s) (k:∀ b o,b≠it->s.heap.get? b=some o->h'.get? b=some o) (hn:H it=none) (hL:it≠X.env.locals)
  (h1:it∈X.ex\/X.s₀.heap.objs.size<=it) (h2:∀ x c,X.env.cells.lookup x=some c->c≠it) (h3:∀ p∈X.pn++pins,p.1≠it):Inv X pins σ H { s with heap:=h',toks:=t' }:=by
 have nit:∀ b u,H b=some u->b≠it:=fun b u e z=>by rw [z,hn] at e;cases e
 refine I.step (g':=s.gens) (d':=s.drawn) (ch:=[it]) (fun b hb=>?_) (fun b o _ _ hc e _=>k b o (fun z=>hc (by simp [z])) e) (fun b o _ _ hc e _=>⟨o.slots,k b o (fun z=>hc (by simp [z])) e⟩) (fun _ _ _ _ n=>n)
  (fun b o hc e=>⟨o,k b o (fun z=>hc (by simp [z])) e⟩) (fun _ _ e=>e) (fun _ _ _ e=>e) (fun b ps e=>⟨#[],by rw [e];simp⟩) (fun m hm=>?_) (fun b u e=>?_) I.bare
 ·have e:b=it:=by simpa using hb
  subst e;exact ⟨h1,hL,h2,h3⟩
 ·obtain ⟨o,es,ep,ho,r⟩:=hm;exact ⟨o,es,ep,k _ o (A0k hL) ho,r⟩
 ·refine (I.hok b u e).stay (fun c v hc q=>k c v ?_ q) (fun _ q=>q) fun _ _ q=>q;rcases hc with z | z
  ·rw [z];exact nit b u e
  ·exact nit c _ z
theorem Inv.tok (I:Inv X pins σ H s) (t:Nat):Inv X pins σ H { s with toks:=t }:=I.un (h':=s.heap) (t':=t) Un.refl I.hok
theorem Inv.kept (I:Inv X pins σ H s) (k:∀ b u,s.heap.get? b=some u->h'.get? b=some u):Inv X pins σ H { s with heap:=h',toks:=t' }:=I.un (Un.kept k) (I.hok.kept k)
theorem Inv.laid (I:Inv X pins σ H s) (k:∀ b u,s.heap.get? b=some u->h'.get? b=some u) (hp:s.heap.objs.size<=a) (new:cM X.prog X.w (upd H a o) h' a o) :
  Inv X pins σ (upd H a o) { s with heap:=h',toks:=t' }:=I.un (Un.laid k hp (I.hok.fresh hp)) (I.hok.laid k hp new)
theorem Inv.write {x e:Addr} (I:Inv X pins σ H s) (mu:Mut (H x)) (he:e=x\/H e=some (.own x)) (k:∀ b u,b≠e->s.heap.get? b=some u->h'.get? b=some u) (heo:∃ u,h'.get? e=some u)
  (new:cM X.prog X.w (upd H x o) h' x o):Inv X pins σ (upd H x o) { s with heap:=h',toks:=t' }:=I.un (Un.write mu he k heo) (I.hok.write mu he k heo new)
theorem Inv.weak {σ':List (Option V)} (I:Inv X pins σ H s) (hl:σ'.length=σ.length) (w:∀ (i:Nat) v,σ'[i]?=some (some v)->σ[i]?=some (some v)):Inv X pins σ' H s :=
 ⟨I.ok,I.os,I.bare,I.base,let ⟨m,hn,hl'⟩:=I.loc;⟨m,hn,fun i x v e1 e2 e3=>hl' i x v e1 (w i v e2) e3⟩,I.cell,I.free,I.jZ,I.pin,I.hok,hl.trans I.len⟩
theorem Inv.J5 {Pa:List 0x22} (I:Inv X pins σ H s) (h:∀ p∈Pa,s.heap.get? p.1=some p.2/\H p.1=none/\p.1≠X.env.locals/\p.1∉X.fs/\∀ v,p.2.data≠.cell v):Inv X Pa σ H s :=
 ⟨I.ok,I.os,I.bare,I.base,I.loc,I.cell,I.free,I.jZ,fun p hp=>(A0v.mp hp).elim (fun z=>I.pin p (A1m _ z)) (h p),I.hok,I.len⟩
theorem Bt (hN:N.Nodup)  (a:N[i]?=some x) (b:N[j]?=some x):i=j:=by
 obtain ⟨h1,e1⟩:=A0l.mp a;obtain ⟨h2,e2⟩:=A0l.mp b;exact (List.getElem_inj hN).mp (e1.trans e2.symm)
theorem wL {M:Model}{Q:Unit->Shared->Prop} (I:Inv X pins σ H s) (hN:X.N.Nodup) (hi:X.N[i]?=some x) (hx:Loc X.env.scope x) (r:RelV v u)
  (h:∀ s',Inv X pins (σ.set i (some v)) H s'->(∃ a,Heap.SameBut a s.heap s'.heap/\(a=X.env.locals\/X.env.cells.lookup x=some a))->Q () s') (hf:X.fn x=true\/X.env.scope.names.lookup x=some .local:=by first | exact .inl rfl | exact .inr rfl | assumption):wpAny M A (storeName X.env x u) Q E s:=by
 obtain ⟨m,hn,hl⟩:=id I.loc;have hcls:(X.env.scope.kind==.class||(X.env.scope.kind==.module&&X.env.locals != X.env.globals))=false:=by rw [I.ok.kind];rfl
 have hiσ:i<σ.length:=by rw [I.len];exact (A0l.mp hi).1
 have Z8:=I.Z8;have tracked:∀ {a:Addr}{h':Heap},(∃ o,s.heap.get? a=some o/\H a=none)->Heap.SameBut a s.heap h'->nZ X.prog X.w H h':=fun {a h'} ha hs b ob e=>by
  obtain ⟨_,_,hfree⟩:=ha;refine (I.hok b ob e).stay (fun c w' hc q=>(hs.2 c ?_).trans q) (fun _ q=>q) fun _ _ q=>q;rintro rfl;rcases hc with rfl | hc
  ·rw [hfree] at e;cases e
  ·rw [hfree] at hc;cases hc
 rcases hx with hk | hk
 ·refine wpAny_storeName_local hk hn (fun h' hn' hs=>?_) hcls;obtain ⟨oL,_,_,hoL,_⟩:=id hn;refine h _ ⟨I.ok,I.os,I.bare,⟨fun b o e n hb hx=>?_,fun b o e n hb hx=>?_,I.base.free,fun b o e hx=>?_,I.base.tups,I.base.uz,I.base.yI⟩,⟨_,hn',fun j y v' e1 e2 e3=>?_⟩,fun y c e=>?_,I.free,I.jZ,fun p hp=>?_,tracked ⟨oL,hoL,I.free⟩ hs,by simpa using I.len⟩ ⟨_,hs,.inl rfl⟩
  ·exact (hs.2 b (A0y (A0p (A0q e) I.ok.above))).trans (I.base.keep b o e n hb hx)
  ·obtain ⟨sl,e1⟩:=I.base.slot b o e n hb hx;exact ⟨sl,(hs.2 b (A0y (A0p (A0q e) I.ok.above))).trans e1⟩
  ·obtain ⟨o',e1⟩:=I.base.there b o e hx;exact ⟨o',(hs.2 b (A0y (A0p (A0q e) I.ok.above))).trans e1⟩
  ·by_cases hj:j=i
   ·subst hj;rw [hi] at e1;cases e1;rw [List.getElem?_set_self hiσ] at e2;cases e2;exact ⟨u,r,.inl ⟨hk,by simp⟩⟩
   ·rw [A4j (A0k hj)] at e2;obtain ⟨u',r',q⟩:=hl j y v' e1 e2 e3;refine ⟨u',r',?_⟩;rcases q with ⟨k,e⟩ | ⟨k,c,e,z⟩
    ·refine .inl ⟨k,?_⟩;have:y≠x:=fun e=>hj (Bt hN e1 (e ▸ hi));simp [this,e]
    ·exact .inr ⟨k,c,e,z.sameBut hs (Z8 y c e)⟩
  ·obtain ⟨w',z⟩:=I.cell y c e;exact ⟨w',z.sameBut hs (Z8 y c e)⟩
  ·obtain ⟨e,n,ne,nf,d⟩:=I.pin p hp;exact ⟨(hs.2 p.1 ne).trans e,n,ne,nf,d⟩
 ·have hfn:X.fn x=true:=by
   rcases hf with z | z
   ·exact z
   ·rw [z] at hk;cases hk
  obtain ⟨c,hc⟩:=I.ok.has x (.inl hk);obtain ⟨w',z⟩:=I.cell x c hc;refine wpAny_storeName_cell I.ok.kind hk hc z (fun h' hc' hs=>?_);obtain ⟨oc,hoc,hocd⟩:=id z;refine h { s with heap:=h' } ⟨I.ok,I.os,I.bare,⟨fun b o e n hb hx=>?_,fun b o e n hb hx=>?_,I.base.free,fun b o e hx=>?_,I.base.tups,I.base.uz,I.base.yI⟩,⟨m,hn.sameBut hs (A0k (Z8 x c hc)),fun j y v' e1 e2 e3=>?_⟩,fun y c' e=>?_,I.free,I.jZ,fun p hp=>?_,tracked ⟨oc,hoc,I.jZ x c hc⟩ hs,by simpa using I.len⟩ ⟨c,hs,.inr hc⟩
  ·exact (hs.2 b (A0y (A0p (A0q e) (I.ok.cab x c hfn hc)))).trans (I.base.keep b o e n hb hx)
  ·obtain ⟨sl,e1⟩:=I.base.slot b o e n hb hx;exact ⟨sl,(hs.2 b (A0y (A0p (A0q e) (I.ok.cab x c hfn hc)))).trans e1⟩
  ·obtain ⟨o',e1⟩:=I.base.there b o e hx;exact ⟨o',(hs.2 b (A0y (A0p (A0q e) (I.ok.cab x c hfn hc)))).trans e1⟩
  ·by_cases hj:j=i
   ·subst hj;rw [hi] at e1;cases e1;rw [List.getElem?_set_self hiσ] at e2;cases e2;exact ⟨u,r,.inr ⟨.inl hk,c,hc,hc'⟩⟩
   ·rw [A4j (A0k hj)] at e2;obtain ⟨u',r',q⟩:=hl j y v' e1 e2 e3;refine ⟨u',r',?_⟩;rcases q with q | ⟨k,c',e,z'⟩
    ·exact .inl q
    ·refine .inr ⟨k,c',e,z'.sameBut hs ?_⟩;rintro rfl;exact hj (Bt hN e1 (I.ok.inj _ _ _ e hc ▸ hi))
  ·by_cases hcc:c'=c
   ·subst hcc;exact ⟨_,hc'⟩
   ·obtain ⟨w2,z2⟩:=I.cell y c' e;exact ⟨w2,z2.sameBut hs hcc⟩
  ·obtain ⟨e,n,ne,nf,d⟩:=I.pin p hp;refine ⟨(hs.2 p.1 ?_).trans e,n,ne,nf,d⟩;intro q;rw [q,hoc] at e;have q':oc=p.2:=A0O e;exact d w' (by rw [<- q'];exact hocd)
theorem pP {M:Model}{Q:Unit->Shared->Prop} (I:Inv X pins σ H s) (hN:X.N.Nodup) (hi:X.N[i]?=some x) (hx:Loc X.env.scope x) (r:RelV v u)
  (h:∀ s',Inv X pins (σ.set i (some v)) H s'->Q () s') (hf:X.fn x=true\/X.env.scope.names.lookup x=some .local:=by first | exact .inl rfl | exact .inr rfl | assumption):wpAny M A (storeName X.env x u) Q E s :=
 wL I hN hi hx r (fun s' I' _=>h s' I') hf
theorem Inv.call' (I:Inv X pins σ H s) (ho:s'.os=s.os) (u:Un (frs X.stack) ch H H' s.heap s'.heap) (hok:nZ X.prog X.w H' s'.heap) (hg:AllBare s'.gens)
  (hch:∀ b∈ch,(b∈X.ex\/X.s₀.heap.objs.size<=b)/\b≠X.env.locals/\(∀ x c,X.env.cells.lookup x=some c->c≠b)/\∀ p∈X.pn++pins,p.1≠b):Inv X pins σ H' s':=by
 obtain ⟨h',g',d',t',o'⟩:=s';have e:o'=s.os:=ho;subst e;exact I.call (g':=g') (t':=t') (d':=d') u hok hg hch
end
abbrev XK:=Value->Option Addr->Hp->Prop
abbrev St:=List (Option V)
variable {σ:St}
abbrev VK:=V->Hp->Prop
abbrev TE:=St->Hp->VK->Prop
variable {ta td te tl tv ty:TE}{Ot:List (TE×TE)}
abbrev TT:=St->Hp->(Bool->Hp->Prop)->Prop
variable {tt:TT}
abbrev TA:=St->Hp->(List V->Hp->Prop)->Prop
structure Ends where
 nx:St->Hp->Prop
 rt:VK
 bk:St->Hp->Prop:=fun _ _=>False
 ct:St->Hp->Prop:=fun _ _=>False
abbrev TS:=Ends->St->Hp->Prop
variable {tb:TS}
inductive EP (X:Cx) (pins:List 0x22) (σ:St) (Q:VK) (u:Value) (s':Shared):Prop
 | mk (v:V) (H':Hp) (_:Inv X pins σ H' s') (_:RelV v u) (_:Q v H'):EP X pins σ Q u s'
inductive TP (X:Cx) (pins:List 0x22) (σ:St) (Q:Bool->Hp->Prop) (b:Bool) (s':Shared):Prop
 | mk (H':Hp) (_:Inv X pins σ H' s') (_:Q b H'):TP X pins σ Q b s'
inductive AP (X:Cx) (pins:List 0x22) (σ:St) (Q:List V->Hp->Prop) (us:List Value) (s':Shared):Prop
 | mk (vs:List V) (H':Hp) (_:Inv X pins σ H' s') (_:Vals vs us) (_:Q vs H'):AP X pins σ Q us s'
def SP (X:Cx) (pins:List 0x22) (D:Ends) (f:Flow) (s':Shared):Prop :=
 match f with
 | .next=>∃ σ' H',Inv X pins σ' H' s'/\D.nx σ' H'
 | .brk=>∃ σ' H',Inv X pins σ' H' s'/\D.bk σ' H'
 | .cont=>∃ σ' H',Inv X pins σ' H' s'/\D.ct σ' H'
 | .ret u=>∃ v σ' H',Inv X pins σ' H' s'/\RelV v u/\D.rt v H'
def PE (X:Cx) (e:Expr) (t:TE):Prop :=
 ∀ (pins:List 0x22) (s:Shared) (σ:St) (H:Hp) (Q:VK),Inv X pins σ H s->t σ H Q->wpAny 0x9 X.A (eval e X.env) 0x45 X.xe s
def PT (X:Cx) (e:Expr) (t:TT):Prop :=
 ∀ (pins:List 0x22) (s:Shared) (σ:St) (H:Hp) (Q:Bool->Hp->Prop),Inv X pins σ H s->t σ H Q->wpAny 0x9 X.A (isTrue e X.env (eval e X.env)) (TP X pins σ Q) X.xe s
def PW (X:Cx) (e:Expr) (t:TT):Prop :=
 ∀ (whole:Sem Value) (pins:List 0x22) (s:Shared) (σ:St) (H:Hp) (Q:Bool->Hp->Prop),Inv X pins σ H s->t σ H Q->wpAny 0x9 X.A (isTrue e X.env whole) (TP X pins σ Q) X.xe s
theorem PW.pt {t:TT} (h:PW X e t):PT X e t:=h _
def PA (X:Cx) (es:List Expr) (t:TA):Prop :=
 ∀ (pos:Pos) (pins:List 0x22) (s:Shared) (σ:St) (H:Hp) (Q:List V->Hp->Prop),Inv X pins σ H s->t σ H Q->wpAny 0x9 X.A (spliced 0x55) (AP X pins σ Q) X.xe s
def PS (X:Cx) (st:Stmt) (t:TS):Prop :=
 ∀ (pins:List 0x22) (s:Shared) (σ:St) (H:Hp) (D:Ends),Inv X pins σ H s->t D σ H->wpAny 0x9 X.A (exec st X.env) (SP X pins D) X.xe s
def Fp (X:Cx) (st:List Stmt) (t:TS):Prop :=
 ∀ (pins:List 0x22) (s:Shared) (σ:St) (H:Hp) (D:Ends),Inv X pins σ H s->t D σ H->wpAny 0x9 X.A (execs st X.env) (SP X pins D) X.xe s
theorem cL {α:Type}{t:Sem α}{Q Q':α->Shared->Prop}{M:Model} (h:wpAny M A t Q E s) (hQ:∀ a s,Q a s->Q' a s):wpAny M A t Q' E s:=A1d h hQ fun _ _ x=>x
section
inductive Bu (i:Nat) (σ:L2.St) (H:Hp) (Q:VK):Prop
 | mk (v:V) (_:σ[i]?=some (some v)) (_:Q v H):Bu i σ H Q
def tC (v:V):TE:=fun _ H Q=>Q v H
theorem Z9 (hN:X.N[i]?=some x) (hv:Vis X.env.scope x) (hd:0x31=false:=by decide) (hcd:(x==("__classdict__" : Str))=false:=by decide):PE X (.Name x pos) (Bu i):=by
 intro pins s σ H Q I h;obtain ⟨v,e,h⟩:=h;obtain ⟨m,hn,hl⟩:=I.loc;obtain ⟨u,r,l⟩:=hl i x v hN e hv;have fin:EP X pins σ Q u s:=⟨v,H,I,r,h⟩;rcases l with ⟨hk,hm⟩ | ⟨hk,c,hc,hcell⟩
 ·exact wpAny_Name (wpAny_loadName_local I.ok.kind hk hn hm fin) hd
 ·rcases hk with hk | hk
  ·exact wpAny_Name (wpAny_loadName_cell I.ok.kind hk hc hcell fin) hd
  ·exact wpAny_Name (wpAny_loadName_free I.ok.kind hk hc hcell fin hcd) hd
theorem aA {i j pos}:PE X (.Constant (.int i) j pos) (tC (.int i)):=fun _ _ _ H _ I h=>wpAny_Constant_int ⟨.int i,H,I.tok _,⟨_,rfl⟩,h⟩
theorem Bv {b j pos}:PE X (.Constant (.bool b) j pos) (tC (.bl b)):=fun _ _ _ H _ I h=>Constant_bool ⟨.bl b,H,I,rfl,h⟩
theorem Fq {j pos}:PE X (.Constant .none j pos) (tC .non):=fun _ _ _ H _ I h=>Constant_none ⟨.non,H,I,rfl,h⟩
theorem aN {x j pos}:PE X (.Constant (.str x) j pos) (tC (.str x)):=fun _ _ _ H _ I h=>Calls.Constant_str ⟨.str x,H,I.tok _,⟨_,rfl⟩,h⟩
def Gl (X:Cx) (x:Str):Prop:=X.env.kindOf x=some .globalImplicit
theorem pQ (I:Inv X pins σ H s) (hg:Gl X x) (hm:X.mg x=some u) (h:Q u s)
  (hd:0x31=false:=by decide):wpAny 0x9 X.A (eval (.Name x pos) X.env) Q E s :=
 A4J I.ok.kind hg (Calls.loadGlobal_global (by rw [I.ok.glob];exact I.mod.glob.keeps I.bk) hm h) hd
theorem oZ (I:Inv X pins σ H s) (hg:Gl X x) (hm:X.mg x=none) (hv:bootBuiltins x=some u) (h:Q u s)
  (hn:x≠"__name__":=by decide) (hd:0x31=false:=by decide):wpAny 0x9 X.A (eval (.Name x pos) X.env) Q E s:=by
 obtain ⟨mb,h1,h2⟩:=I.mod.blt;exact A4J I.ok.kind hg (Calls.loadGlobal_builtin (by rw [I.ok.glob];exact I.mod.glob.keeps I.bk) hm (by rw [I.ok.blt];exact h1.keeps I.bk) ((h2 x hn).trans hv) h) hd
theorem cY (hg:Gl X x) (hm:X.mg x=some u) (r:RelV v u) (hd:0x31=false:=by decide):PE X (.Name x pos) (tC v) :=
 fun _ _ _ H _ I h=>pQ I hg hm ⟨v,H,I,r,h⟩ hd
theorem j9 (hg:Gl X x) (hm:X.mg x=none) (hv:bootBuiltins x=some u) (r:RelV v u) (hn:x≠"__name__":=by decide) (hd:0x31=false:=by decide):PE X (.Name x pos) (tC v) :=
 fun _ _ _ H _ I h=>oZ I hg hm hv ⟨v,H,I,r,h⟩ hn hd
variable {a b:Expr}{tb:TE}
def PC (X:Cx) (op:CmpOp) (a b:Expr) (t:TE):Prop :=
 ∀ (pins:List 0x22) (s:Shared) (σ:St) (H:Hp) (Q:VK),Inv X pins σ H s->t σ H Q ->
  wpAny 0x9 X.A (eval a X.env) (fun v s₁=>wpAny 0x9 X.A (eval b X.env) (fun u s₂=>wpAny 0x9 X.A (compareOp op v u) 0x45 X.xe s₂) X.xe s₁) X.xe s
theorem Bw (b:Expr)  (h:op≠.In) (h2:op≠.NotIn):behindInMarks op b=false:=by
 have e1:(op==CmpOp.In)=false:=by cases op <;> first | rfl | exact absurd rfl h
 have e2:(op==CmpOp.NotIn)=false:=by cases op <;> first | rfl | exact absurd rfl h2
 cases b <;> simp [behindInMarks,e1,e2]
def tIsN (ta:TE):TE:=fun σ H Q=>ta σ H fun x H1=>Q (.bl (decide (x=.non))) H1
theorem RelV.Pb {x:V}{v:Value} (r:RelV x v):(v==Value.none)=decide (x=.non):=by
 cases x with
 | non=>cases r;rfl
 | bl _=>cases r;rfl
 | int _=>obtain ⟨t,rfl⟩:=r;rfl
 | str _=>obtain ⟨t,rfl⟩:=r;rfl
 | J4 _=>obtain ⟨t,rfl⟩:=r;rfl
 | flt _=>obtain ⟨t,rfl⟩:=r;rfl
 | ref _=>cases r;rfl
 | ty _=>cases r;rfl
theorem Pg {j pos'} (ha:PE X a ta):PC X .Is a (.Constant .none j pos') (tIsN ta):=by
 intro pins s σ H Q I h;refine cL 0x4E fun v s1 zq=>?_;obtain ⟨x,H1,I1,r1,q1⟩:=zq;exact Constant_none (is_none_gen ⟨.bl _,H1,I1,by rw [r1.Pb];rfl,q1⟩)
inductive tB_X (Q:Bool->Hp->Prop) (x:V) (H1:Hp):Prop
 | mk (c:Bool) (_:x=.bl c) (_:Q c H1):tB_X Q x H1
def tB (t:TE):TT:=fun σ H Q=>t σ H fun x H1=>tB_X Q x H1
theorem Ft {t:TE} (h:PC X op a b t) (h1:behindInMarks op b=false:=by first | exact Bw _ (by decide) (by decide) | rfl):PE X (.Compare a [op] [b] pos) t:=fun pins s σ H Q I hw=>wpAny_Compare1 (h pins s σ H Q I hw) h1
theorem Fv {t:TE} (h:PC X op a b t) (h1:behindInMarks op b=false:=by first | exact Bw _ 0x7 0x7 | rfl):PT X (.Compare a [op] [b] pos) (tB t):=by
 intro pins s σ H Q I hw;refine wpAny_isTrue_Compare1 (cL (h pins s σ H _ I hw) fun v s1 h1=>cL h1 fun u s2 h2=>cL h2 fun c s3 ⟨x,H1,I1,r1,q1⟩=>?_) h1;obtain ⟨d,rfl,q⟩:=q1;cases r1;exact A2m ⟨H1,I1,q⟩
theorem dU {t:TE} (h:PE X e t) (he:∀ whole,isTrue e X.env whole=(do let v <- whole;standAt e.pos;holding [v] (truthy v)):=by intro _;rfl):PT X e (tB t):=by
 intro pins s σ H Q I hw;refine isTrue_plain (cL (h pins s σ H _ I hw) fun v s1 ⟨x,H1,I1,r1,q1⟩=>?_) (he _);obtain ⟨d,rfl,q⟩:=q1;cases r1;exact A2m ⟨H1,I1,q⟩
variable {tA tB':TT}{rest:List Expr}
def tAnd (t u:TT):TT:=fun σ H Q=>t σ H fun c H1=>if c=true then u σ H1 Q else Q false H1
def tOr (t u:TT):TT:=fun σ H Q=>t σ H fun c H1=>if c=true then Q true H1 else u σ H1 Q
def tNot (t:TT):TT:=fun σ H Q=>t σ H fun c H1=>Q (!c) H1
theorem mq (ha:PT X a tA):PW X (.BoolOp .And [a] pos) tA:=by
 intro wh pins s σ H Q I h;refine isTrue_and (cL (ha pins s σ H Q I h) fun c s1 e=>?_);cases c with
 | true=>exact isTrue_and_nil e
 | false=>exact e
theorem pq (ha:PT X a tA):PW X (.BoolOp .Or [a] pos) tA:=by
 intro wh pins s σ H Q I h;refine isTrue_or (cL (ha pins s σ H Q I h) fun c s1 e=>?_);cases c with
 | false=>exact isTrue_or_nil e
 | true=>exact e
theorem pA (ha:PT X a tA) (hb:PW X (.BoolOp .And (b::rest) pos) tB'):PW X (.BoolOp .And (a::b::rest) pos) (tAnd tA tB'):=by
 intro wh pins s σ H Q I h;refine isTrue_and (cL 0x4E fun c s1 zq=>?_);obtain ⟨H1,I1,q1⟩:=zq;cases c with
 | true=>exact hb wh pins s1 σ H1 Q I1 q1
 | false=>exact ⟨H1,I1,q1⟩
theorem uD (ha:PT X a tA) (hb:PW X (.BoolOp .Or (b::rest) pos) tB'):PW X (.BoolOp .Or (a::b::rest) pos) (tOr tA tB'):=by
 intro wh pins s σ H Q I h;refine isTrue_or (cL 0x4E fun c s1 zq=>?_);obtain ⟨H1,I1,q1⟩:=zq;cases c with
 | true=>exact ⟨H1,I1,q1⟩
 | false=>exact hb wh pins s1 σ H1 Q I1 q1
theorem gO (ha:PT X a tA):PT X (.UnaryOp .Not a pos) (tNot tA):=by
 intro pins s σ H Q I h;exact isTrue_not (cL (ha pins s σ H (fun c H1=>Q (!c) H1) I h) fun c s1 ⟨H1,I1,q1⟩=>⟨H1,I1,q1⟩)
inductive J6 (tb:TE) (σ:L2.St) (Q:VK) (x:V) (H1:Hp):Prop
 | mk (c:Bool) (_:x=.bl c) (_:if c=true then tb σ H1 Q else Q (.bl false) H1):J6 tb σ Q x H1
def a1q (ta tb:TE):TE:=fun σ H Q=>ta σ H fun x H1=>J6 tb σ Q x H1
inductive J7 (Q:VK) (x:V) (H1:Hp):Prop
 | mk (c:Bool) (_:x=.bl c) (_:Q (.bl (!c)) H1):J7 Q x H1
def a1r (ta:TE):TE:=fun σ H Q=>ta σ H fun x H1=>J7 Q x H1
theorem uE {op}{t:TE} (h:PE X a t):PE X (.BoolOp op [a] pos) t:=fun pins s σ H Q I hw=>BoolOp_one (h pins s σ H Q I hw)
theorem nj (ha:PE X a ta) (hb:PE X (.BoolOp .And (b::rest) pos) tb):PE X (.BoolOp .And (a::b::rest) pos) (a1q ta tb):=by
 intro pins s σ H Q I h;refine BoolOp_and (cL 0x4E fun v s1 zq=>?_);obtain ⟨x,H1,I1,r1,q1⟩:=zq;obtain ⟨c,rfl,q1⟩:=q1;cases r1;refine A2m ?_;cases c with
 | true=>exact hb pins s1 σ H1 Q I1 q1
 | false=>exact ⟨.bl false,H1,I1,rfl,q1⟩
theorem Za (ha:PE X a ta):PE X (.UnaryOp .Not a pos) (a1r ta):=by
 intro pins s σ H Q I h;refine UnaryOp_ (cL 0x4E fun v s1 zq=>?_);obtain ⟨x,H1,I1,r1,q1⟩:=zq;obtain ⟨c,rfl,q1⟩:=q1;cases r1;exact not_of (A2m ⟨.bl (!c),H1,I1,rfl,q1⟩)
end
def bT (K:PySem.W.Frag) (H:Hp) (a:Addr) (xs:List V):Prop :=
 Rd H a (.lst xs) \/
  ∃ (o:Obj) (its:Array Value) (n:Nat),K.lookup a=some o/\o.cls=.type "list"/\o.dict=none/\o.data=.seq its n/\its.size<=sizeLine/\Vals xs its.toList
def bR (K:PySem.W.Frag) (H:Hp) (a:Addr) (xs:List V):Prop :=
 Rd H a 0x3E \/
  ∃ (o:Obj) (its:Array Value) (n:Nat),K.lookup a=some o/\o.cls=.type "tuple"/\o.data=.seq its n/\its.size<=sizeLine/\Vals xs its.toList
def absV:Value->Option V
 | .none=>some .non
 | .bool b=>some (.bl b)
 | .int i _=>some (.int i)
 | .str x _=>some (.str x)
 | .bytes b _=>some (.J4 b)
 | .float b _=>some (.flt b)
 | .ref a=>some (.ref a)
 | .type n=>some (.ty n)
 | _=>none
theorem RelV.abs {x:V} (r:RelV x u):absV u=some x:=by
 cases x with
 | non=>cases r;rfl
 | bl _=>cases r;rfl
 | int _=>obtain ⟨t,rfl⟩:=r;rfl
 | str _=>obtain ⟨t,rfl⟩:=r;rfl
 | J4 _=>obtain ⟨t,rfl⟩:=r;rfl
 | flt _=>obtain ⟨t,rfl⟩:=r;rfl
 | ref _=>cases r;rfl
 | ty _=>cases r;rfl
theorem RelV.inj {x:V} (r:RelV x u) (q:RelV y u):x=y:=A0O (r.abs.symm.trans q.abs)
theorem Vals.inj:∀ {xs ys:List V}{us:List Value},Vals xs us->Vals ys us->xs=ys
 | _,_,_,.nil,.nil=>rfl
 | _,_,_,.cons r t,.cons r' t'=>by rw [r.inj r',Vals.inj t t']
theorem bT.of (h:H a=some (.lst xs)):bT K H a xs:=.inl (.inl h)
theorem bR.of (h:H a=some 0x3E):bR K H a xs:=.inl (.inl h)
theorem Inv.list (I:Inv X pins σ H s) (h:bT X.K H a xs):∃ its:List Value,Vals xs its/\PlainL s.heap a its.toArray/\xs.length<=sizeLine:=by
 rcases h with h | ⟨o,its,n,hk,hc,hd,hs,hz,r⟩
 ·obtain ⟨z,its,n,r,e⟩:=h.ok I.hok;exact ⟨its,r,⟨_,n,e,rfl,rfl,rfl⟩,z⟩
 ·refine ⟨its.toList,r,⟨o,n,I.oU a o hk,hc,hd,by simpa using hs⟩,?_⟩;have e:=r.length;simp only [A0I] at e;lia
theorem Inv.tuple (I:Inv X pins σ H s) (h:bR X.K H a xs):∃ its:List Value,Vals xs its/\IsTup s.heap a its.toArray/\xs.length<=sizeLine:=by
 rcases h with h | ⟨o,its,n,hk,hc,hs,hz,r⟩
 ·obtain ⟨z,its,r,p⟩:=h.ok I.hok;exact ⟨its,r,p,z⟩
 ·refine ⟨its.toList,r,⟨o,I.oU a o hk,hc,n,by simpa using hs⟩,?_⟩;have e:=r.length;simp only [A0I] at e;lia
theorem Inv.Bx (I:Inv X pins σ H s) (h:bT X.K H a xs) (h':bT X.K H a ys):xs=ys:=by
 obtain ⟨its,r,⟨o,n,e,_,_,d⟩,_⟩:=I.list h;obtain ⟨its',r',⟨o',n',e',_,_,d'⟩,_⟩:=I.list h';rw [e] at e';cases e';rw [d] at d';injection d' with d1 _;have:its=its':=by simpa using A1v Array.toList d1
 subst this;exact r.inj r'
theorem Inv.Lz (I:Inv X pins σ H s) (h:bR X.K H a xs) (h':bR X.K H a ys):xs=ys:=by
 obtain ⟨its,r,⟨o,e,_,n,d⟩,_⟩:=I.tuple h;obtain ⟨its',r',⟨o',e',_,n',d'⟩,_⟩:=I.tuple h';rw [e] at e';cases e';rw [d] at d';injection d' with d1 _;have:its=its':=by simpa using A1v Array.toList d1
 subst this;exact r.inj r'
abbrev Cx.wish (X:Cx) (E:Value->Shared->Prop):Cx:={ X with xe:=E }
abbrev Cx.nox (X:Cx):Cx:=X.wish fun _ _=>False
theorem Cx.Ok.wish (ok:X.Ok) (E:Value->Shared->Prop):(X.wish E).Ok :=
 ⟨ok.mod,ok.kind,ok.glob,ok.blt,ok.above,ok.inj,ok.has,ok.cab,ok.hd,ok.frames,ok.stk,ok.exf,ok.bs,ok.OJ,ok.Fo,ok.Ly,ok.qY,ok.Y9⟩
theorem Cx.Ok.nq (ok:(X.wish E).Ok):X.Ok :=
 ⟨ok.mod,ok.kind,ok.glob,ok.blt,ok.above,ok.inj,ok.has,ok.cab,ok.hd,ok.frames,ok.stk,ok.exf,ok.bs,ok.OJ,ok.Fo,ok.Ly,ok.qY,ok.Y9⟩
theorem Inv.wish (I:Inv X pins σ H s) (E:Value->Shared->Prop):Inv (X.wish E) pins σ H s:=⟨I.ok.wish E,I.os,I.bare,I.base,I.loc,I.cell,I.free,I.jZ,I.pin,I.hok,I.len⟩
theorem Inv.nq (I:Inv (X.wish E) pins σ H s):Inv X pins σ H s:=⟨I.ok.nq,I.os,I.bare,I.base,I.loc,I.cell,I.free,I.jZ,I.pin,I.hok,I.len⟩
theorem SP.nq {D:Ends}{f:Flow} (h:SP (X.wish E) pins D f s'):SP X pins D f s':=by
 cases f with
 | next=>obtain ⟨σ',H',I,q⟩:=h;exact ⟨σ',H',I.nq,q⟩
 | brk=>obtain ⟨σ',H',I,q⟩:=h;exact ⟨σ',H',I.nq,q⟩
 | cont=>obtain ⟨σ',H',I,q⟩:=h;exact ⟨σ',H',I.nq,q⟩
 | ret u=>obtain ⟨v,σ',H',I,r,q⟩:=h;exact ⟨v,σ',H',I.nq,r,q⟩
theorem Fp.nox {st:List Stmt}{t:TS} (h:Fp X.nox st t):Fp X st t:=fun pins s σ H D I hw =>
 A1d (h pins s σ H D (I.wish _) hw) (fun _ _ q=>q.nq) fun _ _ z=>False.elim z
section
variable {rest:List Stmt}{t u:TS}
def a1s:TS:=fun D σ H=>D.nx σ H
def LC (t u:TS):TS:=fun D σ H=>t { D with nx:=u D } σ H
theorem aX:Fp X [] a1s:=fun _ _ σ H _ I h=>A4m ⟨σ,H,I,h⟩
theorem au (h1:PS X st t) (h2:Fp X rest u):Fp X (st::rest) (LC t u):=by
 intro pins s σ H D I h;refine wpAny_execs_cons (cL (h1 pins s σ H { D with nx:=u D } I h) fun f s1 q=>?_);cases f with
 | next =>
  obtain ⟨σ',H',I',q⟩:=q;exact h2 pins s1 σ' H' D I' q
 | ret v=>exact q
 | brk=>exact q
 | cont=>exact q
theorem aG (h1:PS X st t):Fp X [st] t:=by
 intro pins s σ H D I h;refine wpAny_execs_cons (cL (h1 pins s σ H D I h) fun f s1 q=>?_);cases f with
 | next=>exact A4m q
 | ret v=>exact q
 | brk=>exact q
 | cont=>exact q
theorem Inv.quiet (I:Inv X pins σ H s):interactive X.env=false:=by simp [interactive,I.ok.kind]
def a1t (te:TE):TS:=fun D σ H=>te σ H fun _ H1=>D.nx σ H1
theorem bO (he:PE X e te) (hs:swapsWith e none pos.line X.env=pure false:=by rfl):PS X (.Expr e pos) (a1t te):=by
 intro pins s σ H D I h;exact wpAny_Expr_any (cL 0x5A fun v s1 ⟨x,H1,I1,r1,q1⟩=>⟨σ,H1,I1,q1⟩) I.quiet hs
def Vv (te:TE):TS:=fun D σ H=>te σ H D.rt
theorem aZ (he:PE X e te):PS X (.Return (some e) pos) (Vv te):=by
 intro pins s σ H D I h;exact wpAny_Return_some (cL 0x5A fun v s1 ⟨x,H1,I1,r1,q1⟩=>⟨x,σ,H1,I1,r1,q1⟩)
def LQ (c:TT) (t u:TS):TS:=fun D σ H=>c σ H fun b H1=>if b=true then t D σ H1 else u D σ H1
theorem bQ {c:Expr}{a b:List Stmt}{tc:TT} (hc:PT X c tc) (ha:Fp X a t) (hb:Fp X b u):PS X (.If c a b pos) (LQ tc t u):=by
 intro pins s σ H D I h;refine wpAny_If (cL (hc pins s σ H _ I h) fun d s1 zq=>?_);obtain ⟨H1,I1,q1⟩:=zq;cases d with
 | true=>exact ha pins s1 σ H1 D I1 q1
 | false=>exact hb pins s1 σ H1 D I1 q1
def Zb:TS:=fun _ _ _=>False
theorem cB {sts:List Stmt}:Fp X sts Zb:=fun _ _ _ _ _ _ h=>h.elim
end
abbrev TG:=V->St->Hp->(St->Hp->Prop)->Prop
variable {g:TG}
abbrev Zc:=List V->St->Hp->(St->Hp->Prop)->Prop
def PG (X:Cx) (target:Expr) (t:TG):Prop :=
 ∀ (pins:List 0x22) (s:Shared) (σ:St) (H:Hp) (v:V) (u:Value) (Q:St->Hp->Prop),Inv X pins σ H s->RelV v u->t v σ H Q ->
  wpAny 0x9 X.A (assign target X.env u) (fun _ s'=>∃ σ' H',Inv X pins σ' H' s'/\Q σ' H') X.xe s
def PGs (X:Cx) (ts:List Expr) (t:Zc):Prop :=
 ∀ (pins:List 0x22) (s:Shared) (σ:St) (H:Hp) (vs:List V) (us:List Value) (Q:St->Hp->Prop),Inv X pins σ H s->Vals vs us->t vs σ H Q ->
  wpAny 0x9 X.A (assignInOrder ((assignEach ts X.env).map (·.2)) us) (fun _ s'=>∃ σ' H',Inv X pins σ' H' s'/\Q σ' H') X.xe s
def uF (i:Nat):TG:=fun v σ H Q=>Q (σ.set i (some v)) H
theorem bD (hN:X.N.Nodup) (hi:X.N[i]?=some x) (hx:Loc X.env.scope x) (hf:X.fn x=true\/X.env.scope.names.lookup x=some .local:=by first | exact .inl rfl | exact .inr rfl | assumption):PG X (.Name x pos) (uF i):=by
 intro pins s σ H v u Q I r h;exact wpAny_assign_Name (pP I hN hi hx r (fun s' I'=>⟨_,H,I',h⟩) hf)
def gNil:Zc:=fun vs σ H Q=>vs=[]/\Q σ H
inductive Yb (t:TG) (u:Zc) (vs:List V) (σ:L2.St) (H:Hp) (Q:L2.St->Hp->Prop):Prop
 | mk (v:V) (r:List V) (_:vs=v::r) (_:t v σ H fun σ' H'=>u r σ' H' Q):Yb t u vs σ H Q
theorem gj:PGs X [] gNil:=by
 intro pins s σ H vs us Q I r h;obtain ⟨e,h⟩:=h;subst e;cases r;exact assignInOrder_nil ⟨σ,H,I,h⟩
theorem bM {es:List Expr}{t:TG}{u:Zc} (h1:PG X e t) (h2:PGs X es u)
  (hs:(assignEach (e::es) X.env).map (·.2)=assign e X.env::(assignEach es X.env).map (·.2):=by rfl):PGs X (e::es) (Yb t u):=by
 intro pins s σ H vs us Q I r h;obtain ⟨v,vr,e1,h⟩:=h;subst e1;cases r with
 | cons r rr =>
  rw [hs];refine A4K (cL (h1 pins s σ H _ _ _ I r h) fun _ s1 zq=>?_);obtain ⟨σ1,H1,I1,q1⟩:=zq;exact h2 pins s1 σ1 H1 _ _ Q I1 rr q1
inductive Zd (K:W.Frag) (n:Nat) (t:Zc) (v:V) (σ:L2.St) (H:Hp) (Q:L2.St->Hp->Prop):Prop
 | mk (a:Addr) (xs:List V) (_:v=.ref a) (_:bR K H a xs) (_:xs.length=n) (_:t xs σ H Q):Zd K n t v σ H Q
theorem lq {es:List Expr}{k:Nat}{t:Zc} (hc:X.calm=true) (h:PGs X es t)
  (hn:(assignEach es X.env).length=n:=by rfl) (hst:(assignEach es X.env).findIdx? (·.1)=none:=by rfl):PG X (.Tuple es k pos) (Zd X.K n t):=by
 intro pins s σ H v u Q I r hw;obtain ⟨a,xs,e1,hq,hl,hw⟩:=hw;subst e1;cases r;obtain ⟨its,rv,ht,hz⟩:=I.tuple hq;refine assign_Tuple_tuple (I.ok.hd hc) ht (by simp [hn,<- hl,rv.length]) hst fun h' hx=>?_;have I1:Inv X pins σ H { s with heap:=h' }:=I.kept (t':=s.toks) fun b o e=>hx b o (A0y (A0q e)) e;exact h pins _ σ H xs _ Q I1 (by simpa using rv) hw
def tAsg (te:TE) (g:TG):TS:=fun D σ H=>te σ H fun x H1=>g x σ H1 D.nx
theorem qZ (he:PE X e te) (hg:PG X tg g) (hs:swapsWithSole [tg] e pos.line X.env=pure false:=by rfl) (hw:swappedStores [tg] e X.env=pure none:=by rfl)
  (h1:(assignEach [tg] X.env).map (·.2)=[assign tg X.env]:=by rfl):PS X (.Assign [tg] e pos) (tAsg te g):=by
 intro pins s σ H D I h;refine wpAny_Assign_stores (cL 0x5A fun v s1 ⟨x,H1,I1,r1,q1⟩=>?_) hs hw;rw [h1];exact cL (hg pins s1 σ H1 x v _ I1 r1 q1) fun _ s2 q=>q
theorem aU (hN:X.N.Nodup) (hi:X.N[i]?=some x) (hx:Loc X.env.scope x) (he:PE X e te) (hs:swapsWith e (some (.Name x pos')) pos.line X.env=pure false:=by rfl) (hf:X.fn x=true\/X.env.scope.names.lookup x=some .local:=by first | exact .inl rfl | exact .inr rfl | assumption) :
  PS X (.Assign [.Name x pos'] e pos) (tAsg te (uF i)):=by
 intro pins s σ H D I h;refine wpAny_Assign_Name (cL 0x5A fun v s1 ⟨y,H1,I1,r1,q1⟩=>?_) hs;exact pP I1 hN hi hx r1 (fun s2 I2=>⟨_,H1,I2,q1⟩) hf
inductive Ph (i j:Nat) (D:Ends) (σ:L2.St) (vs:List V) (H1:Hp):Prop
 | mk (v w:V) (_:vs=[v,w]) (_:D.nx ((σ.set i (some v)).set j (some w)) H1):Ph i j D σ vs H1
def tPar (i j:Nat) (ta:TA):TS:=fun D σ H=>ta σ H fun vs H1=>Ph i j D σ vs H1
theorem Pj {y:Str}{a b:Expr}{ta:TA}{px py pt:Pos}{kt k2 pt2} (hc:X.calm=true) (hN:X.N.Nodup) (hi:X.N[i]?=some x) (hj:X.N[j]?=some y) (hij:i≠j)
  (hx:X.env.scope.names.lookup x=some .local) (hy:X.env.scope.names.lookup y=some .local) (ha:PA X [a,b] ta)
  (hw:swappedStores [.Tuple [.Name x px,.Name y py] kt pt] (.Tuple [a,b] k2 pt2) X.env=pure (some [x,y]))
  (hs:swapsWithSole [.Tuple [.Name x px,.Name y py] kt pt] (.Tuple [a,b] k2 pt2) pos.line X.env=pure false:=by rfl) :
  PS X (.Assign [.Tuple [.Name x px,.Name y py] kt pt] (.Tuple [a,b] k2 pt2) pos) (tPar i j ta):=by
 intro pins s σ H D I h;rw [exec_Assign_arm];refine A0a (A2j ?_);rw [hs];refine A0a (A0d ?_);rw [A0e 0x7];refine A0a (Tuple_ (cL (ha _ pins s σ H _ I h) fun us s1 zq=>?_));obtain ⟨vs,H1,I1,r1,q1⟩:=zq;obtain ⟨v,w,e1,q1⟩:=q1;subst e1;obtain ⟨u1,u2,rfl,rv,bG⟩:∃ u1 u2,us=[u1,u2]/\RelV v u1/\RelV w u2:=by
  cases r1 with
  | cons p q =>
   cases q with
   | cons p' q' =>
    cases q';exact ⟨_,_,rfl,p,p'⟩
 refine A1n ?_ (by show 2<=sizeLine;decide)
 have I2:Inv X pins σ H1 { s1 with heap:=s1.heap.push { cls:=.type "tuple",data:=.seq [u1,u2].toArray } }:=I1.kept (t':=s1.toks) fun b o e=>A0b _ e;rw [hw];refine A0a (A0d ?_)
 show wpAny 0x9 X.A (do rule "assign.swapped-stores";let items <- unpackItems (.ref s1.heap.objs.size) 2 none;assignInOrder [fun v=>bindName X.env y v,fun v=>bindName X.env x v] items.reverse;pure Flow.next) _ _ _
 refine A0a (A2Z (A0a (unpackItems_tuple (items:=#[u1,u2]) (I.ok.hd hc) (IsTup.new s1.heap _) fun h' hx'=>?_)));have I3:=I2.kept (h':=h') (t':=s1.toks) fun b o e=>hx' b o (A0y (A0q e)) e
 show wpAny _ _ (assignInOrder [fun v=>bindName X.env y v,fun v=>bindName X.env x v] [u2,u1] >>= fun _=>pure Flow.next) _ _ _
 refine A0a (A4K (wpAny_bindName (pP I3 hN hj (.inl hy) bG (fun s2 I4=>?_) (.inr hy))));refine A4K (wpAny_bindName (pP I4 hN hi (.inl hx) rv (fun s3 I5=>assignInOrder_nil (A0d ?_)) (.inr hx)));rw [List.set_comm _ _ (A0k hij)] at I5;exact ⟨_,H1,I5,q1⟩
def Pk (c:TT) (tb:TS):TS:=fun D σ H=>∃ W:Nat->St->Hp->Prop,(∃ m,W m σ H)/\∀ m σ H,W m σ H ->
 c σ H fun b H1=>if b=true then ∃ N:St->Hp->Prop,(∀ σ' H',N σ' H'->∃ m',m'<m/\W m' σ' H')/\tb { D with nx:=N,ct:=N,bk:=D.nx } σ H1 else D.nx σ H1
theorem lO {c:Expr}{tc:TT} (hp:PassesOwn 0x9 X.A X.env X.xe) (hc:PT X c tc) (hb:Fp X body tb):PS X (.While c body [] pos) (Pk tc tb):=by
 intro pins s σ H D I h;obtain ⟨W,⟨m0,w0⟩,turn⟩:=h;refine wpAny_While (codeAny_whileLoop (fun n s'=>∃ σ' H',Inv X pins σ' H' s'/\W n σ' H') ?_ m0 ⟨σ,H,I,w0⟩);rintro n s1 ⟨σ1,H1,I1,w1⟩;refine A2G hp (cL (hc pins s1 σ1 H1 _ I1 (turn n σ1 H1 w1)) fun b s2 zq=>?_);obtain ⟨H2,I2,q2⟩:=zq;cases b with
 | true =>
  obtain ⟨N,hN,q2⟩:=q2;rw [A0i rfl];refine A2G hp (cL (hb pins s2 σ1 H2 _ I2 q2) fun f s3 q3=>?_);cases f with
  | next =>
   obtain ⟨σ3,H3,I3,n3⟩:=q3;obtain ⟨m',hm,w3⟩:=hN σ3 H3 n3;exact ⟨m',hm,σ3,H3,I3,w3⟩
  | cont =>
   obtain ⟨σ3,H3,I3,n3⟩:=q3;obtain ⟨m',hm,w3⟩:=hN σ3 H3 n3;exact ⟨m',hm,σ3,H3,I3,w3⟩
  | brk=>exact q3
  | ret v=>exact q3
 | false =>
  rw [A0e A0o];exact A4m ⟨σ1,H2,I2,q2⟩
structure It where
 go:Nat->Hp->Prop
 J8:Nat->Hp->V->Hp->Prop
 stop:Nat->Hp->Prop
def iU (X:Cx) (pins:List 0x22) (H:Hp) (b:Addr):Prop :=
 H b=none/\b≠X.env.locals/\b∉X.fs/\(b∈X.ex\/X.s₀.heap.objs.size<=b)/\(∀ x c,X.env.cells.lookup x=some c->c≠b)/\∀ p∈X.pn++pins,p.1≠b
theorem Inv.uG (I:Inv X pins σ H s) (hb:s.heap.objs.size<=b) (hn:H' b=none):iU X pins H' b:=by
 refine ⟨hn,A3a (A0p I.lt hb),I.nofs hb,.inr (A0M I.sz hb),fun x c e z=>?_,fun p hp z=>?_⟩
 ·obtain ⟨v,q⟩:=I.cell x c e;exact absurd (A0p q.lt (by rw [z];exact hb)) (A1p _)
 ·exact absurd (A0p (A0q (I.pin p hp).1) (by rw [z];exact hb)) (A1p _)
structure Turn (P:Program) (w:World) (K:PySem.W.Frag) (tg:Expr) (J:It) (fp:List Addr) (it:Addr) (tn:Nat->Heap->Prop):Prop where
 mem:it∈fp
 obj:∀ i h,tn i h->∀ b∈fp,∃ o,h.get? b=some o/\∀ v,o.data≠.cell v
 keep:∀ i h h',tn i h->(∀ b∈fp,∀ o,h.get? b=some o->h'.get? b=some o)->tn i h'
 item:∀ (X:Cx),X.prog=P->X.w=w->X.K=K->X.calm=true->∀ (i:Nat) (pins:List 0x22) (s:Shared) (σ:St) (H:Hp) (E:Value->Shared->Prop),Inv X pins σ H s->(∀ b∈fp,iU X pins H b)->tn i s.heap->J.go i H ->
  wpAny (model P w) X.A (pyNext (.ref it)) (fun r s1=>∃ u,r=some u /\
   wpAny (model P w) X.A (letOwnedTupleGo tg (.ref it) u) (fun _ s2=>∃ x H',Inv X pins σ H' s2/\RelV x u/\J.J8 i H x H'/\tn (i+1) s2.heap/\∀ b∈fp,H' b=none) E s1) E s
 done:∀ (X:Cx),X.prog=P->X.w=w->X.K=K->X.calm=true->∀ (i:Nat) (pins:List 0x22) (s:Shared) (σ:St) (H:Hp) (E:Value->Shared->Prop),Inv X pins σ H s->(∀ b∈fp,iU X pins H b)->tn i s.heap->J.stop i H ->
  wpAny (model P w) X.A (pyNext (.ref it)) (fun r s1=>r=none/\Inv X pins σ H s1) E s
 self:∀ (A:Around) (i:Nat) (s:Shared) (Q:Value->Shared->Prop) (E:Value->Shared->Prop),tn i s.heap->Q (.ref it) s->wpAny (model P w) A (pyIter (.ref it)) Q E s
abbrev TI:=St->Hp->(It->Hp->Prop)->Prop
variable {wi:TI}
inductive PIE (X:Cx) (pins:List 0x22) (σ:St) (tg:Expr) (R:It->Hp->Prop) (itv:Value) (s2:Shared):Prop
 | mk (it:Addr) (fp:List Addr) (tn:Nat->Heap->Prop) (J:It) (H':Hp) (_:itv=.ref it) (_:Inv X pins σ H' s2) (_:Turn X.prog X.w X.K tg J fp it tn) (_:tn 0 s2.heap) (_:(∀ b∈fp,iU X pins H' b)) (_:R J H'):PIE X pins σ tg R itv s2
def PI (X:Cx) (tg iter:Expr) (wi:TI):Prop :=
 ∀ (pins:List 0x22) (s:Shared) (σ:St) (H:Hp) (R:It->Hp->Prop),Inv X pins σ H s->wi σ H R ->
  wpAny 0x9 X.A (eval iter X.env) (fun v s1=>wpAny 0x9 X.A (pyIter v) (PIE X pins σ tg R) X.xe s1) X.xe s
theorem J9 {M:Model}{o:Obj}{n:String}{vs:Array Value}{Q:Unit->Shared->Prop} (ho:s.heap.get? it=some o) (hc:o.cls=.type n) (hd:o.data=.fields vs)
  (hn:["enumerate", "zip", "dict_itemiterator", "dict_reverseitemiterator", "odict_iterator", "itertools.zip_longest", "itertools.pairwise"].contains n=false) (hQ:Q () s):wpAny M A (letOwnedTupleGo tg (.ref it) u) Q E s:=by
 unfold letOwnedTupleGo;cases tg <;> first
  | exact A0d hQ
  | (cases u <;> first
    | exact A0d hQ
    | (refine A0a (A5j ho ?_)
       rw [hc,hd]
       show wpAny M A (if (["enumerate", "zip", "dict_itemiterator", "dict_reverseitemiterator", "odict_iterator", "itertools.zip_longest", "itertools.pairwise"].contains n&&vs[0]?==some (rawInt _))=true then _ else _) Q E s
       rw [A0e (by intro h;rw [hn,Bool.false_and] at h;cases h)];exact A0d hQ))
def Ze (K:PySem.W.Frag) (a:Addr):It :=
 ⟨fun i H=>∃ xs x,bT K H a xs/\xs[i]?=some x,fun i H x H'=>H'=H/\∀ xs,bT K H a xs->xs[i]?=some x,fun i H=>∃ xs,bT K H a xs/\xs.length<=i⟩
def Zf (lo:Int) (n:Nat):It:=⟨fun i _=>i<n,fun i H x H'=>H'=H/\x=.int (lo+i),fun i _=>n<=i⟩
theorem LR (a it:Addr):Turn P w K tg (Ze K a) [it] it (fun i h=>h.IsListIter it a i) where
 mem:=by simp
 obj:=fun i h st b hb=>by
  have e:b=it:=by simpa using hb
  subst e;obtain ⟨o,e,c,d⟩:=st;exact ⟨o,e,fun v z=>by rw [d] at z;cases z⟩
 keep:=fun i h h' st k=>st.at fun o e=>k it 0xA o e
 item:=by
  intro X hP hw hK hc i pins s σ H E I hf st hg;subst hP hw hK;obtain ⟨xs,x,hq,hx⟩:=hg;obtain ⟨its,rv,p,hz⟩:=I.list hq;obtain ⟨u,hu,ru⟩:=rv.get hx;obtain ⟨f0,f1,f2,f3,f4,f5⟩:=hf it 0xA;refine wpAny_pyNext_list_item st p.isList (x:=u) (by simpa using hu) fun h' st' sb=>?_;have I1:Inv X pins σ H { s with heap:=h' }:=I.turned (t':=s.toks) (fun b o hb e=>(sb.2 b hb).trans e) f0 f1 f3 f4 f5;obtain ⟨o,e,c,d⟩:=id st';exact ⟨u,rfl,J9 (s:={ s with heap:=h' }) e c d 0x7 ⟨x,H,I1,ru,⟨rfl,fun ys hy=>by rw [I.Bx hy hq];exact hx⟩,st',fun b hb=>(hf b hb).1⟩⟩
 done:=by
  intro X hP hw hK hc i pins s σ H E I hf st hg;subst hP hw hK;obtain ⟨xs,hq,hx⟩:=hg;obtain ⟨its,rv,p,hz⟩:=I.list hq;obtain ⟨f0,f1,f2,f3,f4,f5⟩:=hf it 0xA;have hl:=rv.length;exact wpAny_pyNext_list_end (I.ok.hd hc) st p.isList (by simp;lia) fun h' eb=>⟨rfl,I.turned (t':=s.toks) (fun b o hb e=>eb b o hb e) f0 f1 f3 f4 f5⟩
 self:=fun _ _ _ _ _ st h=>wpAny_pyIter_listiter st h
theorem Fw (it:Addr) (lo:Int) (n:Nat):Turn P w K tg (Zf lo n) [it] it (fun i h=>IsRangeIter h it (lo+(i:Nat) * 1) ((n:Int) - (i:Nat)) 1) where
 mem:=by simp
 obj:=fun i h st b hb=>by
  have e:b=it:=by simpa using hb
  subst e;exact ⟨_,st,fun v z=>by
   have z':Data.fields _=Data.cell v:=z;cases z'⟩
 keep:=fun i h h' st k=>k it 0xA _ st
 item:=by
  intro X hP hw hK hc i pins s σ H E I hf st hg;subst hP hw hK;obtain ⟨f0,f1,f2,f3,f4,f5⟩:=hf it 0xA;have W:=Walks.range (prog:=X.prog) (w:=X.w) (I.ok.hd hc) it lo 1 n;refine W.item i s _ _ hg st fun v h' tk hv st' kk=>?_;obtain ⟨t,rfl⟩:=hv;have I1:Inv X pins σ H { s with heap:=h',toks:=tk }:=I.turned (fun b o hb e=>kk b o (by simpa using hb) e) f0 f1 f3 f4 f5;refine ⟨_,rfl,J9 (s:={ s with heap:=h',toks:=tk }) (n:="range_iterator") st' rfl rfl 0x7 ⟨.int (lo+i),H,I1,⟨t,?_⟩,⟨rfl,rfl⟩,st',fun b hb=>(hf b hb).1⟩⟩;rw [Int.mul_one]
 done:=by
  intro X hP hw hK hc i pins s σ H E I hf st hg;subst hP hw hK;obtain ⟨f0,f1,f2,f3,f4,f5⟩:=hf it 0xA;exact wpAny_pyNext_range_end (I.ok.hd hc) st (by have:n<=i:=hg;lia) fun h' eb=>⟨rfl,I.turned (t':=s.toks) (fun b o hb e=>eb b o hb e) f0 f1 f3 f4 f5⟩
 self:=fun _ _ _ _ _ st h=>wpAny_pyIter_rangeiter st h
inductive Ja (K:W.Frag) (R:It->Hp->Prop) (x:V) (H1:Hp):Prop
 | mk (a:Addr) (_:x=.ref a) (_:(∃ xs,bT K H1 a xs)) (_:R (Ze K a) H1):Ja K R x H1
def a1u (K:PySem.W.Frag) (tl:TE):TI:=fun σ H R=>tl σ H fun x H1=>Ja K R x H1
theorem gH {l:Expr} (hl:PE X l tl):PI X tg l (a1u X.K tl):=by
 intro pins s σ H R I h;refine cL (hl pins s σ H _ I h) fun v s1 zq=>?_;obtain ⟨x,H1,I1,r1,q1⟩:=zq;obtain ⟨a,e,⟨xs,hq⟩,q⟩:=q1;subst e;cases r1;obtain ⟨its,rv,p,hz⟩:=I1.list hq;refine A3m p.isList ?_;refine ⟨s1.heap.objs.size,[s1.heap.objs.size],_,_,H1,rfl,I1.kept (t':=s1.toks) fun b o e=>A0b _ e,LR a _,⟨_,A0n _ rfl,rfl,rfl⟩,fun b hb=>?_,q⟩;have e:b=s1.heap.objs.size:=by simpa using hb
 subst e;exact I1.uG (A0f _) (I1.hok.fresh (A0f _))
theorem Pn {R:It->Hp->Prop}{lo hi:Int}{t u v:Tok}{tk:Nat} (I:Inv X pins σ H s) (h1:-(2 ^ 62)<=lo) (h2:lo<2 ^ 62) (h3:-(2 ^ 62)<=hi) (h4:hi<2 ^ 62)
  (q:R (Zf lo (hi - lo).toNat) H):wpAny 0x9 X.A (pyIter 0x17) (PIE X pins σ tg R) E { s with heap:=s.heap.push { cls:=.type "range",data:=.fields #[.int lo t,.int hi u,.int 1 v] },toks:=tk }:=by
 refine wpAny_pyIter_range (IsRange.new ..) (small_one h1 h2 h3 h4) ?_;have I1:Inv X pins σ H { s with heap:=s.heap.push { cls:=.type "range",data:=.fields #[.int lo t,.int hi u,.int 1 v] },toks:=tk }:=I.kept fun b o e=>A0b _ e;refine ⟨(s.heap.push { cls:=.type "range",data:=.fields #[.int lo t,.int hi u,.int 1 v] }).objs.size,[(s.heap.push { cls:=.type "range",data:=.fields #[.int lo t,.int hi u,.int 1 v] }).objs.size],_,_,H,rfl,
  I1.kept (t':=tk) fun b o e=>A0b _ e,Fw _ lo (hi - lo).toNat,?_,fun b hb=>?_,q⟩
 ·have e1:lo+((0:Nat):Int) * 1=lo:=by simp
  have e2:(((hi - lo).toNat:Nat):Int) - ((0:Nat):Int)=Builtin.Range.rangeSize lo hi 1:=by rw [rangeSize_one];split <;> lia
  show IsRangeIter _ _ (lo+((0:Nat):Int) * 1) ((((hi - lo).toNat:Nat):Int) - ((0:Nat):Int)) 1
  rw [e1,e2];exact A0n _ rfl
 ·have e:b=(s.heap.push { cls:=.type "range",data:=.fields #[.int lo t,.int hi u,.int 1 v] }).objs.size:=by simpa using hb
  subst e;exact I1.uG (A0f _) (I1.hok.fresh (A0f _))
inductive Jb (R:It->Hp->Prop) (vs:List V) (H1:Hp):Prop
 | mk (j:Int) (_:vs=[.int j]) (_:-(2 ^ 62)<=j) (_:j<2 ^ 62) (_:R (Zf 0 j.toNat) H1):Jb R vs H1
def a1v (ta:TA):TI:=fun σ H R=>ta σ H fun vs H1=>Jb R vs H1
theorem lQ {a:Expr}{ta:TA}{p:Pos} (hg:Gl X "range") (hm:X.mg "range"=none) (ha:PA X [a] ta) (hs:starEach [a] X.env=[(false,eval a X.env)]:=by rfl):PI X tg (.Call (.Name "range" p) [a] [] pos) (a1v ta):=by
 intro pins s σ H R I h;refine Call_ (oZ I hg hm boot_range (A2s (cL (ha pos pins s σ H _ I h) fun us s1 ⟨vs,H1,I1,r1,q1⟩=>?_) hs rfl));obtain ⟨j,e,q1,q2,q⟩:=q1;subst e;cases r1 with
 | cons r rr =>
  cases rr;obtain ⟨t,rfl⟩:=r;exact call_range_1 (Pn I1 0x2 0x2 q1 q2 (by simpa using q))
def tFor (wi:TI) (g:TG) (tb:TS):TS:=fun D σ H=>wi σ H fun J H1=>∃ W:Nat->Nat->St->Hp->Prop,(∃ m,W 0 m σ H1)/\∀ i m σ H,W i m σ H ->
 (J.stop i H/\D.nx σ H)\/(J.go i H/\∃ N:St->Hp->Prop,(∀ σ' H',N σ' H'->∃ m',m'<m/\W (i+1) m' σ' H')/\∀ x H',J.J8 i H x H'->g x σ H' fun σ2 H2=>tb { D with nx:=N,ct:=N,bk:=D.nx } σ2 H2)
def rB (fp:List Addr) (h:Heap):List 0x22:=fp.filterMap fun b=>(h.get? b).map fun o=>(b,o)
theorem gA {o:Obj} (hb:b∈fp) (e:h.get? b=some o):(b,o)∈rB fp h:=A4L.mpr ⟨b,hb,by rw [e];rfl⟩
theorem Ma {p:Addr×Obj} (hp:p∈rB fp h):p.1∈fp/\h.get? p.1=some p.2:=by
 obtain ⟨b,hb,e⟩:=A4L.mp hp;cases q:h.get? b with
 | none=>rw [q] at e;cases e
 | some o =>
  rw [q] at e;have e':(b,o)=p:=A0O e;subst e';exact ⟨hb,q⟩
theorem Inv.pinned (I:Inv X pins σ H s) (hf:∀ b∈fp,iU X pins H b) (ho:∀ b∈fp,∃ o,s.heap.get? b=some o/\∀ v,o.data≠.cell v):Inv X (pins++rB fp s.heap) σ H s :=
 I.J5 fun p hp=>(A0v.mp hp).elim (fun z=>I.pin p (A0x _ z)) fun z=>by
  obtain ⟨hb,e⟩:=Ma z;obtain ⟨f0,f1,f2,_⟩:=hf p.1 hb;obtain ⟨o,e',d⟩:=ho p.1 hb;rw [e] at e';cases e';exact ⟨e,f0,f1,f2,d⟩
theorem Inv.lR {pl:List 0x22} (I:Inv X (pins++pl) σ H s):Inv X pins σ H s:=I.J5 fun p hp=>I.pin p (A0x _ (A1m _ hp))
theorem iz (hp:PassesOwn 0x9 X.A X.env X.xe) (hc:X.calm=true) (hi:PI X tg iter wi) (hg:PG X tg g) (hb:Fp X body tb)
  (hs:∀ x,foldedSetIterable iter X.env x=pure x:=by intro _;rfl):PS X (.For tg iter body [] pos) (tFor wi g tb):=by
 intro pins s σ H D I h;refine wpAny_For (cL (hi pins s σ H _ I h) fun v s1 h1=>cL h1 fun itv s2 h2=>?_) hs;obtain ⟨it,fp,tn,J,H2,e,I2,T,st2,f2,W,⟨m0,w0⟩,turn⟩:=h2;subst e;have stat:∀ {H':Hp},(∀ b∈fp,H' b=none)->∀ b∈fp,iU X pins H' b:=fun hn b hb=>⟨hn b hb,(f2 b hb).2⟩;refine codeAny_forLoop_any (fun n s'=>∃ i σ' H',Inv X pins σ' H' s'/\tn i s'.heap/\(∀ b∈fp,H' b=none)/\W i n σ' H') ?_ m0 ⟨0,σ,H2,I2,st2,fun b hb=>(f2 b hb).1,w0⟩;rintro n s3 ⟨i,σ3,H3,I3,st3,Yc,w3⟩;rcases turn i n σ3 H3 w3 with ⟨stop,qn⟩ | ⟨go,N,hN,step⟩
 ·refine A2G hp (cL (T.done X rfl rfl rfl hc i pins s3 σ3 H3 X.xe I3 (stat Yc) st3 stop) fun r s4 zq=>?_);obtain ⟨hr,I4⟩:=zq;subst hr;exact A4m ⟨σ3,H3,I4,qn⟩
 ·refine A2G hp (cL (T.item X rfl rfl rfl hc i pins s3 σ3 H3 X.xe I3 (stat Yc) st3 go) fun r s4 zq=>?_);obtain ⟨u,hr,h4⟩:=zq;subst hr;refine A2G hp (cL h4 fun _ s5 zq=>?_);obtain ⟨x,H5,I5,r5,y5,Pq,fr5⟩:=zq;have I5':=I5.pinned (stat fr5) (T.obj _ _ Pq);refine A2G hp (cL (hg _ s5 σ3 H5 x u _ I5' r5 (step x H5 y5)) fun _ s6 zq=>?_);obtain ⟨σ6,H6,I6,q6⟩:=zq;refine A2G hp (cL (hb _ s6 σ6 H6 _ I6 q6) fun f s7 q7=>?_);have again:∀ {σ7:St}{H7:Hp},Inv X (pins++rB fp s5.heap) σ7 H7 s7->N σ7 H7->∃ m,m<n/\∃ i σ' H',Inv X pins σ' H' s7/\tn i s7.heap/\(∀ b∈fp,H' b=none)/\W i m σ' H':=fun {σ7 H7} I7 n7=>by
   obtain ⟨m',hm,w7⟩:=hN σ7 H7 n7;refine ⟨m',hm,i+1,σ7,H7,I7.lR,T.keep _ _ _ Pq fun b hb o e=>(I7.pin (b,o) (A0x _ (A0x _ (gA hb e)))).1,fun b hb=>?_,w7⟩;obtain ⟨o,e,d⟩:=T.obj _ _ Pq b hb;exact (I7.pin (b,o) (A0x _ (A0x _ (gA hb e)))).2.1
  cases f with
  | next=>obtain ⟨σ7,H7,I7,n7⟩:=q7;exact again I7 n7
  | cont=>obtain ⟨σ7,H7,I7,n7⟩:=q7;exact again I7 n7
  | brk=>obtain ⟨σ7,H7,I7,q7⟩:=q7;exact ⟨σ7,H7,I7.lR,q7⟩
  | ret v=>obtain ⟨x7,σ7,H7,I7,r7,q7⟩:=q7;exact ⟨x7,σ7,H7,I7.lR,r7,q7⟩
theorem iB {D:Ends} (Pv:Nat->St->Hp->Prop) (h0:Pv 0 σ H) (hl:∀ i σ H,i<=xs.length->Pv i σ H->bT K H a xs)
  (hs:∀ i x σ H,xs[i]?=some x->Pv i σ H->g x σ H fun σ2 H2=>tb { D with nx:=Pv (i+1),ct:=Pv (i+1),bk:=D.nx } σ2 H2) (hd:∀ σ H,Pv xs.length σ H->D.nx σ H) :
  ∃ W:Nat->Nat->St->Hp->Prop,(∃ m,W 0 m σ H)/\∀ i m σ H,W i m σ H ->
   ((Ze K a).stop i H/\D.nx σ H)\/((Ze K a).go i H/\∃ N:St->Hp->Prop,(∀ σ' H',N σ' H'->∃ m',m'<m/\W (i+1) m' σ' H')/\∀ x H',(Ze K a).J8 i H x H'->g x σ H' fun σ2 H2=>tb { D with nx:=N,ct:=N,bk:=D.nx } σ2 H2):=by
 refine ⟨fun i m σ H=>m=xs.length - i/\i<=xs.length/\Pv i σ H,⟨xs.length,by simp,A0Z _,h0⟩,?_⟩;rintro i m σ H ⟨rfl,hi,p⟩;have q:=hl i σ H hi p
 by_cases hlt:i<xs.length
 ·refine .inr ⟨⟨xs,xs[i],q,by simp [hlt]⟩,Pv (i+1),fun σ' H' p'=>⟨xs.length - (i+1),by lia,rfl,hlt,p'⟩,fun x H' y=>?_⟩;obtain ⟨e,y⟩:=y;subst e;exact hs i x σ _ (y xs q) p
 ·have e:i=xs.length:=by lia
  subst e;exact .inl ⟨⟨xs,q,A0f _⟩,hd σ H p⟩
theorem lU {lo:Int}{D:Ends} (Pv:Nat->St->Hp->Prop) (h0:Pv 0 σ H)
  (hs:∀ i σ H,i<n->Pv i σ H->g (.int (lo+i)) σ H fun σ2 H2=>tb { D with nx:=Pv (i+1),ct:=Pv (i+1),bk:=D.nx } σ2 H2) (hd:∀ σ H,Pv n σ H->D.nx σ H) :
  ∃ W:Nat->Nat->St->Hp->Prop,(∃ m,W 0 m σ H)/\∀ i m σ H,W i m σ H ->
   ((Zf lo n).stop i H/\D.nx σ H)\/((Zf lo n).go i H/\∃ N:St->Hp->Prop,(∀ σ' H',N σ' H'->∃ m',m'<m/\W (i+1) m' σ' H')/\∀ x H',(Zf lo n).J8 i H x H'->g x σ H' fun σ2 H2=>tb { D with nx:=N,ct:=N,bk:=D.nx } σ2 H2):=by
 refine ⟨fun i m σ H=>m=n - i/\i<=n/\Pv i σ H,⟨n,by simp,A0Z _,h0⟩,?_⟩;rintro i m σ H ⟨rfl,hi,p⟩
 by_cases hlt:i<n
 ·refine .inr ⟨hlt,Pv (i+1),fun σ' H' p'=>⟨n - (i+1),by lia,rfl,hlt,p'⟩,fun x H' y=>?_⟩;obtain ⟨e,y⟩:=y;subst e y;exact hs i σ _ hlt p
 ·have e:i=n:=by lia
  subst e;exact .inl ⟨A0f _,hd σ H p⟩
theorem BJ {c:TT}{D:Ends} (Pv:St->Hp->Prop) (μ:St->Hp->Nat) (h0:Pv σ H)
  (hs:∀ σ H,Pv σ H->c σ H fun b H1=>if b=true then tb { D with nx:=fun σ' H'=>Pv σ' H'/\μ σ' H'<μ σ H,ct:=fun σ' H'=>Pv σ' H'/\μ σ' H'<μ σ H,bk:=D.nx } σ H1 else D.nx σ H1)
  (mono:∀ σ H Q Q',(∀ b H1,Q b H1->Q' b H1)->c σ H Q->c σ H Q'):Pk c tb D σ H:=by
 refine ⟨fun m σ H=>m=μ σ H/\Pv σ H,⟨_,rfl,h0⟩,?_⟩;rintro m σ H ⟨rfl,p⟩;refine mono σ H _ _ (fun b H1 q=>?_) (hs σ H p);cases b with
 | true=>exact ⟨_,fun σ' H' ⟨p',l⟩=>⟨_,l,rfl,p'⟩,q⟩
 | false=>exact q
abbrev R2:=V->V->Hp->VK->Prop
def nu (X:Cx) (f:Value->Value->Sem Value) (r:R2):Prop :=
 ∀ (pins:List 0x22) (s:Shared) (σ:St) (H:Hp) (x y:V) (v u:Value) (Q:VK),Inv X pins σ H s->RelV x v->RelV y u->r x y H Q ->
  wpAny 0x9 X.A (f v u) 0x45 X.xe s
def UnR (X:Cx) (f:Value->Sem Value) (r:V->Hp->VK->Prop):Prop :=
 ∀ (pins:List 0x22) (s:Shared) (σ:St) (H:Hp) (x:V) (v:Value) (Q:VK),Inv X pins σ H s->RelV x v->r x H Q ->
  wpAny 0x9 X.A (f v) 0x45 X.xe s
def gZ (X:Cx) (f:Value) (r:List V->Hp->VK->Prop):Prop :=
 ∀ (pins:List 0x22) (s:Shared) (σ:St) (H:Hp) (xs:List V) (us:List Value) (Q:VK),Inv X pins σ H s->Vals xs us->r xs H Q ->
  wpAny 0x9 X.A (call f us) 0x45 X.xe s
def tOp (r:R2) (ta tb:TE):TE:=fun σ H Q=>ta σ H fun x H1=>tb σ H1 fun y H2=>r x y H2 Q
def tUn (r:V->Hp->VK->Prop) (ta:TE):TE:=fun σ H Q=>ta σ H fun x H1=>r x H1 Q
inductive rI (C:Int->Int->Prop) (g:Int->Int->V) (x y:V) (H:Hp) (Q:VK):Prop
 | mk (i j:Int) (_:x=.int i) (_:y=.int j) (_:C i j) (_:Q (g i j) H):rI C g x y H Q
inductive Yd (g:Int->Int->V) (x y:V) (H:Hp) (Q:VK):Prop
 | mk (i j:Int) (_:x=.int i) (_:y=.int j) (_:Q (g i j) H):Yd g x y H Q
inductive rU (g:Int->V) (x:V) (H:Hp) (Q:VK):Prop
 | mk (i:Int) (_:x=.int i) (_:Q (g i) H):rU g x H Q
section
variable {a b c:Expr}{tb tc:TE}
theorem Zg (ha:PE X a ta) (hb:PE X b tb) {R:V->V->Hp->Prop} (I:Inv X pins σ H s)
  (h:ta σ H fun x H1=>tb σ H1 fun y H2=>R x y H2) {f:Value->Value->Sem Value}
  (hf:∀ v u s2 x y H2,Inv X pins σ H2 s2->RelV x v->RelV y u->R x y H2->wpAny 0x9 X.A (f v u) Q X.xe s2) :
  wpAny 0x9 X.A (eval a X.env) (fun v s₁=>wpAny 0x9 X.A (eval b X.env) (fun u s₂=>wpAny 0x9 X.A (f v u) Q X.xe s₂) X.xe s₁) X.xe s:=by
 refine cL 0x4E fun v s1 zq=>?_;obtain ⟨x,H1,I1,r1,q1⟩:=zq;refine cL (hb pins s1 σ H1 _ I1 q1) fun u s2 zq=>?_;obtain ⟨y,H2,I2,r2,q2⟩:=zq;exact hf v u s2 x y H2 I2 r1 r2 q2
theorem aR {op:Operator}{r:R2} (ho:nu X (binaryOp op) r) (ha:PE X a ta) (hb:PE X b tb):PE X (.BinOp a op b pos) (tOp r ta tb):=by
 intro pins s σ H Q I h;exact wpAny_BinOp (Zg ha hb I h fun v u s2 x y H2 I2 rx ry q=>ho pins s2 σ H2 x y v u Q I2 rx ry q)
theorem wM {op:UnaryOp}{r:V->Hp->VK->Prop} (ho:UnR X (unaryOp op) r) (ha:PE X a ta):PE X (.UnaryOp op a pos) (tUn r ta):=by
 intro pins s σ H Q I h;exact UnaryOp_ (cL 0x4E fun v s1 ⟨x,H1,I1,r1,q1⟩=>ho pins s1 σ H1 x v Q I1 r1 q1)
theorem opI {f:Value->Value->Sem Value}{C:Int->Int->Prop}{g:Int->Int->Int}
  (rule:∀ (i j:Int) (t u:Tok) (s:Shared) (Q:Value->Shared->Prop) (E:Value->Shared->Prop),C i j->Q (.int (g i j) s.toks) { s with toks:=s.toks+1 }->wpAny 0x9 X.A (f (.int i t) (.int j u)) Q E s) :
  nu X f (rI C fun i j=>.int (g i j)):=by
 intro pins s σ H x y v u Q I rx ry h;obtain ⟨i,j,rfl,rfl,hc,q⟩:=h;obtain ⟨t,rfl⟩:=rx;obtain ⟨t',rfl⟩:=ry;exact rule i j t t' s _ _ hc ⟨.int (g i j),H,I.tok _,⟨_,rfl⟩,q⟩
theorem opI0 {f:Value->Value->Sem Value}{g:Int->Int->Int}
  (rule:∀ (i j:Int) (t u:Tok) (s:Shared) (Q:Value->Shared->Prop) (E:Value->Shared->Prop),Q (.int (g i j) s.toks) { s with toks:=s.toks+1 }->wpAny 0x9 X.A (f (.int i t) (.int j u)) Q E s) :
  nu X f (Yd fun i j=>.int (g i j)):=by
 intro pins s σ H x y v u Q I rx ry h;obtain ⟨i,j,rfl,rfl,q⟩:=h;obtain ⟨t,rfl⟩:=rx;obtain ⟨t',rfl⟩:=ry;exact rule i j t t' s _ _ ⟨.int (g i j),H,I.tok _,⟨_,rfl⟩,q⟩
theorem Zh {f:Value->Value->Sem Value}{g:Int->Int->Bool}
  (rule:∀ (i j:Int) (t u:Tok) (s:Shared) (Q:Value->Shared->Prop) (E:Value->Shared->Prop),Q (.bool (g i j)) s->wpAny 0x9 X.A (f (.int i t) (.int j u)) Q E s) :
  nu X f (Yd fun i j=>.bl (g i j)):=by
 intro pins s σ H x y v u Q I rx ry h;obtain ⟨i,j,rfl,rfl,q⟩:=h;obtain ⟨t,rfl⟩:=rx;obtain ⟨t',rfl⟩:=ry;exact rule i j t t' s _ _ ⟨.bl (g i j),H,I,rfl,q⟩
def CDiv (i j:Int):Prop:=0<j/\j<1073741824
def CPow (i j:Int):Prop:=0<=j/\j<=1000000/\i.natAbs<2 ^ 64
def Zi (i j:Int):Prop:=(-(2 ^ 64)<i/\i<2 ^ 64)\/(-(2 ^ 64)<j/\j<2 ^ 64)
theorem Zi.ok {i j:Int} (h:Zi i j):IntMulOk i j:=by
 rcases h with ⟨h1,h2⟩ | ⟨h1,h2⟩
 ·exact .of_left (intBits_le_64 h1 h2)
 ·exact .of_right (intBits_le_64 h1 h2)
theorem dH:nu X (binaryOp .Add) (Yd fun i j=>.int (i+j)):=opI0 fun _ _ _ _ _ _ _ q=>add_int q
theorem pB:nu X (binaryOp .Sub) (Yd fun i j=>.int (i - j)):=opI0 fun _ _ _ _ _ _ _ q=>sub_int q
theorem lA:nu X (binaryOp .Mult) (rI Zi fun i j=>.int (i * j)):=opI fun _ _ _ _ _ _ _ hc q=>mul_int q hc.ok
theorem jB:nu X (binaryOp .FloorDiv) (rI CDiv fun i j=>.int (i / j)):=opI fun i j _ _ _ _ _ hc q=>by
 have h1:(0:Int)<j:=hc.1;have h2:j<1073741824:=hc.2;exact floordiv_int 0x2 (by rw [Int.fdiv_eq_ediv_of_nonneg i 0x2];exact q) (.inl (PyProof.noPylong_small 0x2))
theorem bY:nu X (binaryOp .Mod) (rI (fun _ j=>0<j) fun i j=>.int (i % j)):=opI fun i j _ _ _ _ _ hc q=>by
 have h1:(0:Int)<j:=hc;exact mod_int' 0x2 (by rw [Int.fmod_eq_emod_of_nonneg i 0x2];exact q)
theorem Zj:nu X (binaryOp .Pow) (rI CPow fun i j=>.int (i ^ j.toNat)):=opI fun _ _ _ _ _ _ _ hc q=>pow_int_small hc.1 hc.2.1 hc.2.2 q
theorem unI {f:Value->Sem Value}{g:Int->Int}
  (rule:∀ (i:Int) (t:Tok) (s:Shared) (Q:Value->Shared->Prop) (E:Value->Shared->Prop),Q (.int (g i) s.toks) { s with toks:=s.toks+1 }->wpAny 0x9 X.A (f (.int i t)) Q E s) :
  UnR X f (rU fun i=>.int (g i)):=by
 intro pins s σ H x v Q I rx h;obtain ⟨i,rfl,q⟩:=h;obtain ⟨t,rfl⟩:=rx;exact rule i t s _ _ ⟨.int (g i),H,I.tok _,⟨_,rfl⟩,q⟩
theorem rC:UnR X (unaryOp .USub) (rU fun i=>.int (-i)):=unI fun _ _ _ _ _ q=>neg_int q
def Pr:V->V->Bool
 | .non,.non=>true | .non,.int _=>true | .int _,.non=>true | .non,.bl _=>true | .bl _,.non=>true | .non,.str _=>true | .str _,.non=>true
 | .int _,.int _=>true | .bl _,.bl _=>true | .str _,.str _=>true | .J4 _,.J4 _=>true
 | .int _,.str _=>true | .str _,.int _=>true | .bl _,.str _=>true | .str _,.bl _=>true
 | _,_=>false
def rEq:R2:=fun x y H Q=>Pr x y=true/\Q (.bl (decide (x=y))) H
def rNe:R2:=fun x y H Q=>Pr x y=true/\Q (.bl (!decide (x=y))) H
theorem tK {i j:Int}:decide (V.int i=V.int j)=(i==j):=by
 rw [A1i];simp
theorem Px {i j:Bool}:decide (V.bl i=V.bl j)=(i==j):=by
 rw [A1i];simp
theorem jc {i j:Str}:decide (V.str i=V.str j)=(i==j):=by
 rw [A1i];simp
theorem Jc {i j:Array UInt8}:decide (V.J4 i=V.J4 j)=(i.toList==j.toList):=by
 rw [A1i];cases i;cases j;simp
theorem cF {Q:VK}{k k':Bool} (I:Inv X pins σ H s) (q:Q (.bl k) H) (e:k=k'):EP X pins σ Q (.bool k') s:=by
 subst e;exact ⟨.bl k,H,I,rfl,q⟩
theorem dO:nu X (compareOp .Eq) rEq:=by
 intro pins s σ H x y v u Q I rx ry h;obtain ⟨hs,q⟩:=h;cases x with
 | non =>
  cases rx;cases y with
  | non=>cases ry;exact PySem.EqNone.eq_none_none 0x59
  | bl j=>cases ry;exact PySem.EqNone.eq_none_bool 0x59
  | int j=>obtain ⟨t',rfl⟩:=ry;exact PySem.EqNone.eq_none_int 0x59
  | str j=>obtain ⟨t',rfl⟩:=ry;exact PySem.EqNone.eq_none_str 0x59
  | _=>exact absurd 0x34 A0o
 | bl i =>
  cases rx;cases y with
  | non=>cases ry;exact PySem.EqNone.eq_bool_none 0x59
  | bl j=>cases ry;exact eq_bool (cF I q Px)
  | str j=>obtain ⟨t',rfl⟩:=ry;exact PySem.EqMixed.eq_bool_str 0x59
  | _=>exact absurd 0x34 A0o
 | int i =>
  obtain ⟨t,rfl⟩:=rx;cases y with
  | non=>cases ry;exact PySem.EqNone.eq_int_none 0x59
  | int j=>obtain ⟨t',rfl⟩:=ry;exact eq_int (cF I q tK)
  | str j=>obtain ⟨t',rfl⟩:=ry;exact PySem.EqMixed.eq_int_str 0x59
  | _=>exact absurd 0x34 A0o
 | str i =>
  obtain ⟨t,rfl⟩:=rx;cases y with
  | non=>cases ry;exact PySem.EqNone.eq_str_none 0x59
  | bl j=>cases ry;exact PySem.EqMixed.eq_str_bool 0x59
  | int j=>obtain ⟨t',rfl⟩:=ry;exact PySem.EqMixed.eq_str_int 0x59
  | str j=>obtain ⟨t',rfl⟩:=ry;exact eq_str (cF I q jc)
  | _=>exact absurd 0x34 A0o
 | J4 i =>
  obtain ⟨t,rfl⟩:=rx;cases y with
  | J4 j=>obtain ⟨t',rfl⟩:=ry;exact PySem.W.eq_bytes (cF I q Jc)
  | _=>exact absurd 0x34 A0o
 | _=>cases y <;> exact absurd 0x34 A0o
theorem oV:nu X (compareOp .NotEq) rNe:=by
 intro pins s σ H x y v u Q I rx ry h;obtain ⟨hs,q⟩:=h;cases x with
 | non =>
  cases rx;cases y with
  | non=>cases ry;exact PySem.EqNone.ne_none_none 0x59
  | bl j=>cases ry;exact PySem.EqNone.ne_none_bool 0x59
  | int j=>obtain ⟨t',rfl⟩:=ry;exact PySem.EqNone.ne_none_int 0x59
  | str j=>obtain ⟨t',rfl⟩:=ry;exact PySem.EqNone.ne_none_str 0x59
  | _=>exact absurd 0x34 A0o
 | bl i =>
  cases rx;cases y with
  | non=>cases ry;exact PySem.EqNone.ne_bool_none 0x59
  | bl j=>cases ry;exact ne_bool (cF I q (A1v not Px))
  | str j=>obtain ⟨t',rfl⟩:=ry;exact PySem.EqMixed.ne_bool_str 0x59
  | _=>exact absurd 0x34 A0o
 | int i =>
  obtain ⟨t,rfl⟩:=rx;cases y with
  | non=>cases ry;exact PySem.EqNone.ne_int_none 0x59
  | int j=>obtain ⟨t',rfl⟩:=ry;exact ne_int (cF I q (A1v not tK))
  | str j=>obtain ⟨t',rfl⟩:=ry;exact PySem.EqMixed.ne_int_str 0x59
  | _=>exact absurd 0x34 A0o
 | str i =>
  obtain ⟨t,rfl⟩:=rx;cases y with
  | non=>cases ry;exact PySem.EqNone.ne_str_none 0x59
  | bl j=>cases ry;exact PySem.EqMixed.ne_str_bool 0x59
  | int j=>obtain ⟨t',rfl⟩:=ry;exact PySem.EqMixed.ne_str_int 0x59
  | str j=>obtain ⟨t',rfl⟩:=ry;exact ne_str (cF I q (A1v not jc))
  | _=>exact absurd 0x34 A0o
 | J4 i =>
  obtain ⟨t,rfl⟩:=rx;cases y with
  | J4 j=>obtain ⟨t',rfl⟩:=ry;exact PySem.W.ne_bytes (cF I q (A1v not Jc))
  | _=>exact absurd 0x34 A0o
 | _=>cases y <;> exact absurd 0x34 A0o
theorem pR:nu X (compareOp .Lt) (Yd fun i j=>.bl (decide (i<j))):=Zh fun _ _ _ _ _ _ _ q=>lt_int q
theorem BK:nu X (compareOp .LtE) (Yd fun i j=>.bl (decide (i<=j))):=Zh fun _ _ _ _ _ _ _ q=>le_int q
theorem Pz:nu X (compareOp .Gt) (Yd fun i j=>.bl (decide (j<i))):=Zh fun _ _ _ _ _ _ _ q=>gt_int q
theorem Vw:nu X (compareOp .IsNot) (fun x y H Q=>y=.non/\Q (.bl (!decide (x=.non))) H):=by
 intro pins s σ H x y v u Q I rx ry h;obtain ⟨rfl,q⟩:=h;cases ry;refine isnot_none_gen (cF I q ?_);cases x <;> first
  | (cases rx;rfl)
  | (obtain ⟨t,rfl⟩:=rx;rfl)
theorem bH (b:Expr)  (h:op≠.In:=by decide) (h2:op≠.NotIn:=by decide):behindInMarks op b=false:=by
 have e1:(op==CmpOp.In)=false:=by cases op <;> first | rfl | exact absurd rfl h
 have e2:(op==CmpOp.NotIn)=false:=by cases op <;> first | rfl | exact absurd rfl h2
 cases b <;> simp [behindInMarks,e1,e2]
theorem jd {r:R2} (ho:nu X (compareOp op) r) (ha:PE X a ta) (hb:PE X b tb) (hm:behindInMarks op b=false):PE X (.Compare a [op] [b] pos) (tOp r ta tb):=by
 intro pins s σ H Q I h;exact wpAny_Compare1 (Zg ha hb I h fun v u s2 x y H2 I2 rx ry q=>ho pins s2 σ H2 x y v u Q I2 rx ry q) hm
inductive Je (Q:Bool->Hp->Prop) (x:V) (H':Hp):Prop
 | mk (k:Bool) (_:x=.bl k) (_:Q k H'):Je Q x H'
def a1w (t:TE):TT:=fun σ H Q=>t σ H fun x H'=>Je Q x H'
theorem aV {r:R2} (ho:nu X (compareOp op) r) (ha:PE X a ta) (hb:PE X b tb) (hm:behindInMarks op b=false):PT X (.Compare a [op] [b] pos) (a1w (tOp r ta tb)):=by
 intro pins s σ H Q I h;refine wpAny_isTrue_Compare1 (cL 0x4E fun v s1 ⟨x,H1,I1,r1,q1⟩=>cL (hb pins s1 σ H1 _ I1 q1) fun u s2 ⟨y,H2,I2,r2,q2⟩ =>
  cL (ho pins s2 σ H2 x y v u _ I2 r1 r2 q2) fun c s3 ⟨z,H3,I3,r3,k,e,q3⟩=>?_) hm
 subst e;cases r3;exact A2m ⟨H3,I3,q3⟩
inductive BP (r':R2) (tc:TE) (σ:L2.St) (Q:VK) (y z:V) (H3:Hp):Prop
 | mk (k:Bool) (_:z=.bl k) (_:(if k=true then tc σ H3 fun w' H4=>r' y w' H4 Q else Q (.bl false) H3)):BP r' tc σ Q y z H3
def Zk (r r':R2) (ta tb tc:TE):TE:=fun σ H Q=>ta σ H fun x H1=>tb σ H1 fun y H2=>r x y H2 fun z H3=>BP r' tc σ Q y z H3
theorem BZ {op':CmpOp}{r r':R2} (ho:nu X (compareOp op) r) (ho':nu X (compareOp op') r') (ha:PE X a ta) (hb:PE X b tb) (hc:PE X c tc)
  (hm:lastMarks [op,op'] [b,c]=false:=by with_unfolding_all rfl):PE X (.Compare a [op,op'] [b,c] pos) (Zk r r' ta tb tc):=by
 intro pins s σ H Q I h;refine Compare_chain (cL 0x4E fun v s1 ⟨x,H1,I1,r1,q1⟩=>chain_link (cL (hb pins s1 σ H1 _ I1 q1) fun u s2 ⟨y,H2,I2,r2,q2⟩ =>
  cL (ho pins s2 σ H2 x y v u _ I2 r1 r2 q2) fun d s3 ⟨z,H3,I3,r3,k,e,q3⟩=>?_)) hm
 subst e;cases r3;refine A2m ?_;cases k with
 | false=>exact ite_ff ⟨.bl false,H3,I3,rfl,q3⟩
 | true=>exact ite_tt (chain_last (cL (hc pins s3 σ H3 _ I3 q3) fun w' s4 ⟨z',H4,I4,r4,q4⟩=>ho' pins s4 σ H4 y z' u w' Q I4 r2 r4 q4))
theorem uH:(sizeLine:Nat)<2 ^ 63:=by rw [A1e];decide
theorem uI:nu X (binaryOp .Add) (fun x y H Q=>∃ i j,x=.str i/\y=.str j/\i.length+j.length<=sizeLine/\Q (.str (i++j)) H):=by
 intro pins s σ H x y v u Q I rx ry h;obtain ⟨i,j,rfl,rfl,hz,q⟩:=h;obtain ⟨t,rfl⟩:=rx;obtain ⟨t',rfl⟩:=ry;exact add_str (fun t' tk=>⟨.str (i++j),H,I.tok _,⟨_,rfl⟩,q⟩) hz
theorem vals1 {x:V} (r:Vals [x] us):∃ u,us=[u]/\RelV x u:=by
 cases r with
 | cons r1 r2=>cases r2;exact ⟨_,rfl,r1⟩
theorem vals2 {x:V} (r:Vals [x,y] us):∃ u w',us=[u,w']/\RelV x u/\RelV y w':=by
 cases r with
 | cons r1 r2 =>
  cases r2 with
  | cons r3 r4=>cases r4;exact ⟨_,_,rfl,r1,r3⟩
theorem pU:gZ X (.builtin "abs") (fun xs H Q=>∃ i,xs=[.int i]/\Q (.int (if i<0 then -i else i)) H):=by
 intro pins s σ H xs us Q I r h;obtain ⟨i,rfl,q⟩:=h;obtain ⟨u,rfl,t,rfl⟩:=vals1 r;exact call_abs_int fun u tk=>⟨.int (if i<0 then -i else i),H,I.tok _,⟨_,rfl⟩,q⟩
theorem wO (hc:X.calm=true):gZ X (.builtin "max") (fun xs H Q=>∃ i j,xs=[.int i,.int j]/\Q (.int (if j > i then j else i)) H):=by
 intro pins s σ H xs us Q I r h;obtain ⟨i,j,rfl,q⟩:=h;obtain ⟨u,w',rfl,⟨t,rfl⟩,⟨t',rfl⟩⟩:=vals2 r;refine max_two_ints (I.ok.hd hc) fun h' tk k=>⟨_,H,I.kept k,?_,q⟩
 by_cases hj:j > i
 ·rw [A0i hj,A0i hj];exact ⟨_,rfl⟩
 ·rw [A0e hj,A0e hj];exact ⟨_,rfl⟩
theorem wQ (hc:X.calm=true):gZ X (.builtin "min") (fun xs H Q=>∃ i j,xs=[.int i,.int j]/\Q (.int (if j<i then j else i)) H):=by
 intro pins s σ H xs us Q I r h;obtain ⟨i,j,rfl,q⟩:=h;obtain ⟨u,w',rfl,⟨t,rfl⟩,⟨t',rfl⟩⟩:=vals2 r;refine min_two_ints (I.ok.hd hc) fun h' tk k=>⟨_,H,I.kept k,?_,q⟩
 by_cases hj:j<i
 ·rw [A0i hj,A0i hj];exact ⟨_,rfl⟩
 ·rw [A0e hj,A0e hj];exact ⟨_,rfl⟩
end
structure Fx (h:Heap) (x dx C:Addr) (mA:Str->Option Value):Prop where
 obj:h.get? x=some (PySem.W.instObj C dx)
 ns:h.Ns1 dx mA
 ne:dx≠x
theorem Mg (n:h.Ns1 dx mA):∃ od,h.get? dx=some od/\∀ name,PySem.W.lookIn name od=some (mA name):=by
 obtain ⟨o,es,ep,ho,hd,hk,_,hm⟩:=n;refine ⟨o,ho,fun name=>?_⟩;have e:=hm name;unfold nsFind findBy at e;rw [<- Array.find?_toList] at e;unfold PySem.W.lookIn;rw [hd];dsimp only
 split
 ·rename_i y q
  rw [q] at e;exact A1v some e
 ·rename_i q
  rw [q] at e;have a:es.toList.any (·.refKey)=false:=by
   rw [A3R];intro y hy;obtain ⟨z,t,hkey⟩:=hk y (Array.mem_toList_iff.mp hy);simp [DictEntry.refKey,hkey]
  have a':¬ es.toList.any (·.refKey)=true:=by rw [a];exact A0o
  rw [A0e a'];exact A1v some e
theorem Fx.look {x:Addr} (I:Fx h x dx C mA):∃ od,PySem.W.InstAt h x (PySem.W.instObj C dx) C (some od)/\∀ name,PySem.W.lookIn name od=some (mA name) :=
 let ⟨od,ho,hl⟩:=Mg I.ns
 ⟨od,⟨I.obj,rfl,rfl,ho⟩,hl⟩
section
variable {x:Addr}{v:Value}
theorem get_map {expr:Bool} (X:K.In s.heap) (I:Fx s.heap x dx C mA) (hg:PySem.W.plainGet K C name=true) (hh:PySem.W.hasDictIn K C=true)
  (ha:PySem.W.findIn K (.ref C) name=some none) (hv:mA name=some v) (hv':PySem.W.handedIn v=true) (h:Q v { s with toks:=s.toks+1 }) :
  wpAny 0xC A (getAttr (.ref x) name expr) Q E s:=by
 obtain ⟨od,J,hl⟩:=I.look;exact PySem.W.get_value X J (A4u hg).1 (PySem.W.findObj_own hh ha rfl (by rw [hl,hv])) hv' h
theorem PB {Q:Value×List Value->Shared->Prop} (X:K.In s.heap) (I:Fx s.heap x dx C mA) (hg:PySem.W.plainGet K C name=true)
  (hf:PySem.W.findIn K (.ref C) name=some (some (.ref f))) (ht:PySem.W.isFn K (.ref f)=true) (hv:mA name=none) (h:Q (.ref f,[.ref x]) s) :
  wpAny 0xC A (getMethod (.ref x) name pl) Q E s:=by
 obtain ⟨od,J,hl⟩:=I.look;exact PySem.W.method_fn X J (A4u hg).1 (A4u hg).2 hf (A3L.mp ht) (by show (PySem.W.lookIn name od).map (·.isSome)=some false;rw [hl,hv];rfl) h
theorem Vx {ns:List Str}{Q:Unit->Shared->Prop} (X:K.In s.heap) (I:Fx s.heap x dx C mA)
  (hs:PySem.W.findIn K (.ref C) "__setattr__"=some (some (.builtin "object.__setattr__"))) (hp:PySem.W.plainOver K C=true) (ht:PySem.W.takerIn K C name=some none) (hh:PySem.W.hasDictIn K C=true)
  (hw:PySem.Within mA ns) (hsz:ns.length<=sizeLine)
  (h:∀ h',Fx h' x dx C (fun y=>if y=name then some v else mA y)->Heap.SameBut dx s.heap h'->Q () { s with heap:=h',toks:=s.toks+2 }) :
  wpAny 0xC A (setAttr (.ref x) name v) Q E s:=by
 obtain ⟨od,J,hl⟩:=I.look;refine PySem.W.set_plain X J hs (PySem.W.osa_open (s:={ s with toks:=s.toks+1 }) (r:=none) X J hp ht fun b=>?_);obtain ⟨cd,hc,hd'⟩:=PySem.W.any_some hh;have hx:s.heap.get? x=some ⟨.ref C,some dx,.plain,#[]⟩:=I.obj;refine A0a (A0d (A0a (A0a (wpAny_loadPart hx (A0a (PySem.W.Looks.here (s:={ s with toks:=s.toks+1 }) (PySem.W.looks_clsIn X hc) ?_))))));rw [hd'];refine A0d (a:=some dx) (A0a (A0d (A0a ?_)));refine wpAny_nsSet1 (s:={ s with toks:=s.toks+1 }) I.ns fun h' hn2 hs2=>?_;obtain ⟨oD,esD,epD,hoD,hdD,hcD⟩:=hn2.count (PySem.Within.cons name v hw);refine A0a (wpAny_lookBehind hoD (by rw [hdD];exact pastItsLine_dict (A0M hcD (by rw [pN];lia))) ?_);exact A0d (h _ ⟨(hs2.2 _ (A0k I.ne)).trans I.obj,hn2,I.ne⟩ hs2)
theorem PJ {R:Result->Shared->Prop}{vs:List Value} (X:K.In s.heap) (hm:PySem.W.makesIn K C=true)
  (hi:PySem.W.findIn K (.ref C) "__init__"=some (some (.ref f))) (hf:PySem.W.typeIn K (.ref f)=some (.type "function"))
  (h:codeAny 0xC (A.under (.builtin "type.__call__" ⟨.ref C::vs,kw⟩)) (.call (.ref f) ⟨.ref 0x12::vs,kw⟩) (PySem.W.InitBack 0x12 R)
   { s with heap:=(s.heap.push PySem.W.emptyDict).push (PySem.W.instObj C s.heap.objs.size) }) :
  codeAny 0xC A (.call (.ref C) ⟨vs,kw⟩) R s:=by
 obtain ⟨hh,g,d,t,os⟩:=s;exact PySem.W.make_core (PySem.W.makes_of X hm) (PySem.W.looks_findIn X hi) (fun self=>PySem.W.bind_fn X self hf) (.inl rfl) h
end
def nA (f:Str) (v:V):List (Str×V)->List (Str×V)
 | []=>[(f,v)]
 | (g,x)::r=>if g=f then (g,v)::r else (g,x)::nA f v r
theorem sU (f g:Str) (v:V):∀ fs:List (Str×V),(nA f v fs).lookup g=if g=f then some v else fs.lookup g
 | []=>by
  show List.lookup g [(f,v)]=_
  by_cases h:g=f
  ·have hb:(g==f)=true:=A3L.mpr h;simp only [List.lookup,hb,A0i h]
  ·have hb:(g==f)=false:=A1H.mpr h;simp only [List.lookup,hb,A0e h]
 | (k,x)::r=>by
  have ih:=sU f g v r;rw [show nA f v ((k,x)::r)=(if k=f then (k,v)::r else (k,x)::nA f v r) from rfl]
  by_cases hk:k=f
  ·rw [A0i hk]
   by_cases h:g=k
   ·have hb:(g==k)=true:=A3L.mpr h;simp only [List.lookup,hb,A0i (h.trans hk)]
   ·have hb:(g==k)=false:=A1H.mpr h;simp only [List.lookup,hb,A0e (fun e:g=f=>h (e.trans hk.symm))]
  ·rw [A0e hk]
   by_cases h:g=k
   ·have hb:(g==k)=true:=A3L.mpr h;simp only [List.lookup,hb,A0e (fun e:g=f=>hk (h.symm.trans e))]
   ·have hb:(g==k)=false:=A1H.mpr h;simp only [List.lookup,hb];exact ih
theorem rD (f:Str) (v:V):∀ fs:List (Str×V),f∈(nA f v fs).map (·.1)/\∀ g,g∈fs.map (·.1)->g∈(nA f v fs).map (·.1)
 | []=>⟨by simp [nA],fun g h=>by simp at h⟩
 | (k,x)::r=>by
  obtain ⟨i1,i2⟩:=rD f v r;rw [show nA f v ((k,x)::r)=(if k=f then (k,v)::r else (k,x)::nA f v r) from rfl]
  by_cases hk:k=f
  ·rw [A0i hk];subst hk;exact ⟨by simp,fun g h=>by simpa using h⟩
  ·rw [A0e hk];refine ⟨?_,fun g h=>?_⟩
   ·rw [A0g];exact jh _ i1
   ·rw [A0g] at h ⊢;rcases List.mem_cons.mp h with e | e
    ·exact List.mem_cons.mpr (.inl e)
    ·exact jh _ (i2 g e)
theorem sV (f:Str) (v:V):∀ fs:List (Str×V),(nA f v fs).length<=fs.length+1
 | []=>by simp [nA]
 | (k,x)::r=>by
  have ih:=sV f v r;rw [show nA f v ((k,x)::r)=(if k=f then (k,v)::r else (k,x)::nA f v r) from rfl]
  by_cases hk:k=f
  ·rw [A0i hk,pN,pN];lia
  ·rw [A0e hk,pN,pN];lia
theorem jA.some_of {o:Option Value} (r:jA (some v) o):∃ u,o=some u/\RelV v u:=by
 cases o with
 | none=>exact (show False from r).elim
 | some u=>exact ⟨u,rfl,r⟩
theorem jA.none_of {o:Option Value} (r:jA none o):o=none:=by
 cases o with
 | none=>rfl
 | some u=>exact (show False from r).elim
theorem Mh (r:RelV v u):PySem.W.handedIn u=true:=by
 cases v with
 | non=>cases (show u=Value.none from r);rfl
 | bl b=>cases (show u=Value.bool b from r);rfl
 | int i=>obtain ⟨t,e⟩:=(show ∃ t,u=Value.int i t from r);cases e;rfl
 | str x=>obtain ⟨t,e⟩:=(show ∃ t,u=Value.str x t from r);cases e;rfl
 | J4 b=>obtain ⟨t,e⟩:=(show ∃ t,u=Value.bytes b t from r);cases e;rfl
 | flt b=>obtain ⟨t,e⟩:=(show ∃ t,u=Value.float b t from r);cases e;rfl
 | ref a=>cases (show u=Value.ref a from r);rfl
 | ty n=>cases (show u=Value.type n from r);rfl
section
variable {fs:List (Str×V)}
theorem tL (hok:nZ P w H h) (e:H a=some (.ins C dx fs)):∃ mA,Fx h a dx C mA/\(∀ f,jA (fs.lookup f) (mA f))/\PySem.Within mA (fs.map (·.1))/\fs.length<=1000/\H dx=some (.own a):=by
 obtain ⟨d,z,ne,ob,mA,n,r,q⟩:=(show cM P w H h a (.ins C dx fs) from hok a _ e)
 exact ⟨mA,⟨ob,n,ne⟩,r,q,z,d⟩
end
structure Cls (K:PySem.W.Frag) (C:Addr):Prop where
 pg:PySem.W.plainGet K C Str.empty=true
 hd:PySem.W.hasDictIn K C=true
 po:PySem.W.plainOver K C=true
 sa:PySem.W.findIn K (.ref C) "__setattr__"=some (some (.builtin "object.__setattr__"))
theorem Cls.get (c:Cls K C) (f:Str):PySem.W.plainGet K C f=true:=c.pg
def dW (K:PySem.W.Frag) (C:Addr) (f:Str):Prop:=PySem.W.findIn K (.ref C) f=some none
theorem dW.taker {f:Str} (n:dW K C f):PySem.W.takerIn K C f=some none:=by
 unfold PySem.W.takerIn;rw [show PySem.W.findIn K (.ref C) f=some none from n]
 rfl
structure Con (K:PySem.W.Frag) (C:Addr) (f:Str) (v:V) (u:Value):Prop where
 at_:PySem.W.findIn K (.ref C) f=some (some u)
 rel:RelV v u
 get:PySem.W.specialIn K u "__get__"=some none
 cp:PySem.W.copiedNames.contains f=false
structure Meth (K:PySem.W.Frag) (C:Addr) (m:Str) (f:Addr):Prop where
 at_:PySem.W.findIn K (.ref C) m=some (some (.ref f))
 fn:PySem.W.isFn K (.ref f)=true
 kp:PySem.W.keepIn K (.ref f)=true
section
variable {fs:List (Str×V)}{f:Str}
theorem Fy {b:Bool} (I:Inv X pins σ H s) (e:H a=some (.ins C dx fs)) (c:Cls X.K C) (n:dW X.K C f) (l:fs.lookup f=some v)
  (h:∀ u s',Inv X pins σ H s'->RelV v u->Q u s'):wpAny 0x9 A (getAttr (.ref a) f b) Q E s:=by
 obtain ⟨mA,O,r,_,_,_⟩:=tL I.hok e;obtain ⟨u,hu,ru⟩:=jA.some_of (v:=v) (o:=mA f) (by rw [<- l];exact r f);exact get_map I.oU O (c.get f) c.hd n hu (Mh ru) (h u _ (I.tok _) ru)
theorem uJ {m:Str}{g:Addr}{Q:Value×List Value->Shared->Prop} (I:Inv X pins σ H s) (e:H a=some (.ins C dx fs)) (c:Cls X.K C) (k:Meth X.K C m g) (l:fs.lookup m=none)
  (h:Q (.ref g,[.ref a]) s):wpAny 0x9 A (getMethod (.ref a) m pl) Q E s:=by
 obtain ⟨mA,O,r,_,_,_⟩:=tL I.hok e;have hn:mA m=none:=jA.none_of (by rw [<- l];exact r m);exact PB I.oU O (c.get m) k.at_ k.fn hn h
theorem Fz {Q:Unit->Shared->Prop} (I:Inv X pins σ H s) (e:H a=some (.ins C dx fs)) (c:Cls X.K C) (n:dW X.K C f) (hl:fs.length<1000) (ry:RelV y u)
  (h:∀ s',Inv X pins σ (upd H a (.ins C dx (nA f y fs))) s'->Q () s'):wpAny 0x9 A (setAttr (.ref a) f u) Q E s:=by
 obtain ⟨mA,O,r,wi,_,ho⟩:=tL I.hok e;have hz:(fs.map (·.1)).length<=sizeLine:=by rw [cg,A1e];lia
 refine Vx I.oU O c.sa c.po n.taker c.hd wi hz fun h' O' sb=>h _ ?_;have hd:∃ o,h'.get? dx=some o:=let ⟨o,_,_,e',_⟩:=O'.ns;⟨o,e'⟩
 refine I.write (x:=a) (e:=dx) 0x56 (.inr ho) (fun b q hb z=>(sb.2 b hb).trans z) hd ?_;refine ⟨by rw [ak O.ne];exact ho,?_,O.ne,O'.obj,_,O'.ns,fun g=>?_,fun g hg=>?_⟩
 ·have:=sV f y fs;lia
 ·show jA ((nA f y fs).lookup g) (if g=f then some u else mA g)
  rw [sU]
  by_cases q:g=f
  ·rw [A0i q,A0i q];exact ry
  ·rw [A0e q,A0e q];exact r g
 ·by_cases q:g=f
  ·rw [q];exact (rD f y fs).1
  ·refine (rD f y fs).2 g (wi g fun z=>hg ?_)
   show (if g=f then some u else mA g)=none
   rw [A0e q];exact z
theorem Inv.made (I:Inv X pins σ H s):Inv X pins σ (upd (upd H s.heap.objs.size (.own 0x12)) 0x12 (.ins C s.heap.objs.size []))
  { s with heap:=(s.heap.push PySem.W.emptyDict).push (PySem.W.instObj C s.heap.objs.size) }:=by
 have e1:(s.heap.push PySem.W.emptyDict).get? s.heap.objs.size=some PySem.W.emptyDict:=A0n s.heap rfl;have e2:((s.heap.push PySem.W.emptyDict).push (PySem.W.instObj C s.heap.objs.size)).get? 0x12=some (PySem.W.instObj C s.heap.objs.size):=by
  have:=A0n (s.heap.push PySem.W.emptyDict) (o:=PySem.W.instObj C s.heap.objs.size) rfl
  rwa [A1R] at this
 have e3:(s.heap.push PySem.W.emptyDict).Ns s.heap.objs.size (fun _=>none):=⟨PySem.W.emptyDict,#[],_,e1,rfl,(fun e he=>absurd he 0xA),fun _=>rfl⟩;have I1:=I.laid (a:=s.heap.objs.size) (o:=.own 0x12) (h':=s.heap.push PySem.W.emptyDict) (t':=s.toks) (fun b u q=>A0b _ q) (A0f _) ⟨_,e1⟩;refine I1.laid (a:=s.heap.objs.size+1) (o:=.ins C s.heap.objs.size []) (t':=s.toks) (fun b u q=>A0b _ q) (Nat.le_of_eq (A1R _ _)) ?_;have ne:s.heap.objs.size≠s.heap.objs.size+1:=A0y (A2U _);refine ⟨by rw [ak ne,ao],A0Z _,ne,e2,fun _=>none,(Heap.Ns1.of_empty e3).at fun o q=>A0b _ q,fun _=>True.intro,fun y hy=>absurd rfl hy⟩
theorem Vy {f:Str} (hb:attributeBase e f env (eval e env)=eval e env)
  (h:wpAny 0xC A (eval e env) (fun o s₁=>wpAny 0xC A (getAttr o f true) Q E s₁) E s):wpAny 0xC A (eval (.Attribute e f pos) env) Q E s :=
 Attribute_any_ h (by rw [arm_eval_Attribute,hb])
end
inductive PL (K:W.Frag) (f:Str) (Q:VK) (x:V) (H1:Hp):Prop
 | mk (a C dx:Addr) (fs:List (Prod Str V)) (v:V) (_:x=.ref a) (_:H1 a=some (.ins C dx fs)) (_:Cls K C) (_:dW K C f) (_:fs.lookup f=some v) (_:Q v H1):PL K f Q x H1
def tFld (K:PySem.W.Frag) (ta:TE) (f:Str):TE:=fun σ H Q=>ta σ H fun x H1=>PL K f Q x H1
inductive yM (K:W.Frag) (f:Str) (D:Ends) (σ:L2.St) (y x:V) (H2:Hp):Prop
 | mk (a C dx:Addr) (fs:List (Prod Str V)) (_:x=.ref a) (_:H2 a=some (.ins C dx fs)) (_:Cls K C) (_:dW K C f) (_:fs.length<1000) (_:D.nx σ (upd H2 a (.ins C dx (nA f y fs)))):yM K f D σ y x H2
def Zm (K:PySem.W.Frag) (ta tv:TE) (f:Str):TS:=fun D σ H=>tv σ H fun y H1=>ta σ H1 fun x H2=>yM K f D σ y x H2
def Zn (X:Cx) (op:Operator) (rd:V->V->Hp->VK->Prop):Prop :=
 ∀ (pins:List 0x22) (s:Shared) (σ:St) (H:Hp) (x y:V) (u v:Value) (Q:VK),Inv X pins σ H s->RelV x u->RelV y v->rd x y H Q->wpAny 0x9 X.A (inplaceOp op u v) 0x45 X.xe s
section
variable {o:Expr}{f:Str}{tpos:Pos}
theorem bB (he:PE X e ta) (hb:attributeBase e f X.env (eval e X.env)=eval e X.env):PE X (.Attribute e f pos) (tFld X.K ta f):=by
 intro pins s σ H Q I h;refine Vy hb (cL 0x5A fun u s1 zq=>?_);obtain ⟨x,H1,I1,rx,a,C,dx,fs,v,ex,ea,c,n,l,q⟩:=zq;subst ex;obtain rfl:u=Value.ref a:=rx;exact Fy I1 ea c n l fun u' s2 I2 ru=>⟨v,H1,I2,ru,q⟩
theorem dX (ha:PE X o ta) (hv:PE X value tv) (hs:swapsWith value (some (.Attribute o f pos')) pos.line X.env=pure false):PS X (.Assign [.Attribute o f pos'] value pos) (Zm X.K ta tv f):=by
 intro pins s σ H D I h;refine plainObj_wpAny_Assign_Attribute (cL (hv pins s σ H _ I h) fun u s1 ⟨y,H1,I1,ry,q⟩=>cL (ha pins s1 σ H1 _ I1 q) fun ov s2 ⟨x,H2,I2,rx,a,C,dx,fs,ex,ea,c,n,l,q2⟩=>?_) hs;subst ex;obtain rfl:ov=Value.ref a:=rx;exact Fz I2 ea c n l ry fun s3 I3=>⟨σ,_,I3,q2⟩
inductive rAdd (x y:V) (H:Hp) (Q:VK):Prop
 | mk (i j:Int) (_:x=.int i) (_:y=.int j) (_:Q (.int (i+j)) H):rAdd x y H Q
inductive rSub (x y:V) (H:Hp) (Q:VK):Prop
 | mk (i j:Int) (_:x=.int i) (_:y=.int j) (_:Q (.int (i - j)) H):rSub x y H Q
theorem PN:Zn X .Add rAdd:=by
 rintro pins s σ H x y u v Q I rx ry ⟨i,j,rfl,rfl,q⟩;obtain ⟨t,rfl⟩:=(show ∃ t,u=Value.int i t from rx)
 obtain ⟨t',rfl⟩:=(show ∃ t',v=Value.int j t' from ry)
 exact PyProof.Rows.iadd_int ⟨.int (i+j),H,I.tok _,⟨_,rfl⟩,q⟩
theorem yN:Zn X .Sub rSub:=by
 rintro pins s σ H x y u v Q I rx ry ⟨i,j,rfl,rfl,q⟩;obtain ⟨t,rfl⟩:=(show ∃ t,u=Value.int i t from rx)
 obtain ⟨t',rfl⟩:=(show ∃ t',v=Value.int j t' from ry)
 exact PyProof.Rows.isub_int ⟨.int (i - j),H,I.tok _,⟨_,rfl⟩,q⟩
end
section
variable {c:Value}{b:Bool}
inductive pW (K:PySem.W.Frag) (H:Hp):V->Value->Prop where
 | non:pW K H .non (.type "NoneType")
 | bl (x:Bool):pW K H (.bl x) (.type "bool")
 | int (i:Int):pW K H (.int i) (.type "int")
 | str (x:Str):pW K H (.str x) (.type "str")
 | flt (x:UInt64):pW K H (.flt x) (.type "float")
 | lst {a:Addr}{xs:List V} (e:H a=some (.lst xs)):pW K H (.ref a) (.type "list")
 | gM {a:Addr}{o:Obj}{xs:List V} (e:H a=some (.gM o (.lst xs))):pW K H (.ref a) (.type "list")
 | tup {a:Addr}{xs:List V} (e:H a=some 0x3E):pW K H (.ref a) (.type "tuple")
 | dK {a:Addr}{kvs:List 0x61} (e:H a=some 0x24):pW K H (.ref a) (.type "dict")
 | dT {a:Addr}{kvs:List (List Key×V)} (e:H a=some (.dT kvs)):pW K H (.ref a) (.type "dict")
 | ins {a C dx:Addr}{fs:List (Str×V)} (e:H a=some (.ins C dx fs)) (cl:Cls K C) (ha:PySem.W.findIn K (.ref C) "__class__"=some (some (.builtin "object.__class__")))
   (hn:PySem.W.specialIn K (.builtin "object.__class__") "__get__"=some (some (.builtin "getset_descriptor.__get__"))) (htk:PySem.W.takesIn K (.builtin "object.__class__")=some true)
   (hm:PySem.W.mroIn K C (.type "object")=some true):pW K H (.ref a) (.ref C)
theorem Mi {x:V}{t:Value} (I:Inv X pins σ H s) (rx:RelV x u) (ty:pW X.K H x t) (e:PySem.W.kitOne X.K t c=some b) (h:∀ tk,Q (.bool b) { s with toks:=tk }) :
  wpAny 0x9 A (call (.builtin "isinstance") [u,c]) Q E s:=by
 cases ty with
 | non=>cases (show u=Value.none from rx);exact A1L PySem.W.kitx_none I.oU True.intro e (fun z=>nomatch z) h
 | bl y=>cases (show u=Value.bool y from rx);exact A1L PySem.W.kitx_bool I.oU True.intro e (fun z=>nomatch z) h
 | int i=>obtain ⟨t,q⟩:=(show ∃ t,u=Value.int i t from rx);cases q;exact A1L PySem.W.kitx_int I.oU True.intro e (fun z=>nomatch z) h
 | str y=>obtain ⟨t,q⟩:=(show ∃ t,u=Value.str y t from rx);cases q;exact A1L PySem.W.kitx_str I.oU True.intro e (fun z=>nomatch z) h
 | flt y=>obtain ⟨t,q⟩:=(show ∃ t,u=Value.float y t from rx);cases q;exact A1L PySem.W.kitx_float I.oU True.intro e (fun z=>nomatch z) h
 | @lst a xs ea =>
  cases (show u=Value.ref a from rx)
  obtain ⟨_,_,n,_,h1⟩:=(show cM X.prog X.w H s.heap a (.lst xs) from I.hok a _ ea)
  exact A1L PySem.W.kitx_list I.oU ⟨_,h1,rfl⟩ e (fun z=>nomatch z) h
 | @gM a ob xs ea =>
  cases (show u=Value.ref a from rx)
  obtain ⟨_,_,_,n,_,h1⟩:=(show cM X.prog X.w H s.heap a (.gM ob (.lst xs)) from I.hok a _ ea)
  exact A1L PySem.W.kitx_list I.oU ⟨_,h1,rfl⟩ e (fun z=>nomatch z) h
 | @tup a xs ea =>
  cases (show u=Value.ref a from rx)
  obtain ⟨_,_,_,p⟩:=(show cM X.prog X.w H s.heap a 0x3E from I.hok a _ ea)
  obtain ⟨o,h1,h2,_⟩:=p;exact A1L PySem.W.kitx_tuple I.oU ⟨o,h1,h2⟩ e (fun z=>nomatch z) h
 | @dK a kvs ea =>
  cases (show u=Value.ref a from rx)
  obtain ⟨_,_,vs,_,p⟩:=(show cM X.prog X.w H s.heap a 0x24 from I.hok a _ ea)
  obtain ⟨o,es,ep,h1,h2,_⟩:=p;exact A1L PySem.W.kitx_dict I.oU ⟨o,h1,h2.1⟩ e (fun z=>nomatch z) h
 | @dT a kvs ea =>
  cases (show u=Value.ref a from rx)
  obtain ⟨_,_,xs,_,o,es,ep,h1,h2,_⟩:=(show cM X.prog X.w H s.heap a (.dT kvs) from I.hok a _ ea)
  exact A1L PySem.W.kitx_dict I.oU ⟨o,h1,h2.1⟩ e (fun z=>nomatch z) h
 | @ins a C dx fs ea cl ha hn htk hm =>
  cases (show u=Value.ref a from rx)
  obtain ⟨mA,O,_⟩:=tL I.hok ea;obtain ⟨od,J,_⟩:=O.look;exact A1L (PySem.W.kitx_own (cl.get _) cl.hd ha hn htk hm) I.oU J e (fun z=>nomatch z) h
end
structure cP (k:Nat) (A:Around):Prop where
 hd:A.handled=none
 dp:A.depth+3 * k+5<recursionLimit
 un:A.units+16 * k+200<cLine
theorem cP.mono {k:Nat} (r:cP k A) (h:j<=k):cP j A:=⟨r.hd,by have:=r.dp;lia,by have:=r.un;lia⟩
theorem cP.deeper {k:Nat} (r:cP (k+1) A) (env:Env):cP k (A.deeper env) :=
 ⟨r.hd,by have:=r.dp;show A.depth+1+3 * k+5<_;lia,by have:=r.un;show A.units+3+16 * k+200<_;lia⟩
theorem cP.in1 {k:Nat} (r:cP (k+1) A):cP k A.in1 :=
 ⟨r.hd,by have:=r.dp;show A.depth+3 * k+5<_;lia,by have:=r.un;show A.units+1+16 * k+200<_;lia⟩
theorem FJ:(A.under (.builtin "type.__call__" ⟨.ref C::us,kw⟩)).depth=A.depth+1:=by
 first | rfl | simp [Around.under,Code.weight,Code.isCreation,Code.isGuard,Code.isCaller,Code.frames,Code.isFrame,guardIds]
theorem FN:(A.under (.builtin "type.__call__" ⟨.ref C::us,kw⟩)).units=A.units+1:=by
 first | rfl | simp [Around.under,Code.cUnits,Code.frames,Code.isFrame]
theorem cP.make {k:Nat} (r:cP (k+1) A) (C:Addr) (us:List Value) (kw:List (Str×Value)):cP k (A.under (.builtin "type.__call__" ⟨.ref C::us,kw⟩)) :=
 ⟨r.hd,by have:=r.dp;rw [FJ];lia,by have:=r.un;rw [FN];lia⟩
theorem cP.depth {k:Nat} (r:cP k A):A.depth<recursionLimit:=by have:=r.dp;lia
theorem cP.units {k:Nat} (r:cP k A):A.units+64<cLine:=by have:=r.un;lia
def oK:TA:=fun _ H Q=>Q [] H
def sW (ta:TE) (tr:TA):TA:=fun σ H Q=>ta σ H fun x H1=>tr σ H1 fun xs H2=>Q (x::xs) H2
section
variable {es:List Expr}{t:TA}
theorem aC:PA X [] oK:=fun _ _ _ _ H Q I h=>A3S ⟨[],H,I,.nil,h⟩
theorem aj (ha:PE X e te) (hr:PA X es t) (hs:starEach (e::es) X.env=0x53::starEach es X.env:=by rfl):PA X (e::es) (sW te t):=by
 intro pos pins s σ H Q I h;rw [hs]
 show wpAny _ _ (spliced (0x53::backTo pos (starEach es X.env))) _ _ s
 refine A2u (cL 0x4E fun u s1 zq=>?_);obtain ⟨x,H1,I1,r1,q1⟩:=zq;exact cL (hr pos pins s1 σ H1 _ I1 q1) fun us s2 ⟨xs,H2,I2,r2,q2⟩=>⟨x::xs,H2,I2,.cons r1 r2,q2⟩
def Vz (t:TA):TE:=fun σ H Q=>t σ H fun xs H1=>xs.length<=sizeLine/\∀ p,H1 p=none->Q (.ref p) (upd H1 p 0x3E)
def Zo (t:TA):TE:=fun σ H Q=>t σ H fun xs H1=>xs.length<=sizeLine/\∀ p,H1 p=none->Q (.ref p) (upd H1 p (.lst xs))
theorem cN {x1} (h:PA X es t):PE X (.Tuple es x1 pos) (Vz t):=by
 intro pins s σ H Q I hq;refine wpAny_Tuple_spliced (cL (h pos pins s σ H _ I hq) fun us s1 ⟨xs,H1,I1,r,z,q⟩=>⟨by rw [<- r.length];exact z,?_⟩);have hf:H1 s1.heap.objs.size=none:=I1.hok.fresh (A0f _);refine ⟨.ref s1.heap.objs.size,upd H1 s1.heap.objs.size 0x3E,I1.laid (t':=s1.toks) (fun b u e=>A0b _ e) (A0f _) ?_,rfl,q _ hf⟩;exact ⟨z,us,r,⟨_,A0n _ rfl,rfl,_,rfl⟩⟩
theorem eG (h:PA X es t):PE X (.List es pos) (Zo t):=by
 intro pins s σ H Q I hq;refine wpAny_List_spliced (cL (h pos pins s σ H _ I hq) fun us s1 ⟨xs,H1,I1,r,z,q⟩=>⟨by rw [<- r.length];exact z,?_⟩);have hf:H1 s1.heap.objs.size=none:=I1.hok.fresh (A0f _);refine ⟨.ref s1.heap.objs.size,upd H1 s1.heap.objs.size (.lst xs),I1.laid (t':=s1.toks) (fun b u e=>A0b _ e) (A0f _) ?_,rfl,q _ hf⟩;exact ⟨z,us,0,r,A0n _ rfl⟩
end
abbrev Sp:=List V->Hp->VK->XK->Prop
variable {sp:Sp}
abbrev Jf:=List Env->Hp->Shared->XK->Value->Shared->Prop
variable {CX:Jf}
structure wF (P:Program) (w:World) (K:PySem.W.Frag) (mg:Str->Option Value) (base:Heap) (A:Around) (outer:List Env) (s:Shared) (H:Hp):Prop where
 frames:A.frames=some outer
 mod:Mod K mg base
 bs:∀ b o,base.get? b=some o->s.heap.get? b=some o/\H b=none
 OJ:base.objs.size<=s.heap.objs.size
 qY:s.heap.FunFrames base outer
 Y9:∀ b∈frs outer,H b=none
 hok:nZ P w H s.heap
 bare:AllBare s.gens
inductive CE (outer:List Env) (P:Program) (w:World) (H:Hp) (s:Shared) (Q:VK) (u:Value) (s':Shared):Prop
 | mk (v:V) (H':Hp) (_:s'.os=s.os) (_:AllBare s'.gens) (_:Un (frs outer) [] H H' s.heap s'.heap) (_:nZ P w H' s'.heap) (_:RelV v u) (_:Q v H'):CE outer P w H s Q u s'
def CR (CX:Jf) (outer:List Env) (P:Program) (w:World) (H:Hp) (s:Shared) (Q:VK) (E:XK) (r:Result) (s':Shared):Prop :=
 match r with
 | .ok (.ret u)=>CE outer P w H s Q u s'
 | .ok _=>False
 | .error e=>CX outer H s E e s'
structure aL (P:Program) (w:World) (K:PySem.W.Frag) (mg:Str->Option Value) (base:Heap) (CX:Jf) (k:Nat) (f:Addr) (fd:FuncData) (ps:List Str) (sp:Sp):Prop where
 len:∀ vs H Q E,sp vs H Q E->vs.length=ps.length
 run:∀ (A:Around) (outer:List Env) (s:Shared) (H:Hp) (args:Args) (us:List Value) (vs:List V) (Q:VK) (E:XK),cP k A->wF P w K mg base A outer s H->BindsTo s fd args (ps.zip us)->Vals vs us->sp vs H Q E ->
  codeAny (model P w) A (.call (.ref f) args) (CR CX outer P w H s Q E) s
theorem aL.mono {k:Nat} (F:aL P w K mg base CX j f fd ps sp) (h:j<=k) :
  aL P w K mg base CX k f fd ps sp:=⟨F.len,fun A outer s H args us vs Q E hr=>F.run A outer s H args us vs Q E (hr.mono h)⟩
theorem wF.make (e:wF P w K mg base A outer s H) (C:Addr) (us:List Value) (kw:List (Str×Value)) :
  wF P w K mg base (A.under (.builtin "type.__call__" ⟨.ref C::us,kw⟩)) outer s H:=⟨by first | exact e.frames | (simpa [Around.under,Code.envs,Code.isFrame,pushEnvs] using e.frames),e.mod,e.bs,e.OJ,e.qY,e.Y9,e.hok,e.bare⟩
theorem wF.in1 (e:wF P w K mg base A outer s H) :
  wF P w K mg base A.in1 outer s H:=⟨e.frames,e.mod,e.bs,e.OJ,e.qY,e.Y9,e.hok,e.bare⟩
theorem Inv.env0 (I:Inv X pins σ H s):wF X.prog X.w X.K X.mg X.base X.A X.stack s H :=
 ⟨I.ok.frames,I.ok.mod,I.bs,A0M I.ok.OJ I.sz,I.stack,I.yL,I.hok,I.bare⟩
theorem Inv.after {Q:VK} (I:Inv X pins σ H s) (h:CE X.stack X.prog X.w H s Q u s'):EP X pins σ Q u s':=by
 obtain ⟨v,H',os,bare,un,hok,r,q⟩:=h;obtain ⟨hh,g,d,t,os'⟩:=s';obtain rfl:os'=s.os:=os;exact ⟨v,H',I.call (h':=hh) (g':=g) (d':=d) (t':=t) (ch:=[]) un hok bare (fun b z=>absurd z 0xA),r,q⟩
def Ye (sp:Sp) (pX:List V) (E:XK) (t:TA):TE:=fun σ H Q=>t σ H fun vs H1=>sp (vs++pX) H1 Q E
inductive Jg (C:Addr) (m:Str) (sp:Sp) (pX:List V) (E:XK) (t:TA) (σ:L2.St) (Q:VK) (x:V) (H1:Hp):Prop
 | mk (a dx:Addr) (fs:List (Prod Str V)) (_:x=.ref a) (_:H1 a=some (.ins C dx fs)) (_:fs.lookup m=none) (_:t σ H1 fun vs H2=>sp (x::(vs++pX)) H2 Q E):Jg C m sp pX E t σ Q x H1
def Yg (C:Addr) (m:Str) (sp:Sp) (pX:List V) (E:XK) (ta:TE) (t:TA):TE:=fun σ H Q=>ta σ H fun x H1=>Jg C m sp pX E t σ Q x H1
def Yh (C:Addr) (sp:Sp) (pX:List V) (E:XK) (t:TA):TE:=fun σ H Q=>t σ H fun vs H1=>∀ x dx,H1 x=none->H1 dx=none->dx≠x ->
 sp (.ref x::(vs++pX)) (upd (upd H1 dx (.own x)) x (.ins C dx [])) (fun v H2=>v=.non/\Q (.ref x) H2) E
def Binds (K:PySem.W.Frag) (fd:FuncData) (ps:List Str) (ds:List Value):Prop :=
 ∀ (s:Shared) (us:List Value),K.In s.heap->(us++ds).length=ps.length->BindsTo s fd ⟨us,[]⟩ (ps.zip (us++ds))
theorem Binds.all (h:∀ us:List Value,us.length=ps.length->bindArgs fd ⟨us,[]⟩=pure (ps.zip us)):Binds K fd ps []:=fun s us _ hl=>by
 rw [A1s] at hl ⊢;exact .of_eq (h us hl)
def Passes (CX:Jf) (X:Cx) (E:XK):Prop:=∀ (pins:List 0x22) (σ:St) (H:Hp) (s:Shared) (e:Value) (s':Shared),Inv X pins σ H s->CX X.stack H s E e s'->X.xe e s'
section
variable {k:Nat}{pX:List V}{ds:List Value}{E:XK}{m:Str}{p:Pos}{o:Expr}{es:List Expr}{t:TA}
theorem uK {Q:VK}{vs:List V} (F:aL X.prog X.w X.K X.mg X.base CX k f fd ps sp) (hr:cP k X.A) (hb:Binds X.K fd ps ds) (hd:Vals pX ds) (hx:Passes CX X E)
  (I:Inv X pins σ H s) (r:Vals vs us) (h:sp (vs++pX) H Q E):wpAny 0x9 X.A (call (.ref f) us) 0x45 X.xe s:=by
 have r2:Vals (vs++pX) (us++ds):=r.append hd;have hl:(us++ds).length=ps.length:=by rw [<- r2.length];exact F.len _ _ _ _ h
 refine wpAny_call (A3r (F.run X.A X.stack s H ⟨us,[]⟩ (us++ds) (vs++pX) Q E hr I.env0 (hb s us I.oU hl) r2 h) fun r s' hq=>?_);cases r with
 | error e=>exact hx pins σ H s e s' I hq
 | ok fl =>
  cases fl with
  | ret u=>exact I.after hq
  | next=>exact False.elim hq
  | brk=>exact False.elim hq
  | cont=>exact False.elim hq
theorem bC (F:aL X.prog X.w X.K X.mg X.base CX k f fd ps sp) (hr:cP k X.A) (hg:Gl X x) (hm:X.mg x=some (.ref f)) (hk:PySem.W.keepIn X.K (.ref f)=true) (hb:Binds X.K fd ps ds) (hd:Vals pX ds) (hx:Passes CX X E)
  (ha:PA X (e::es) t) (hdb:0x31=false:=by decide) (he:starEach (e::es) X.env=0x53::starEach es X.env:=by rfl) (hpl:(0x55).any (·.1)=false:=by rfl) :
  PE X (.Call (.Name x p) (e::es) [] pos) (Ye sp pX E t):=by
 intro pins s σ H Q I h;refine A1T (pQ I hg hm ?_ hdb);refine A3M (h₀:=X.base) I.ok.mod.kin hk (cL (ha pos pins s σ H _ I h) fun us s1 ⟨vs,H1,I1,r,q⟩=>⟨I1.oU,?_⟩) he hpl;exact uK F hr hb hd hx I1 r q
theorem Q0 (F:aL X.prog X.w X.K X.mg X.base CX k f fd ps sp) (hr:cP k X.A) (hg:Gl X x) (hm:X.mg x=some (.ref f)) (hk:PySem.W.keepIn X.K (.ref f)=true) (hb:Binds X.K fd ps ds) (hd:Vals pX ds) (hx:Passes CX X E)
  (hdb:0x31=false:=by decide):PE X (.Call (.Name x p) [] [] pos) (Ye sp pX E oK):=by
 intro pins s σ H Q I h;refine A1T (pQ I hg hm ?_ hdb);exact A4v I.oU hk (uK (us:=[]) F hr hb hd hx I .nil h)
theorem bW (he:PE X o ta) (c:Cls X.K C) (hm:Meth X.K C m f) (F:aL X.prog X.w X.K X.mg X.base CX k f fd ps sp) (hr:cP k X.A) (hb:Binds X.K fd ps ds) (hd:Vals pX ds) (hx:Passes CX X E) (ha:PA X (e::es) t)
  (hst:starEach (e::es) X.env=0x53::starEach es X.env:=by rfl) (hpl:(0x55).any (·.1)=false:=by rfl)
  (ht:eval (.Call (.Attribute o m apos) (e::es) [] pos) X.env=(do
   let ov <- eval o X.env
   standAt apos.atName
   let (f,first) <- holding [ov] (getMethod ov m pl)
   callWith pos f first (backTo pos (starEach (e::es) X.env)) (backToKw pos (keywordEach [] X.env))):=by rfl) :
  PE X (.Call (.Attribute o m apos) (e::es) [] pos) (Yg C m sp pX E ta t):=by
 intro pins s σ H Q I h;refine PySem.W.methodCall_KW (pl:=pl) (cL 0x5A fun u s1 ⟨x,H1,I1,rx,a,dx,fs,ex,ea,l,q⟩=>?_) ht;subst ex;obtain rfl:u=Value.ref a:=rx;refine uJ I1 ea c hm l ?_;refine A3M (first:=[.ref a]) (h₀:=X.base) I.ok.mod.kin hm.kp (cL (ha pos pins s1 σ H1 _ I1 q) fun us s2 ⟨vs,H2,I2,r,q2⟩=>⟨I2.oU,?_⟩) hst hpl
 exact uK (us:=.ref a::us) (vs:=.ref a::vs) F hr hb hd hx I2 (.cons rfl r) q2
theorem ji (he:PE X o ta) (c:Cls X.K C) (hm:Meth X.K C m f) (F:aL X.prog X.w X.K X.mg X.base CX k f fd ps sp) (hr:cP k X.A) (hb:Binds X.K fd ps ds) (hd:Vals pX ds) (hx:Passes CX X E)
  (ht:eval (.Call (.Attribute o m apos) [] [] pos) X.env=(do
   let ov <- eval o X.env
   standAt apos.atName
   let (f,first) <- holding [ov] (getMethod ov m pl)
   callWith pos f first (backTo pos (starEach [] X.env)) (backToKw pos (keywordEach [] X.env))):=by rfl) :
  PE X (.Call (.Attribute o m apos) [] [] pos) (Yg C m sp pX E ta oK):=by
 intro pins s σ H Q I h;refine PySem.W.methodCall_KW (pl:=pl) (cL 0x5A fun u s1 ⟨x,H1,I1,rx,a,dx,fs,ex,ea,l,q⟩=>?_) ht;subst ex;obtain rfl:u=Value.ref a:=rx;refine uJ I1 ea c hm l ?_;exact A4v (first:=[.ref a]) I1.oU hm.kp (uK (us:=[.ref a]) (vs:=[.ref a]) F hr hb hd hx I1 (.cons rfl .nil) q)
structure Mk (K:PySem.W.Frag) (C f:Addr):Prop where
 makes:PySem.W.makesIn K C=true
 init:PySem.W.findIn K (.ref C) "__init__"=some (some (.ref f))
 fn:PySem.W.isFn K (.ref f)=true
 kp:PySem.W.keepIn K (.ref C)=true
theorem Ca {Q:VK}{vs:List V} (M:Mk X.K C f) (F:aL X.prog X.w X.K X.mg X.base CX k f fd ps sp) (hr:cP (k+1) X.A) (hb:Binds X.K fd ps ds) (hd:Vals pX ds)
  (hx:Passes CX X E) (I:Inv X pins σ H s) (r:Vals vs us)
  (h:∀ x dx,H x=none->H dx=none->dx≠x->sp (.ref x::(vs++pX)) (upd (upd H dx (.own x)) x (.ins C dx [])) (fun v H2=>v=.non/\Q (.ref x) H2) E) :
  wpAny 0x9 X.A (call (.ref C) us) 0x45 X.xe s:=by
 have hq:=h 0x12 s.heap.objs.size (I.hok.fresh (A2b _)) 0x48 (A0y (A2U _));have I2:=Inv.made (C:=C) I;have r2:Vals (V.ref 0x12::(vs++pX)) (Value.ref 0x12::(us++ds)):=.cons rfl (r.append hd);have hl:(Value.ref 0x12::us++ds).length=ps.length:=by
  have e:=r2.length;rw [F.len _ _ _ _ hq] at e;exact e.symm
 refine wpAny_call (PJ (f:=f) I.oU M.makes M.init (A3L.mp M.fn) (A3r (F.run _ X.stack _ _ ⟨Value.ref 0x12::us,[]⟩ (Value.ref 0x12::(us++ds)) _ _ E (hr.make C us [])
  (I2.env0.make C us []) (hb _ (Value.ref 0x12::us) I2.oU hl) r2 hq) fun r s' hq'=>?_))
 cases r with
 | error e=>exact hx pins σ _ _ e s' I2 hq'
 | ok fl =>
  cases fl with
  | ret u =>
   obtain ⟨v,H',I3,rv,ev,q3⟩:=I2.after hq';subst ev;exact ⟨rv,⟨V.ref 0x12,H',I3,rfl,q3⟩⟩
  | next=>exact False.elim hq'
  | brk=>exact False.elim hq'
  | cont=>exact False.elim hq'
theorem tM (M:Mk X.K C f) (F:aL X.prog X.w X.K X.mg X.base CX k f fd ps sp) (hr:cP (k+1) X.A) (hg:Gl X x) (hm:X.mg x=some (.ref C)) (hb:Binds X.K fd ps ds) (hd:Vals pX ds) (hx:Passes CX X E)
  (ha:PA X (e::es) t) (hdb:0x31=false:=by decide) (he:starEach (e::es) X.env=0x53::starEach es X.env:=by rfl) (hpl:(0x55).any (·.1)=false:=by rfl) :
  PE X (.Call (.Name x p) (e::es) [] pos) (Yh C sp pX E t):=by
 intro pins s σ H Q I h;refine A1T (pQ I hg hm ?_ hdb);refine A3M (h₀:=X.base) I.ok.mod.kin M.kp (cL (ha pos pins s σ H _ I h) fun us s1 ⟨vs,H1,I1,r,q⟩=>⟨I1.oU,?_⟩) he hpl;exact Ca M F hr hb hd hx I1 r q
theorem Q6 (M:Mk X.K C f) (F:aL X.prog X.w X.K X.mg X.base CX k f fd ps sp) (hr:cP (k+1) X.A) (hg:Gl X x) (hm:X.mg x=some (.ref C)) (hb:Binds X.K fd ps ds) (hd:Vals pX ds) (hx:Passes CX X E)
  (hdb:0x31=false:=by decide):PE X (.Call (.Name x p) [] [] pos) (Yh C sp pX E oK):=by
 intro pins s σ H Q I h;refine A1T (pQ I hg hm ?_ hdb);exact A4v I.oU M.kp (Ca (us:=[]) M F hr hb hd hx I .nil h)
end
def PK (X:Cx) (kws:List Keyword) (t:TA):Prop :=
 ∀ (pos:Pos) (pins:List 0x22) (s:Shared) (σ:St) (H:Hp) (Q:List V->Hp->Prop),Inv X pins σ H s->t σ H Q->wpAny 0x9 X.A (evalAll ((backToKw pos (keywordEach kws X.env)).map (·.2))) (AP X pins σ Q) X.xe s
section
variable {k:Nat}{E:XK}{m:Str}{p kpos:Pos}{o:Expr}{es:List Expr}{kws:List Keyword}{t tk:TA}{nm:Option Str}
theorem Zq:PK X [] oK:=fun _ _ _ _ H Q I h=>wpAny_evalAll_nil ⟨[],H,I,.nil,h⟩
theorem VB (ha:PE X e te) (hr:PK X kws t):PK X (⟨nm,e,kpos⟩::kws) (sW te t):=by
 intro pos pins s σ H Q I h
 show wpAny _ _ (evalAll ((do let v <- eval e X.env;standAt pos;pure v)::(backToKw pos (keywordEach kws X.env)).map (·.2))) _ _ s
 refine wpAny_evalAll_cons (A0a (cL 0x4E fun u s1 ⟨x,H1,I1,r1,q1⟩=>A0a (A2j (A0d ?_))));exact cL (hr pos pins s1 σ H1 _ I1 q1) fun us s2 ⟨xs,H2,I2,r2,q2⟩=>⟨x::xs,H2,I2,.cons r1 r2,q2⟩
structure KBinds (K:PySem.W.Frag) (fd:FuncData) (ps ks:List Str) (g:List Value->List Value->List Value) (gV:List V->List V->List V):Prop where
 to:∀ (s:Shared) (us ws:List Value),K.In s.heap->(g us ws).length=ps.length->BindsTo s fd ⟨us,ks.zip ws⟩ (ps.zip (g us ws))
 rel:∀ {vs:List V}{us:List Value}{zs:List V}{ws:List Value},Vals vs us->Vals zs ws->Vals (gV vs zs) (g us ws)
variable {g:List Value->List Value->List Value}{gV:List V->List V->List V}
end
structure aQ (N P:List Str) (sc:Scope):Prop where
 kind:sc.kind=.function
 co:sc.isCoroutine=false
 gen:sc.isGenerator=false
 nd:N.Nodup
 pre:N.take P.length=P
 par:∀ x∈P,sc.names.lookup x=some .local\/sc.names.lookup x=some .cell
 Zr:∀ y∈sc.names,y.2≠.free
theorem wR {kindOf:Str->Option NameKind}:∀ {binds:List (Str×Value)}{m:Str->Option Value},(∀ v,(x,v)∉binds)->bindL kindOf binds m x=m x
 | [],_,_=>rfl
 | (n,v)::r,m,h=>by
  unfold bindL;rw [wR fun w hw=>h w (jh _ hw)]
  split
  ·have:x≠n:=by rintro rfl;exact h v A0h
   simp [this]
  ·rfl
theorem wU {kindOf:Str->Option NameKind}:∀ {binds:List (Str×Value)}{m:Str->Option Value},(∀ v,(x,v)∉binds)->bindC kindOf binds m x=m x
 | [],_,_=>rfl
 | (n,v)::r,m,h=>by
  unfold bindC;rw [wU fun w hw=>h w (jh _ hw)]
  split
  ·rfl
  ·have:x≠n:=by rintro rfl;exact h v A0h
   simp [this]
theorem wV {kindOf:Str->Option NameKind}{x:Str}{v:Value}:∀ {P:List Str}{vs:List Value}{i:Nat}{m:Str->Option Value},P.Nodup->P[i]?=some x->vs[i]?=some v->kindOf x=some .local ->
  bindL kindOf (P.zip vs) m x=some v
 | [],_,_,_,_,h,_,_=>by simp at h
 | _::_,[],_,_,_,_,h,_=>by simp at h
 | p::P,w::vs,0,m,nd,h1,h2,hk=>by
  simp at h1 h2;subst h1;subst h2
  show bindL kindOf ((p,w)::P.zip vs) m p=_
  unfold bindL;rw [wR fun v hv=>(A0P.mp nd).1 (A3J hv).1,A0i hk];simp
 | p::P,w::vs,i+1,m,nd,h1,h2,hk=>by
  show bindL kindOf ((p,w)::P.zip vs) m x=_
  unfold bindL;exact wV (i:=i) (A0P.mp nd).2 (by simpa using h1) (by simpa using h2) hk
theorem wW {kindOf:Str->Option NameKind}{x:Str}{v:Value}:∀ {P:List Str}{vs:List Value}{i:Nat}{m:Str->Option Value},P.Nodup->P[i]?=some x->vs[i]?=some v->kindOf x≠some .local ->
  bindC kindOf (P.zip vs) m x=some v
 | [],_,_,_,_,h,_,_=>by simp at h
 | _::_,[],_,_,_,_,h,_=>by simp at h
 | p::P,w::vs,0,m,nd,h1,h2,hk=>by
  simp at h1 h2;subst h1;subst h2
  show bindC kindOf ((p,w)::P.zip vs) m p=_
  unfold bindC;rw [wU fun v hv=>(A0P.mp nd).1 (A3J hv).1,A0e hk];simp
 | p::P,w::vs,i+1,m,nd,h1,h2,hk=>by
  show bindC kindOf ((p,w)::P.zip vs) m x=_
  unfold bindC;exact wW (i:=i) (A0P.mp nd).2 (by simpa using h1) (by simpa using h2) hk
def start (N:List Str) (vs:List V):St:=vs.map some++List.replicate (N.length - vs.length) none
def Mj (CX:Jf) (P:Program) (w:World) (K:PySem.W.Frag) (mg:Str->Option Value) (base:Heap) (N:List Str) (qual:Str) (scope:Scope) (f:Addr) (cd:Value) (A:Around) (outer:List Env) (s:Shared) (H:Hp) (E:XK):Cx where
 prog:=P
 w:=w
 K:=K
 mg:=mg
 base:=base
 A:=A.deeper (envOfC qual scope s.heap.objs.size f cd)
 N:=N
 s₀:=s
 H₀:=H
 env:=envOfC qual scope s.heap.objs.size f cd
 outer:=outer
 stack:=envOfC qual scope s.heap.objs.size f cd::outer
 ex:=[]
 calm:=true
 fn:=fun _=>true
 pn:=[]
 xe:=fun e s'=>wpAny (model P w) (A.deeper (envOfC qual scope s.heap.objs.size f cd)) (leaving (envOfC qual scope s.heap.objs.size f cd) e) (fun _ s''=>CX outer H s E e s'') (fun e' s''=>CX outer H s E e' s'') s'
theorem Cd {sc:Scope} (h:sc.names.lookup x=some .cell):∃ c,(cellsFrom n sc.names []).lookup x=some c:=by
 have q:=PySem.W.cellsFrom_some sc.names n [] (.inl h);exact A2N.mp q
theorem Ml {cd:Value}{s1:Shared}{E:XK}{vs:List V}
  (S:aQ N ps scope) (hd:A.handled=none) (e0:wF P w K mg base A outer s H) (hl:vs.length=ps.length) (r:Vals vs us)
  (x:InCallC s s.heap.objs.size (bindL (envOfC qual scope s.heap.objs.size f cd).kindOf (ps.zip us) fun _=>none) (cellsFrom 0x12 scope.names []) (bindC (envOfC qual scope s.heap.objs.size f cd).kindOf (ps.zip us) fun _=>none) s1) :
  Inv (Mj CX P w K mg base N qual scope f cd A outer s H E) [] (start N vs) H s1:=by
 have hpl:ps.length<=N.length:=by have:=A1v List.length S.pre;rw [A0G] at this;lia
 obtain ⟨h1,tk,rfl,hk⟩:=x.done;have noA:∀ b:Addr,b∉(Mj CX P w K mg base N qual scope f cd A outer s H E).ex:=fun b z=>absurd (show b∈([]:List Addr) from z) 0xA
 refine ⟨⟨e0.mod,S.kind,rfl,rfl,A0f _,fun y z c h1 h2=>?_,fun y hy=>?_,fun y c _ h=>?_,fun _=>hd,Around.frames_deeper e0.frames,.inr ⟨rfl,rfl⟩,fun b z=>absurd z (noA b),e0.bs,e0.OJ,fun b _ _=>noA b,fun b z=>absurd z (noA b),e0.qY,e0.Y9⟩,
  rfl,e0.bare,Un.kept hk,⟨_,x.toInCall.ns,fun i y v h1 h2 h3=>?_⟩,fun y c h=>⟨_,x.cell y c h⟩,e0.hok.fresh (A0f _),fun y c h=>?_,fun p hp=>absurd (show p∈([]:List 0x22) from hp) 0xA,e0.hok.kept hk,?_⟩
 ·exact name_of_addr x.apart (A1g h1) (A1g h2)
 ·have hy:scope.names.lookup y=some .cell\/scope.names.lookup y=some .free:=hy;rcases hy with hy | hy
  ·exact Cd hy
  ·exact absurd rfl (S.Zr _ (A1g hy))
 ·exact A2i (x.above y c (A1g h))
 ·have hi:i<vs.length:=by
   unfold start at h2
   by_cases hi:i<vs.length
   ·exact hi
   ·rw [A0S (by simpa using hi)] at h2;rw [A3P] at h2
    split at h2 <;> cases h2
  have ha:vs[i]?=some v:=by
   unfold start at h2;rw [A1l (by simpa using hi),jY] at h2;cases e:vs[i]? with
   | none=>rw [e] at h2;cases h2
   | some a=>rw [e] at h2;cases h2;rfl
  obtain ⟨u,hu,rv⟩:=r.get ha;have hp:ps[i]?=some y:=by
   rw [<- S.pre,List.getElem?_take_of_lt 0x2];exact h1
  have ndP:ps.Nodup:=by rw [<- S.pre];exact S.nd.sublist (List.take_sublist _ _)
  refine ⟨u,rv,?_⟩;rcases S.par y (wD hp) with k | k
  ·exact .inl ⟨k,wV ndP hp hu k⟩
  ·obtain ⟨c,e⟩:=Cd (n:=s.heap.objs.size+1) k;refine .inr ⟨.inl k,c,e,?_⟩;have q:=x.cell y c e;rw [wW ndP hp hu (by show scope.names.lookup y≠_;rw [k];decide)] at q
   exact q
 ·exact e0.hok.fresh (A2i (x.above y c (A1g h)))
 ·unfold start
  show _=N.length
  rw [iT,cg,A1Q];lia
theorem a1x {k:Nat}{params:Arguments}{dV kV doc pm cdv ct oc:Value}{an od:Option Addr}
  {osl:Array (Option Value)} (lk:K.lookup f=some ⟨oc,od,.func (PySem.W.fnOf name qual params body scope dV kV doc pm an cdv ct),osl⟩) (hcd:PySem.W.codeIn K cdv qual=true) (S:aQ N ps scope)
  (len:∀ vs H Q E,sp vs H Q E->vs.length=ps.length)
  (hbody:∀ (A:Around) (outer:List Env) (s:Shared) (H:Hp) (vs:List V) (Q:VK) (E:XK),cP k (A.deeper (envOfC qual scope s.heap.objs.size f cdv))->sp vs H Q E ->
   ∃ t,Fp (Mj CX P w K mg base N qual scope f cdv A outer s H E) body t/\t { nx:=fun _ H'=>Q .non H',rt:=Q } (start N vs) H) :
  aL P w K mg base CX (k+1) f (PySem.W.fnOf name qual params body scope dV kV doc pm an cdv ct) ps sp:=by
 refine ⟨len,fun A outer s H args us vs Q E hr e0 hb r hsp=>?_⟩;have hl:=len _ _ _ _ hsp;have KX:K.In s.heap:=e0.mod.kin.keeps fun b o e=>(e0.bs b o e).1;have lim:s.heap.NoLimit:=e0.mod.nolimit.keeps fun b o e=>(e0.bs b o e).1;have hkind:∀ y∈ps.zip us,scope.names.lookup y.1=some .local\/(scope.names.lookup y.1=some .cell/\((cellsFrom 0x12 scope.names []).lookup y.1).isSome=true):=fun ⟨n,v⟩ hy=>by
  rcases S.par n (A3J hy).1 with q | q
  ·exact .inl q
  ·exact .inr ⟨q,PySem.W.cellsFrom_some _ _ _ (.inl q)⟩
 refine codeAny_call_function hr.depth (KX _ _ lk) rfl S.co S.gen rfl (PySem.W.codeRec_of KX hcd) (hb _ _ _ _ ?_);refine wpAny_newFunctionEnv_cells S.kind hkind fun env he s1 x=>?_;subst he;refine ⟨lim.keeps x.toInCall.keep,codeAny_func ?_⟩;obtain ⟨t,ht,hq⟩:=hbody A outer s H vs Q E (hr.deeper _) hsp;have I:Inv (Mj CX P w K mg base N qual scope f cdv A outer s H E) [] (start N vs) H s1:=Ml S hr.hd e0 hl r x;refine A1d (ht [] s1 (start N vs) H _ I hq) (fun fl s' hs=>?_) fun e s' hs=>hs;have fin:∀ {σ':St}{H':Hp}{v:V}{u:Value},Inv (Mj CX P w K mg base N qual scope f cdv A outer s H E) [] σ' H' s'->RelV v u->Q v H'->CE outer P w H s Q u s' :=
  fun {σ' H' v u} J rv q=>⟨v,H',J.os,J.bare,J.base,J.hok,rv,q⟩
 cases fl with
 | ret u =>
  obtain ⟨v,σ',H',J,rv,q⟩:=hs;exact fin J rv q
 | next =>
  obtain ⟨σ',H',J,q⟩:=hs;exact fin (v:=V.non) (u:=Value.none) J rfl q
 | brk =>
  obtain ⟨_,_,_,q⟩:=hs;exact False.elim q
 | cont =>
  obtain ⟨_,_,_,q⟩:=hs;exact False.elim q
section
variable {p:Pos}{es:List Expr}{t:TA}{id:String}{r:List V->Hp->VK->Prop}
def tCB (r:List V->Hp->VK->Prop) (t:TA):TE:=fun σ H Q=>t σ H fun vs H1=>r vs H1 Q
theorem bF (hc:gZ X (.builtin id) r) (hg:Gl X x) (hm:X.mg x=none) (hv:bootBuiltins x=some (.builtin id)) (ha:PA X (e::es) t) (hn:x≠"__name__":=by decide) (hdb:0x31=false:=by decide)
  (he:starEach (e::es) X.env=0x53::starEach es X.env:=by rfl) (hpl:(0x55).any (·.1)=false:=by rfl):PE X (.Call (.Name x p) (e::es) [] pos) (tCB r t):=by
 intro pins s σ H Q I h;refine A1T (oZ I hg hm hv ?_ hn hdb);exact PyProof.Rows.callWith_builtin1 (cL (ha pos pins s σ H _ I h) fun us s1 ⟨vs,H1,I1,r1,q1⟩=>hc pins s1 σ H1 vs us Q I1 r1 q1) he hpl
theorem fY (hc:gZ X (.type T) r) (hg:Gl X x) (hm:X.mg x=none) (hv:bootBuiltins x=some (.type T)) (ha:PA X (e::es) t) (hn:x≠"__name__":=by decide) (hdb:0x31=false:=by decide)
  (he:starEach (e::es) X.env=0x53::starEach es X.env:=by rfl) (hpl:(0x55).any (·.1)=false:=by rfl):PE X (.Call (.Name x p) (e::es) [] pos) (tCB r t):=by
 intro pins s σ H Q I h;refine A1T (oZ I hg hm hv ?_ hn hdb);exact A2s (cL (ha pos pins s σ H _ I h) fun us s1 ⟨vs,H1,I1,r1,q1⟩=>hc pins s1 σ H1 vs us Q I1 r1 q1) he hpl
end
end L2
variable {r xs ys:List L2.V}{H H' H1 H2:L2.Hp}{o:L2.HO}{X:L2.Cx}{v y:L2.V}{σ:L2.St}{ta td te tl tv ty:L2.TE}{tb:L2.TS}{g:L2.TG}{du ho kvs lo ow:List (L2.Key×L2.V)}{wi:L2.TI}{fs':List (PySem.Str×L2.V)}{CX:L2.Jf}{sp:L2.Sp}{tt:L2.TT}{Ot:List (L2.TE×L2.TE)}{dat:PySem.Addr->List L2.V}
namespace HT
open PySem PyProof.Rows
section
open PySem.SeqAt
open PySem.AutoSeq1 (wpAny_loadPart')
open PySem.MeetsSeq PySem.MeetsSeq2 PySem.MeetsSeq3
end
theorem VD {t:Addr}{vs ws:List Value} (ht:IsTup s.heap t vs.toArray) (hb:IsTup s.heap b ws.toArray) (hv:vs≠[])
  (h1:ws=[]->Q (.ref t) s) (h2:ws≠[]->Q 0x17 { s with heap:=s.heap.push { cls:=.type "tuple",data:=.seq (vs++ws).toArray } })
  (hsz:vs.length+ws.length<=sizeLine):wpAny 0xC A (binaryOp .Add (.ref t) (.ref b)) Q E s:=by
 obtain ⟨⟨cls,dd,data,sl⟩,ho,hc,n,hd⟩:=id ht;obtain ⟨⟨cls2,dd2,data2,sl2⟩,ho2,hc2,n2,hd2⟩:=id hb;simp only at hc hd hc2 hd2;subst hc hd hc2 hd2;have e:vs.toArray++ws.toArray=(vs++ws).toArray:=by simp
 by_cases hw:ws=[]
 ·exact concat_meets ⟨_,ho,rfl⟩ ⟨_,ho2,rfl⟩ noFill_tuple_add seq_tuple_add PySem.F.slot_tuple_add PySem.F.entry_tuple_add (PySem.F.args_tuple_add_2 _ _)
   (tuple_addW1 t b vs.toArray ws.toArray n n2 dd dd2 sl sl2 (by simpa using hv) (by simp [hw])) ⟨ho,ho2,h1 hw⟩
 ·refine concat_meets ⟨_,ho,rfl⟩ ⟨_,ho2,rfl⟩ noFill_tuple_add seq_tuple_add PySem.F.slot_tuple_add PySem.F.entry_tuple_add (PySem.F.args_tuple_add_2 _ _)
   (tuple_addW2 t b vs.toArray ws.toArray n n2 dd dd2 sl sl2 (by simpa using hv) (by simpa using hw) (by rw [A0r,A0r];exact hsz)) ⟨ho,ho2,?_⟩
  rw [e];exact h2 hw
def eV (n d:Nat):Option Int->Nat
 | none=>d
 | some v=>if v<0 then (v+(n:Int)).toNat else min v.toNat n
theorem kE (n d k:Nat):eV n d (some (k:Int))=min k n:=by
 show (if (k:Int)<0 then ((k:Int)+(n:Int)).toNat else min (k:Int).toNat n)=min k n
 rw [A0e 0x2,A1Y]
theorem Q7 (n d:Nat) (hd:d<=n) (o:Option Int):eV n d o<=n:=by
 cases o with
 | none=>exact hd
 | some v =>
  show (if v<0 then (v+(n:Int)).toNat else min v.toNat n)<=n
  by_cases hv:v<0
  ·rw [A0i hv];lia
  ·rw [A0e hv];exact Nat.min_le_right _ _
theorem Jh (v:Int) (n d:Nat):(if v<0 then max (v+(n:Int)) 0 else min v (n:Int))=((eV n d (some v):Nat):Int):=by
 show (if v<0 then max (v+(n:Int)) 0 else min v (n:Int))=(((if v<0 then (v+(n:Int)).toNat else min v.toNat n):Nat):Int)
 by_cases hv:v<0
 ·simp only [A0i hv];lia
 ·simp only [A0e hv];lia
theorem FP (lo hi:Option Int) (n:Nat):Builtin.Slice.sliceAdjust lo hi 1 (n:Int)=(((eV n 0 lo:Nat):Int),((eV n n hi:Nat):Int)):=by
 have h1:¬ ((1:Int)<0):=by lia
 unfold Builtin.Slice.sliceAdjust;simp only [h1,A2H];refine Prod.ext ?_ ?_
 ·cases lo with
  | none=>rfl
  | some v=>exact Jh v n 0
 ·cases hi with
  | none=>rfl
  | some v=>exact Jh v n n
theorem FQ (i j:Nat):Builtin.Slice.slicePlaces (i:Int) (j:Int) 1=j - i:=by
 unfold Builtin.Slice.slicePlaces;have h1:(1:Int) > 0:=by lia
 simp only [h1,A3s,Int.ediv_one]
 split <;> lia
theorem uL {v:Value}{o:Option Int}{Q:Option Int->Shared->Prop} (p:IsPart v o) (h:Q o s):wpAny 0xC A (Builtin.Slice.slicePartIndex v) Q E s:=by
 cases p with
 | none=>exact slicePart_none h
 | int i t=>exact slicePart_int h
theorem lV {lo:Option Int}{Q:Int×Int×Nat->Shared->Prop} (hs:s.heap.IsSliceOf sl vl vu .none) (pl:IsPart vl lo) (pu:IsPart vu hi)
  (h:Q (((eV n 0 lo:Nat):Int),1,eV n n hi - eV n 0 lo) s):wpAny 0xC A (Builtin.Slice.sliceApplied (.ref sl) (pure (n:Int))) Q E s:=by
 obtain ⟨os,hos,hcs,hds⟩:=id hs;unfold Builtin.Slice.sliceApplied Builtin.Slice.sliceFields;refine A0a (A0a (A1P hos hds (x:=vl) rfl (A0a (A1P hos hds (x:=vu) rfl (A0a (A1P hos hds (x:=.none) rfl (A0d ?_)))))));refine A0a (slicePart_none ?_)
 show wpAny _ _ (if ((1:Int)==0)=true then _ else _) _ _ s
 rw [A0e 0x7];refine A0a (uL pl (A0a (uL pu (A0a (A0d ?_)))))
 show wpAny _ _ (match Builtin.Slice.sliceAdjust lo hi 1 (n:Int) with | (lo,hi)=>pure (lo,(1:Int),Builtin.Slice.slicePlaces lo hi 1)) _ _ s
 rw [FP lo hi n]
 show wpAny _ _ (pure (((eV n 0 lo:Nat):Int),(1:Int),Builtin.Slice.slicePlaces ((eV n 0 lo:Nat):Int) ((eV n n hi:Nat):Int) 1)) _ _ s
 rw [FQ];exact A0d h
theorem Q8 (xs:Array Value) (i k:Nat):((List.range k).filterMap fun (m:Nat)=>xs[((i:Int)+(m:Int) * 1).toNat]?).toArray=((xs.toList.drop i).take k).toArray:=by
 have e:(fun (m:Nat)=>xs[((i:Int)+(m:Int) * 1).toNat]?)=fun m=>xs[i+m]?:=by
  funext m
  have:((i:Int)+(m:Int) * 1).toNat=i+m:=by lia
  rw [this]
 rw [e];have:=pick_run xs i k;rw [List.filterMap_map] at this;have e2:((fun x=>xs[x]?)∘fun x=>i+x)=fun m=>xs[i+m]?:=rfl;rw [e2] at this;rw [this]
theorem pY {t:Addr}{items:Array Value}{lo:Option Int} (ht:IsTup s.heap t items) (hs:s.heap.IsSliceOf sl vl vu .none) (pl:IsPart vl lo) (pu:IsPart vu hi)
  (hw:¬ (eV items.size 0 lo=0/\eV items.size items.size hi=items.size))
  (h:Q 0x17 { s with heap:=s.heap.push { cls:=.type "tuple",data:=.seq (0x44).toArray } })
  (hsz:items.size<=sizeLine):wpAny 0xC A (getItem (.ref t) (.ref sl)) Q E s:=by
 have Ji:sizeOk (.seq (0x44).toArray):=by
  show (0x44).toArray.size<=sizeLine
  rw [A0r,A0G,A1z,A0I];lia
 have hj:eV items.size items.size hi<=items.size:=Q7 _ _ (A0f _) hi;obtain ⟨os,hos,hcs,hds⟩:=id hs;have hTs:s.TypeIs (.ref sl) "slice":=⟨os,hos,hcs⟩;unfold getItem
 try with_reducible refine A1S ?_
 first | refine A0a (A0d ?_) | skip
 refine A0a (wpAny_sequenceKey ht.typeIs 0x7 ?_);refine A0a (A1c (name:=Str.ofString "__getitem__") ht.typeIs A1r
  (A1a A1r ht.typeIs entry_tuple_getitem ?_ (args_tuple_getitem _ _)))
 show wpAny _ _ (Builtin.Tuple.tupleItemsOf (.ref t) >>= _) _ _ s
 refine A0a (tupleItemsOf_ ht ?_);refine A0a (A4w hTs ?_);rw [A0i 0x7];refine A0a (lV hs pl pu ?_);have hno:¬ (0x20=true):=by
  intro q;rw [A0Y,A0Y] at q;have q1:((eV items.size 0 lo:Nat):Int)=0:=A4z q.1.1;have q2:eV items.size items.size hi - eV items.size 0 lo=items.size:=A4z q.2;exact hw ⟨by lia,by lia⟩
 show wpAny _ _ (if 0x20=true then _ else _) _ _ s
 rw [A0e hno,Q8]
 first
  | exact A0a (m:=Builtin.Tuple.tupleExact _) (A1n (A0d ⟨_,rfl,A0d h⟩) Ji)
  | exact A0a (m:=Builtin.Tuple.tupleExact _) (A1n (A0a (A0d (A0d ⟨_,rfl,A0d h⟩))) Ji)
  | exact A0a (A0a (m:=Builtin.Tuple.tupleExact _) (A1n (A0d (A0d ⟨_,rfl,A0d h⟩)) Ji))
  | exact A0a (A0a (m:=Builtin.Tuple.tupleExact _) (A1n (A0d ⟨_,rfl,A0d h⟩) Ji))
end HT
namespace L2
open PySem PySem.Spec PyProof.Rows
abbrev TO:=St->Hp->(Option Int->Hp->Prop)->Prop
def PO (X:Cx) (e:Option Expr) (t:TO):Prop :=
 ∀ (pins:List 0x22) (s:Shared) (σ:St) (H:Hp) (Q:Option Int->Hp->Prop),Inv X pins σ H s->t σ H Q ->
  wpAny 0x9 X.A (evalPart e X.env) (fun u s'=>∃ o H',Inv X pins σ H' s'/\IsPart u o/\Q o H') X.xe s
def VF:TO:=fun _ H Q=>Q none H
inductive Jj (Q:Option Int->Hp->Prop) (x:V) (H1:Hp):Prop
 | mk (i:Int) (_:x=.int i) (_:Q (some i) H1):Jj Q x H1
def a1y (t:TE):TO:=fun σ H Q=>t σ H fun x H1=>Jj Q x H1
section
variable {lo hi:Option Expr}{tl th:TO}{p2:Pos}
theorem fj:PO X none VF:=by
 intro pins s σ H Q I h;rw [evalPart_none];exact A0d ⟨none,H,I,.none,h⟩
theorem cA (h:PE X e te):PO X (some e) (a1y te):=by
 intro pins s σ H Q I hw;rw [evalPart_some];refine cL (h pins s σ H _ I hw) fun u s1 zq=>?_;obtain ⟨x,H1,I1,r1,q1⟩:=zq;obtain ⟨i,rfl,q⟩:=q1;obtain ⟨t,rfl⟩:=r1;exact ⟨some i,H1,I1,.int i t,q⟩
inductive Yi (X:Cx) (pins:List (Prod Addr Obj)) (s:Shared) (σ:L2.St) (v:Value) (sl:Addr) (Q:VK):Prop
 | mk (T id:String) (_:typeLookup (.type T) "__getitem__"=pure (some (.builtin id))) (_:s.TypeIs v T) (_:wpAny 0x9 X.A (getItem v (.ref sl)) 0x45 X.xe s):Yi X pins s σ v sl Q
def SlR (X:Cx) (r:V->Option Int->Option Int->Hp->VK->Prop):Prop :=
 ∀ (pins:List 0x22) (s:Shared) (σ:St) (H:Hp) (x:V) (v vl vu:Value) (lo hi:Option Int) (sl:Addr) (Q:VK),Inv X pins σ H s->RelV x v->s.heap.IsSliceOf sl vl vu .none->IsPart vl lo->IsPart vu hi->r x lo hi H Q ->
  Yi X pins s σ v sl Q
def tSl (r:V->Option Int->Option Int->Hp->VK->Prop) (te:TE) (tl th:TO):TE:=fun σ H Q=>te σ H fun x H1=>tl σ H1 fun l H2=>th σ H2 fun u H3=>r x l u H3 Q
theorem dY {r:V->Option Int->Option Int->Hp->VK->Prop} (hr:SlR X r) (he:PE X e te) (hl:PO X lo tl) (hu:PO X hi th):PE X (.Subscript e (.Slice lo hi none p2) pos) (tSl r te tl th):=by
 intro pins s σ H Q I h;refine Subscript_ (cL 0x5A fun v s1 zq=>?_);obtain ⟨x,H1,I1,r1,q1⟩:=zq;refine wpAny_Slice (cL (hl pins s1 σ H1 _ I1 q1) fun vl s2 ⟨l,H2,I2,pl,q2⟩=>cL (hu pins s2 σ H2 _ I2 q2) fun vu s3 zq=>?_);obtain ⟨u,H3,I3,pu,q3⟩:=zq;rw [evalPart_none];refine A0d ?_;have I4:Inv X pins σ H3 { s3 with heap:=s3.heap.push { cls:=.type "slice",data:=.fields #[vl,vu,.none] } }:=I3.kept (t':=s3.toks) fun b ob q=>A0b _ q;obtain ⟨T,id,hT,ht,hg⟩:=hr pins { s3 with heap:=s3.heap.push { cls:=.type "slice",data:=.fields #[vl,vu,.none] } } σ H3 x v vl vu l u s3.heap.objs.size Q I4 r1 (Heap.IsSliceOf.new ..) pl pu q3
 show wpAny 0x9 X.A (subscriptTail e (.Slice lo hi none p2) v (.ref s3.heap.objs.size)) 0x45 X.xe { s3 with heap:=s3.heap.push { cls:=.type "slice",data:=.fields #[vl,vu,.none] } }
 exact tail_any (ops:=[.ref s3.heap.objs.size,v]) ht hT hg 0x16
def gw (xs:List V) (lo hi:Option Int):List V:=(xs.drop (HT.eV xs.length 0 lo)).take (HT.eV xs.length xs.length hi - HT.eV xs.length 0 lo)
theorem kI (xs:List V) (lo hi:Option Int):(gw xs lo hi).length<=xs.length:=by
 unfold gw;rw [A0G,A1z];lia
inductive rSlT (K:W.Frag) (x:V) (lo hi:Option Int) (H:Hp) (Q:VK):Prop
 | mk (a:Addr) (xs:List V) (_:x=.ref a) (_:bR K H a xs) (_:¬ (HT.eV xs.length 0 lo=0/\HT.eV xs.length xs.length hi=xs.length)) (_:∀ p,H p=none->Q (.ref p) (upd H p (.tup (gw xs lo hi)))):rSlT K x lo hi H Q
theorem Zt:SlR X (rSlT X.K):=by
 intro pins s σ H x v vl vu lo hi sl Q I rx hs pl pu h;obtain ⟨a,xs,rfl,hx,hw,q⟩:=h;cases rx;obtain ⟨its,r,ht,hz⟩:=I.tuple hx;have hlen:its.toArray.size=xs.length:=by rw [A0r];exact r.length.symm
 refine ⟨"tuple",_,A1r.lookup,ht.typeIs,?_⟩;refine HT.pY ht hs pl pu (by rw [hlen];exact hw) ?_ (by rw [hlen];exact hz);rw [hlen];refine ⟨.ref s.heap.objs.size,_,I.laid (t':=s.toks) (o:=.tup (gw xs lo hi)) (fun b ob q=>A0b _ q) (A0f _) ?_,rfl,q _ 0x48⟩;exact ⟨A0M (kI xs lo hi) hz,_,(r.drop (HT.eV xs.length 0 lo)).take (HT.eV xs.length xs.length hi - HT.eV xs.length 0 lo),IsTup.new _ _⟩
inductive Yj (K:W.Frag) (x y:V) (H:Hp) (Q:VK):Prop
 | mk (a b:Addr) (xs ys:List V) (_:x=.ref a) (_:y=.ref b) (_:bR K H a xs) (_:bR K H b ys) (_:xs≠[]) (_:xs.length+ys.length<=sizeLine) (_:(ys=[]->Q (.ref a) H)) (_:(ys≠[]->∀ p,H p=none->Q (.ref p) (upd H p (.tup (xs++ys))))):Yj K x y H Q
theorem Vals.yO (r:Vals xs us):us=[]↔xs=[]:=by
 cases r with
 | nil=>simp
 | cons _ _=>simp
theorem VG:nu X (binaryOp .Add) (Yj X.K):=by
 intro pins s σ H x y v u Q I rx ry h;obtain ⟨a,b,xs,ys,rfl,rfl,ha,hb,hx,hz,q1,q2⟩:=h;cases rx;cases ry;obtain ⟨its,r1,p1,_⟩:=I.tuple ha;obtain ⟨its2,r2,p2,_⟩:=I.tuple hb;refine HT.VD p1 p2 (fun z=>hx (r1.yO.mp z)) (fun z=>⟨.ref a,H,I,rfl,q1 (r2.yO.mp z)⟩) (fun z=>?_) (by rw [<- r1.length,<- r2.length];exact hz);refine ⟨.ref s.heap.objs.size,_,I.laid (t':=s.toks) (o:=.tup (xs++ys)) (fun b ob q=>A0b _ q) (A0f _) ?_,rfl,q2 (fun w=>z (r2.yO.mpr w)) _ 0x48⟩;exact ⟨by rw [iT];exact hz,_,r1.append r2,IsTup.new _ _⟩
end
def Yk (n:Nat) (i:Int):Option Nat:=if 0<=i then (if i<n then some i.toNat else none) else if -(n:Int)<=i then some (i+n).toNat else none
def wX {α:Type} (xs:List α) (i:Int):Option α:=(Yk xs.length i).bind fun j=>xs[j]?
theorem VH {i:Int} (h:Yk n i=some j):seqIndex? i n=some j/\j<n/\-(n:Int)<=i/\i<n:=by
 unfold Yk at h
 by_cases h0:0<=i
 ·rw [A0i h0] at h
  by_cases h1:i<n
  ·rw [A0i h1] at h;have e:i.toNat=j:=A0O h;exact ⟨by rw [seqIndex_of h0 h1,e],by lia,by lia,h1⟩
  ·rw [A0e h1] at h;cases h
 ·rw [A0e h0] at h
  by_cases h1:-(n:Int)<=i
  ·rw [A0i h1] at h;have e:(i+n).toNat=j:=A0O h;exact ⟨by rw [seqIndex_neg 0x2 h1,e],by lia,h1,by lia⟩
  ·rw [A0e h1] at h;cases h
theorem yP {α:Type}{xs:List α}{i:Int}{v:α} (h:wX xs i=some v):∃ j,seqIndex? i xs.length=some j/\xs[j]?=some v/\j<xs.length/\-(xs.length:Int)<=i/\i<xs.length:=by
 unfold wX at h;cases e:Yk xs.length i with
 | none=>rw [e] at h;cases h
 | some j =>
  rw [e] at h;obtain ⟨h1,h2,h3,h4⟩:=VH e;exact ⟨j,h1,h,h2,h3,h4⟩
theorem aH {α:Type}{xs:List α}{v:α} (h:xs[j]?=some v):wX xs (j:Int)=some v:=by
 have hj:j<xs.length:=(A0l.mp h).1;have e:Yk xs.length (j:Int)=some j:=by
  unfold Yk;rw [A0i 0x2,A0i 0x2];simp
 unfold wX;rw [e];exact h
theorem Ce {α:Type} (xs:List α) (v:α):wX (xs++[v]) (-1)=some v:=by
 have hl:(xs++[v]).length=xs.length+1:=by simp
 have e:Yk (xs++[v]).length (-1)=some xs.length:=by
  unfold Yk;rw [hl,A0e 0x7,A0i 0x2]
  congr 1
  lia
 unfold wX;rw [e]
 show (xs++[v])[xs.length]?=some v
 simp
def VJ (b:Expr):Prop:=∀ o i,subscripted b false o i=operate [o,i] (getItem o i)
def IxR (X:Cx) (r:R2):Prop :=
 ∀ (value slice:Expr) (pins:List 0x22) (s:Shared) (σ:St) (H:Hp) (x y:V) (v u:Value) (Q:VK),Inv X pins σ H s->RelV x v->RelV y u->r x y H Q ->
  subscripted slice false v u=operate [v,u] (getItem v u)->wpAny 0x9 X.A (subscriptTail value slice v u) 0x45 X.xe s
def MtR (X:Cx) (id:String) (r:V->List V->Hp->VK->Prop):Prop :=
 ∀ (pins:List 0x22) (s:Shared) (σ:St) (H:Hp) (x:V) (xs:List V) (v:Value) (us:List Value) (Q:VK),Inv X pins σ H s->RelV x v->Vals xs us->r x xs H Q ->
  wpAny 0x9 X.A (call (.builtin id) (v::us)) 0x45 X.xe s
section
variable {a b:Expr}{tb:TE}
theorem aO {r:R2} (hr:IxR X r) (ha:PE X a ta) (hb:PE X b tb) (hs:VJ b):PE X (.Subscript a b pos) (tOp r ta tb):=by
 intro pins s σ H Q I h;exact Subscript_ (Zg ha hb I h fun v u s2 x y H2 I2 rx ry q=>hr a b pins s2 σ H2 x y v u Q I2 rx ry q (hs _ _))
inductive Zu (K:W.Frag) (x y:V) (H:Hp) (Q:VK):Prop
 | mk (p:Addr) (xs:List V) (i:Int) (v:V) (_:x=.ref p) (_:y=.int i) (_:bT K H p xs) (_:wX xs i=some v) (_:Q v H):Zu K x y H Q
inductive rIxT (K:W.Frag) (x y:V) (H:Hp) (Q:VK):Prop
 | mk (p:Addr) (xs:List V) (i:Int) (v:V) (_:x=.ref p) (_:y=.int i) (_:bR K H p xs) (_:wX xs i=some v) (_:Q v H):rIxT K x y H Q
inductive rIxS (x y:V) (H:Hp) (Q:VK):Prop
 | mk (z:Str) (i:Int) (c:Nat) (_:x=.str z) (_:y=.int i) (_:z.length<=sizeLine) (_:wX z.cps.toList i=some c) (_:Q (.str ⟨#[c]⟩) H):rIxS x y H Q
theorem bI:IxR X (Zu X.K):=by
 intro value slice pins s σ H x y v u Q I rx ry h hs;obtain ⟨p,xs,i,z,rfl,rfl,hq,he,q⟩:=h;cases rx;obtain ⟨t,rfl⟩:=ry;obtain ⟨its,r,pl,hz⟩:=I.list hq;obtain ⟨j,h1,h2,h3,h4,h5⟩:=yP he;obtain ⟨w,ew,bG⟩:=r.get h2;have hl:=r.length;have hn:=uH;have fin:EP X pins σ Q w s:=⟨z,H,I,bG,q⟩
 by_cases h0:0<=i
 ·have hj:i.toNat=j:=by
   rw [seqIndex_of h0 h5] at h1;exact A0O h1
  exact item_listR pl.isList h0 0x2 (by rw [hj];simpa using ew) fin hs
 ·have hj:(i+(its.toArray.size:Int)).toNat=j:=by
   rw [seqIndex_neg 0x2 h4] at h1;rw [A0r,<- hl];exact A0O h1
  exact subscriptTail_builtinR (x:=w) pl.isList.typeIs A4X.lookup
   (wpAny_getItem_list_neg (Q:=fun r s'=>r=w/\EP X pins σ Q r s') pl.isList 0x2 (by rw [A0r] <;> lia) 0x2 (by rw [hj];simpa using ew) ⟨rfl,fin⟩) hs
theorem bA:IxR X (rIxT X.K):=by
 intro value slice pins s σ H x y v u Q I rx ry h hs;obtain ⟨p,xs,i,z,rfl,rfl,hq,he,q⟩:=h;cases rx;obtain ⟨t,rfl⟩:=ry;obtain ⟨its,r,pl,hz⟩:=I.tuple hq;obtain ⟨j,h1,h2,h3,h4,h5⟩:=yP he;obtain ⟨w,ew,bG⟩:=r.get h2;have hl:=r.length;have hn:=uH;have fin:EP X pins σ Q w s:=⟨z,H,I,bG,q⟩;exact subscriptTail_builtinR (x:=w) pl.typeIs slot_tuple_getitem.lookup
  (getItem_tuple (j:=j) (Q:=fun r s'=>r=w/\EP X pins σ Q r s') pl 0x2 0x2 (by rw [A0r,<- hl];exact h1) (by simpa using ew) ⟨rfl,fin⟩) hs
theorem Q9:IxR X rIxS:=by
 intro value slice pins s σ H x y v u Q I rx ry h hs;obtain ⟨z,i,c,rfl,rfl,hz,he,q⟩:=h;obtain ⟨t,rfl⟩:=rx;obtain ⟨t',rfl⟩:=ry;obtain ⟨j,h1,h2,h3,h4,h5⟩:=yP he;have hl:z.cps.toList.length=z.length:=by simp [Str.length]
 rw [hl] at h1 h4 h5;have hn:=uH;exact tail_any (typeIs_str s z t) slot_str_getitem.lookup (getItem_str (c:=c) (by
  have e1:decide (i < -(2 ^ 63:Int))=false:=A0s 0x2;have e2:decide (i>=2 ^ 63)=false:=A0s 0x2;rw [e1,e2,Bool.or_false]) (by rw [h1];simpa using h2) ⟨.str ⟨#[c]⟩,H,I.tok _,⟨_,rfl⟩,q⟩) hs
theorem yQ (lo hi:Option Int) (n:Nat):(sliceBounds lo hi none n).1=((HT.eV n 0 lo:Nat):Int)/\(sliceBounds lo hi none n).2.1=((HT.eV n n hi:Nat):Int)/\(sliceBounds lo hi none n).2.2=1:=by
 refine ⟨?_,?_,rfl⟩
 ·cases lo with
  | none=>simp [sliceBounds,HT.eV]
  | some i =>
   simp only [sliceBounds,HT.eV,Option.getD_none,show (1:Int) > 0 by decide,A3s]
   by_cases h:i<0
   ·simp only [h,A3s] <;> lia
   ·simp only [h,A2H] <;> lia
 ·cases hi with
  | none=>simp [sliceBounds,HT.eV]
  | some i =>
   simp only [sliceBounds,HT.eV,Option.getD_none,show (1:Int) > 0 by decide,A3s]
   by_cases h:i<0
   ·simp only [h,A3s] <;> lia
   ·simp only [h,A2H] <;> lia
theorem wG (its:List Value) (lo hi:Option Int):slicePick its.toArray lo hi none=((its.drop (HT.eV its.length 0 lo)).take (HT.eV its.length its.length hi - HT.eV its.length 0 lo)).toArray:=by
 obtain ⟨h1,h2,h3⟩:=yQ lo hi its.toArray.size;unfold slicePick;rw [h1,h2,h3];simp only [sliceRange_one,pick_run,A0r] <;> rfl
inductive rSlL (K:W.Frag) (x:V) (lo hi:Option Int) (H:Hp) (Q:VK):Prop
 | mk (a:Addr) (xs:List V) (_:x=.ref a) (_:bT K H a xs) (_:∀ p,H p=none->Q (.ref p) (upd H p (.lst (gw xs lo hi)))):rSlL K x lo hi H Q
theorem jC:SlR X (rSlL X.K):=by
 intro pins s σ H x v vl vu lo hi sl Q I rx hs pl pu h;obtain ⟨a,xs,rfl,hx,q⟩:=h;cases rx;obtain ⟨its,r,ht,hz⟩:=I.list hx;have hlen:=r.length;refine ⟨"list",_,A4X.lookup,ht.isList.typeIs,?_⟩;refine wpAny_getItem_list_slice ht.isList hs pl pu .none 0xA ?_ (by rw [A0r] <;> lia);rw [wG,<- hlen];refine ⟨.ref s.heap.objs.size,_,I.laid (t':=s.toks) (o:=.lst (gw xs lo hi)) (fun b ob q=>A0b _ q) (A0f _) ?_,rfl,q _ 0x48⟩;exact ⟨A0M (kI xs lo hi) hz,_,0,(r.drop (HT.eV xs.length 0 lo)).take (HT.eV xs.length xs.length hi - HT.eV xs.length 0 lo),A0n _ rfl⟩
def pZ:V->Bool
 | .non=>true
 | .bl _=>true
 | .int _=>true
 | .str _=>true
 | _=>false
def Yl:V->V->Bool
 | .non,.non=>true
 | .bl a,.bl b=>a==b
 | .bl a,.int b=>(if a then 1 else 0)==b
 | .int a,.bl b=>a==(if b then 1 else 0)
 | .int a,.int b=>a==b
 | .str a,.str b=>a==b
 | _,_=>false
theorem Zv {x:V}{v:Value} (ry:RelV y u) (rx:RelV x v) (fy:pZ y=true) (fx:pZ x=true):SeqAt.EqAt A s u v (Yl y x):=by
 cases y with
 | non =>
  cases ry;cases x with
  | non=>cases rx;exact SeqAt.EqAt.same _
  | bl b=>cases rx;exact SeqAt.EqAt.none_bool b
  | int b=>obtain ⟨t,rfl⟩:=rx;exact SeqAt.EqAt.none_int b t
  | str b=>obtain ⟨t,rfl⟩:=rx;exact SeqAt.EqAt.none_str b t
  | _=>exact absurd (show false=true from fx) A0o
 | bl a =>
  cases ry;cases x with
  | non=>cases rx;exact SeqAt.EqAt.bool_none a
  | bl b=>cases rx;exact SeqAt.EqAt.bool_bool a b
  | int b=>obtain ⟨t,rfl⟩:=rx;exact SeqAt.EqAt.bool_int a b t
  | str b=>obtain ⟨t,rfl⟩:=rx;exact SeqAt.EqAt.bool_str a b t
  | _=>exact absurd (show false=true from fx) A0o
 | int a =>
  obtain ⟨t',rfl⟩:=ry;cases x with
  | non=>cases rx;exact SeqAt.EqAt.int_none a t'
  | bl b=>cases rx;exact SeqAt.EqAt.int_bool a t' b
  | int b=>obtain ⟨t,rfl⟩:=rx;exact SeqAt.EqAt.int_int a t' b t
  | str b=>obtain ⟨t,rfl⟩:=rx;exact A4G a t' b t
  | _=>exact absurd (show false=true from fx) A0o
 | str a =>
  obtain ⟨t',rfl⟩:=ry;cases x with
  | non=>cases rx;exact SeqAt.EqAt.str_none a t'
  | bl b=>cases rx;exact SeqAt.EqAt.str_bool a t' b
  | int b=>obtain ⟨t,rfl⟩:=rx;exact A4H a t' b t
  | str b=>obtain ⟨t,rfl⟩:=rx;exact A4M a t' b t
  | _=>exact absurd (show false=true from fx) A0o
 | _=>exact absurd (show false=true from fy) A0o
def FT (x:V) (u:Value):Bool:=match u with
 | .none=>Yl .non x
 | .bool b=>Yl (.bl b) x
 | .int i _=>Yl (.int i) x
 | .str z _=>Yl (.str z) x
 | _=>false
theorem Qa {x:V} (r:RelV y u) (f:pZ y=true):FT x u=Yl y x:=by
 cases y with
 | non=>cases r;rfl
 | bl b=>cases r;rfl
 | int i=>obtain ⟨t,rfl⟩:=r;rfl
 | str z=>obtain ⟨t,rfl⟩:=r;rfl
 | _=>exact absurd (show false=true from f) A0o
theorem q8 {x:V}:∀ {xs:List V}{us:List Value},Vals xs us->xs.all pZ=true->us.any (FT x)=xs.any fun y=>Yl y x
 | _,_,.nil,_=>rfl
 | y::xs,u::us,.cons r t,f=>by
  rw [A2O,A0Y] at f;rw [A2t,A2t,Qa r f.1,q8 t f.2]
theorem nF {x:V}{v:Value} (rx:RelV x v) (fx:pZ x=true):∀ {xs:List V}{us:List Value},Vals xs us->xs.all pZ=true->∀ u∈us,SeqAt.EqAt A s u v (FT x u)
 | _,_,.nil,_=>fun u hu=>by cases hu
 | y::xs,u::us,.cons r t,f=>fun u' hu=>by
  rw [A2O,A0Y] at f;rcases List.mem_cons.mp hu with rfl | hu
  ·rw [Qa r f.1];exact Zv r rx f.1 fx
  ·exact nF rx fx t f.2 u' hu
def inV (x:V) (xs:List V):Bool:=xs.any fun y=>Yl y x
inductive rIn (K:W.Frag) (neg:Bool) (x y:V) (H:Hp) (Q:VK):Prop
 | mk (p:Addr) (xs:List V) (_:y=.ref p) (_:(bT K H p xs\/bR K H p xs)) (_:pZ x=true) (_:xs.all pZ=true) (_:Q (.bl (if neg then !inV x xs else inV x xs)) H):rIn K neg x y H Q
theorem iV:nu X (compareOp .In) (rIn X.K false):=by
 intro pins s σ H x y v u Q I rx ry h;obtain ⟨p,xs,rfl,hq,fx,fs,q⟩:=h;cases ry;rcases hq with hq | hq
 ·obtain ⟨its,r,pl,hz⟩:=I.list hq;refine SeqAt.in_listAt (FT x) pl.isList (fun w hw=>nF rx fx r fs w (by simpa using hw)) ⟨.bl _,H,I,rfl,?_⟩;rw [show its.toArray.any (FT x)=its.any (FT x) by simp,q8 r fs]
  exact q
 ·obtain ⟨its,r,pl,hz⟩:=I.tuple hq;refine SeqAt.in_tupleAt (FT x) pl (fun w hw=>nF rx fx r fs w (by simpa using hw)) ⟨.bl _,H,I,rfl,?_⟩;rw [show its.toArray.any (FT x)=its.any (FT x) by simp,q8 r fs]
  exact q
theorem yR:nu X (compareOp .NotIn) (rIn X.K true):=by
 intro pins s σ H x y v u Q I rx ry h;obtain ⟨p,xs,rfl,hq,fx,fs,q⟩:=h;cases ry;rcases hq with hq | hq
 ·obtain ⟨its,r,pl,hz⟩:=I.list hq;refine SeqAt.notIn_listAt (FT x) pl.isList (fun w hw=>nF rx fx r fs w (by simpa using hw)) ⟨.bl _,H,I,rfl,?_⟩;rw [show its.toArray.any (FT x)=its.any (FT x) by simp,q8 r fs]
  exact q
 ·obtain ⟨its,r,pl,hz⟩:=I.tuple hq;refine SeqAt.notIn_tupleAt (FT x) pl (fun w hw=>nF rx fx r fs w (by simpa using hw)) ⟨.bl _,H,I,rfl,?_⟩;rw [show its.toArray.any (FT x)=its.any (FT x) by simp,q8 r fs]
  exact q
theorem dI:gZ X (.builtin "len") (fun xs H Q=>∃ p ys,xs=[.ref p]/\(bT X.K H p ys\/bR X.K H p ys)/\Q (.int ys.length) H):=by
 intro pins s σ H xs us Q I r h;obtain ⟨p,ys,rfl,hq,q⟩:=h;obtain ⟨u,rfl,rx⟩:=vals1 r;cases rx;have hn:=uH;rcases hq with hq | hq
 ·obtain ⟨its,r',pl,hz⟩:=I.list hq;have hlen:=r'.length;exact Calls.call_len_list pl.isList (by simp only [A0r] <;> lia) ⟨.int ys.length,H,I.tok _,⟨s.toks+1,by rw [A0r,hlen]⟩,q⟩
 ·obtain ⟨its,r',pl,hz⟩:=I.tuple hq;have hlen:=r'.length;exact len_tuple pl (by simp only [A0r] <;> lia) ⟨.int ys.length,H,I.tok _,⟨s.toks+1,by rw [A0r,hlen]⟩,q⟩
theorem yS:gZ X (.builtin "len") (fun xs H Q=>∃ z,xs=[.str z]/\z.length<=sizeLine/\Q (.int z.length) H):=by
 intro pins s σ H xs us Q I r h;obtain ⟨z,rfl,hz,q⟩:=h;obtain ⟨u,rfl,t,rfl⟩:=vals1 r;have hn:=uH;exact len_str 0x2 ⟨.int z.length,H,I.tok _,⟨_,rfl⟩,q⟩
theorem yU:gZ X (.type "list") (fun xs H Q=>∃ p ys,xs=[.ref p]/\(bT X.K H p ys\/bR X.K H p ys)/\∀ l,H l=none->Q (.ref l) (upd H l (.lst ys))):=by
 intro pins s σ H xs us Q I r h;obtain ⟨p,ys,rfl,hq,q⟩:=h;obtain ⟨u,rfl,rx⟩:=vals1 r;cases rx;have fin:∀ (its:List Value),Vals ys its->ys.length<=sizeLine->∀ (h':Heap) (c':Nat),(∀ b o',s.heap.get? b=some o'->h'.get? b=some o') ->
   h'.get? s.heap.objs.size=some { cls:=.type "list",dict:=none,data:=.seq its.toArray c',slots:=#[] }->EP X pins σ Q 0x17 { s with heap:=h' }:=fun its r' hz h' c' kp e =>
  ⟨.ref s.heap.objs.size,_,I.laid (t':=s.toks) kp (A0f _) (show cM X.prog X.w _ h' _ (.lst ys) from ⟨hz,its,c',r',e⟩),rfl,q _ 0x48⟩
 rcases hq with hq | hq
 ·obtain ⟨its,r',pl,hz⟩:=I.list hq;have hlen:=r'.length;obtain ⟨o,ho,hc,n,hd⟩:=pl.isList;exact call_list_seq p (.inl rfl) ho hc hd (fun h' c' kp e=>fin its r' hz h' c' kp e) (by simp only [A0r] <;> lia)
 ·obtain ⟨its,r',pl,hz⟩:=I.tuple hq;have hlen:=r'.length;obtain ⟨o,ho,hc,n,hd⟩:=pl;exact call_list_seq p (.inr rfl) ho hc hd (fun h' c' kp e=>fin its r' hz h' c' kp e) (by simp only [A0r] <;> lia)
def tyV (K:PySem.W.Frag) (T:String) (x:V) (H:Hp):Prop:=match x with
 | .str _=>T="str"
 | .int _=>T="int"
 | .ref p=>(T="list"/\∃ xs,bT K H p xs)\/(T="tuple"/\∃ o,K.lookup p=some o/\o.cls=.type "tuple"/\o.dict=none) \/
   (T="dict"/\((∃ kvs,H p=some 0x24)\/∃ kvs,H p=some (.dT kvs)))\/(T="set"/\∃ S n,H p=some (.set S n))
 | _=>False
theorem Qc {x:V}{v:Value} (I:Inv X pins σ H s) (r:RelV x v) (ty:tyV X.K T x H) :
  s.TypeIs v T/\∀ a,v=.ref a->∃ ob,s.heap.get? a=some ob/\ob.dict=none:=by
 cases x with
 | str z =>
  obtain ⟨t,rfl⟩:=r;cases (show T="str" from ty)
  exact ⟨typeIs_str s z t,fun _ e=>nomatch e⟩
 | int i =>
  obtain ⟨t,rfl⟩:=r;cases (show T="int" from ty)
  exact ⟨typeIs_int s i t,fun _ e=>nomatch e⟩
 | ref p =>
  cases r;rcases ty with ⟨rfl,xs,hq⟩ | ⟨rfl,o,hk,hc,hd⟩ | ⟨rfl,hk⟩ | ⟨rfl,S,n,hk⟩
  ·obtain ⟨its,_,pl,_⟩:=I.list hq;refine ⟨pl.isList.typeIs,fun a e=>?_⟩;cases e;obtain ⟨o,n,e,c,hd,_⟩:=pl;exact ⟨o,e,hd⟩
  ·refine ⟨⟨o,I.oU p o hk,hc⟩,fun a e=>?_⟩;cases e;exact ⟨o,I.oU _ o hk,hd⟩
  ·have z:∃ o,s.heap.get? p=some o/\o.ExactDict:=by
    rcases hk with ⟨kvs,hk⟩ | ⟨kvs,hk⟩
    ·obtain ⟨_,_,_,_,o,_,_,e,ex,_⟩:=I.hok p _ hk;exact ⟨o,e,ex⟩
    ·obtain ⟨_,_,_,_,o,_,_,e,ex,_⟩:=I.hok p _ hk;exact ⟨o,e,ex⟩
   obtain ⟨o,e,ex⟩:=z;refine ⟨⟨o,e,ex.1⟩,fun a e2=>?_⟩;cases e2;exact ⟨o,e,ex.2.1⟩
  ·obtain ⟨o,_,_,_,e,ex,_⟩:=I.hok p _ hk;refine ⟨⟨o,e,ex.1⟩,fun a e2=>?_⟩;cases e2;exact ⟨o,e,ex.2.1⟩
 | _=>exact False.elim ty
def tBM0 (K:PySem.W.Frag) (T:String) (r:V->List V->Hp->VK->Prop) (to:TE):TE:=fun σ H Q=>to σ H fun x H1=>tyV K T x H1/\r x [] H1 Q
def tBM (K:PySem.W.Frag) (T:String) (r:V->List V->Hp->VK->Prop) (to:TE) (t:TA):TE:=fun σ H Q=>to σ H fun x H1=>tyV K T x H1/\t σ H1 fun xs H2=>r x xs H2 Q
variable {o:Expr}{es:List Expr}{to:TE}{t:TA}{id:String}{r:V->List V->Hp->VK->Prop}
theorem Zw (pa:PlainAttrs T) (slot:Slot T name id) (hty:typeOf (.builtin id)=pure (.type "method_descriptor")) (hm:MtR X id r) (ho:PE X o to)
  (hbase:attributeBase o name X.env (eval o X.env)=eval o X.env:=by rfl) (hline:(apos.endLine==cpos.line)=true:=by rfl):PE X (.Call (.Attribute o name apos) [] [] cpos) (tBM0 X.K T r to):=by
 intro pins s σ H Q I h;refine A2V hbase hline (cL (ho pins s σ H _ I h) fun v s1 zq=>?_);obtain ⟨x,H1,I1,r1,ty,q1⟩:=zq;obtain ⟨h1,h2⟩:=Qc I1 r1 ty;exact ⟨T,id,pa,slot,hty,h1,h2,A1w rfl (A3w (hm pins s1 σ H1 x [] v [] Q I1 r1 .nil q1))⟩
theorem jj (pa:PlainAttrs T) (slot:Slot T name id) (hty:typeOf (.builtin id)=pure (.type "method_descriptor")) (hm:MtR X id r) (ho:PE X o to) (ha:PA X (e::es) t)
  (hbase:attributeBase o name X.env (eval o X.env)=eval o X.env:=by rfl)
  (hfew:((backTo cpos (starEach (e::es) X.env)).all (fun x=>!x.1)&&(backToKw cpos (keywordEach [] X.env)).all (fun x=>x.1.isSome)
   &&decide ((e::es).length+([]:List Keyword).length+(if ([]:List Keyword).isEmpty then 0 else 1)<30))=true:=by rfl)
  (hline:(apos.endLine==cpos.line)=true:=by rfl) (hs:starEach (e::es) X.env=0x53::starEach es X.env:=by rfl) (hplain:(backTo cpos (starEach es X.env)).any (·.1)=false:=by rfl) :
  PE X (.Call (.Attribute o name apos) (e::es) [] cpos) (tBM X.K T r to t):=by
 intro pins s σ H Q I h;refine wpAny_Call_method_late hbase hfew hline rfl (cL (ho pins s σ H _ I h) fun v s1 zq=>?_);obtain ⟨x,H1,I1,r1,ty,q1⟩:=zq;obtain ⟨h1,h2⟩:=Qc I1 r1 ty;refine ⟨T,id,pa,slot,hty,h1,h2,?_⟩;have hA:=ha cpos pins s1 σ H1 _ I1 q1;rw [hs] at hA ⊢;refine A1w (by show (false||(backTo cpos (starEach es X.env)).any (·.1))=false;rw [hplain] <;> rfl) (A3n ?_)
 exact cL hA fun us s2 ⟨vs,H2,I2,r2,q2⟩=>hm pins s2 σ H2 x vs v us Q I2 r1 r2 q2
end
def MtM (X:Cx) (id:String) (r:V->List V->Hp->VK->Prop):Prop :=
 ∀ (pins:List 0x22) (s:Shared) (σ:St) (H:Hp) (x:V) (xs:List V) (v:Value) (us:List Value) (Q:VK),Inv X pins σ H s->RelV x v->Vals xs us->r x xs H Q ->
  wpAny 0x9 X.A (call (.builtin id) (v::us)) 0x45 X.xe s
theorem Vals.one:∀ {x:V}{us:List Value},Vals [x] us->∃ u,us=[u]/\RelV x u
 | _,_,.cons r .nil=>⟨_,rfl,r⟩
theorem Vals.zero:∀ {us:List Value},Vals [] us->us=[]
 | _,.nil=>rfl
section
variable {zs:List V}
theorem Inv.Zx {its':List Value}{f:Array Value->Array Value} (I:Inv X pins σ H s) (hH:H l=some (.lst xs))
  (e:s.heap.get? l=some { cls:=.type "list",data:=.seq its.toArray n }) (hf:f its.toArray=its'.toArray) (hv:Vals ys its') (hz:ys.length<=sizeLine) :
  Inv X pins σ (upd H l (.lst ys)) { s with heap:=s.heap.update l (Obj.mapSeq f),toks:=t' }:=by
 have q:=PySem.IsL.update e f;rw [hf] at q;refine I.write (x:=l) (e:=l) (by rw [hH];exact trivial) (.inl rfl) (fun b' u hb hu=>(A3T s.heap (Obj.mapSeq f) (A0k hb)).trans hu) ⟨_,q⟩ ?_;exact ⟨hz,its',_,hv,q⟩
theorem Inv.lnew (I:Inv X pins σ H s) (hv:Vals ys its) (hz:ys.length<=sizeLine) :
  Inv X pins σ (upd H s.heap.objs.size (.lst ys)) { s with heap:=s.heap.push { cls:=.type "list",data:=.seq its.toArray },toks:=t' } :=
 I.laid (fun _ _ q=>A0b _ q) (A0f _) ⟨hz,its,0,hv,A0n _ rfl⟩
theorem Inv.fresh (I:Inv X pins σ H s):H s.heap.objs.size=none:=I.hok.fresh (A0f _)
theorem Inv.Qd (I:Inv X pins σ H s) (hH:H l=some (.lst xs)):xs.length<=sizeLine/\∃ (its:List Value) (n:Nat),Vals xs its/\xs.length=its.length/\s.heap.get? l=some { cls:=.type "list",data:=.seq its.toArray n }:=by
 obtain ⟨z,its,n,r,e⟩:=I.hok l _ hH;exact ⟨z,its,n,r,r.length,e⟩
end
inductive Jk (x:V) (vs:List V) (H:Hp) (Q:VK):Prop
 | mk (l:Addr) (xs:List V) (y:V) (_:x=.ref l) (_:vs=[y]) (_:H l=some (.lst xs)) (_:xs.length<sizeLine) (_:Q .non (upd H l (.lst (xs++[y])))):Jk x vs H Q
theorem dR:MtM X "list.append" Jk:=by
 intro pins s σ H x vs v us Q I rx rv h;obtain ⟨l,xs,y,rfl,rfl,hH,hz,q⟩:=h;cases rx;obtain ⟨u,rfl,ru⟩:=rv.one;obtain ⟨z,its,n,r,hl,e⟩:=I.Qd hH;refine call_meets F.slot_list_append ⟨_,e,rfl⟩ F.entry_list_append (F.args_list_append_2 _ _) (PySem.list_append l its.toArray n u (by rw [A0r];lia)) ⟨e,?_⟩;refine ⟨.non,_,I.Zx (its':=its++[u]) hH e 0xA (r.append (.cons ru .nil)) ?_,rfl,q⟩;rw [iT,A0t];lia
inductive Qe (x:V) (vs:List V) (H:Hp) (Q:VK):Prop
 | mk (l:Addr) (xs:List V) (_:x=.ref l) (_:vs=[]) (_:H l=some (.lst xs)) (_:Q .non (upd H l (.lst []))):Qe x vs H Q
theorem Qf:MtM X "list.clear" Qe:=by
 intro pins s σ H x vs v us Q I rx rv h;obtain ⟨l,xs,rfl,rfl,hH,q⟩:=h;cases rx;have hus:=rv.zero;subst hus;obtain ⟨z,its,n,r,hl,e⟩:=I.Qd hH;refine call_meets F.slot_list_clear ⟨_,e,rfl⟩ F.entry_list_clear (F.args_list_clear_1 _) (AutoSeq1.list_clear_list_0 l its.toArray n (by rw [A0r];lia)) ⟨e,?_⟩;exact ⟨.non,_,I.Zx (its':=[]) (ys:=[]) hH e rfl .nil (A0Z _),rfl,q⟩
inductive rCat (x y:V) (H:Hp) (Q:VK):Prop
 | mk (l b:Addr) (xs zs:List V) (_:x=.ref l) (_:y=.ref b) (_:H l=some (.lst xs)) (_:H b=some (.lst zs)) (_:xs.length+zs.length<=sizeLine) (_:∀ p,H p=none->Q (.ref p) (upd H p (.lst (xs++zs)))):rCat x y H Q
theorem pC:nu X (binaryOp .Add) rCat:=by
 intro pins s σ H x y v u Q I rx ry h;obtain ⟨l,b,xs,zs,rfl,rfl,hH,hB,hz,q⟩:=h;cases rx;cases ry;obtain ⟨z,its,n,r,hl,e⟩:=I.Qd hH;obtain ⟨z2,its2,n2,r2,hl2,e2⟩:=I.Qd hB;refine PySem.P.add_list e e2 ?_ (by rw [A0r,A0r];lia);have ea:its.toArray++its2.toArray=(its++its2).toArray:=by simp
 rw [ea];exact ⟨.ref _,_,I.lnew (t':=s.toks) (r.append r2) (by rw [iT];lia),rfl,q _ I.fresh⟩
end L2
namespace Att
open PySem PySem.W PySem.Calls PyProof.Rows
theorem tu {P:Params}:∀ (ns:List Int) (vs:List Value),WellAll P h vs (ns.map WData.int)->IntsAre vs ns:=by
 intro ns
 induction ns with
 | nil =>
  intro vs w;rw [A3U] at w;cases w;exact .nil
 | cons n ns ih =>
  intro vs w;rw [A0g] at w;cases w with
  | cons a b =>
   cases a;exact .cons _ _ (ih _ b)
theorem Mp {l:OpenLaw} (hn:l.most=some n) {P:Params}{args:List WData}{vals:List Value}
  (hpre:l.row.toRowW.claim.pre args=true) (hwl:WellAll P h vals args) :
  ∃ a vs ns,vals=[Value.ref a]/\args=[WData.list (ns.map WData.int)]/\h.get? a=some { cls:=.type "list",data:=.seq vs.toArray }/\IntsAre vs ns/\ns.length<=n:=by
 have hsh:WShape.hasAll [] args [.list .int]=true:=(pre_splitW hpre).1;have hc:l.pre.holds [] { args:=args }=true:=(pre_splitW hpre).2;obtain ⟨d,r,rfl,h1,h2⟩:=hasAllW_cons hsh;obtain rfl:=hasAllW_nil h2;obtain ⟨xs,rfl,h3⟩:=hasW_list h1;obtain ⟨ns,rfl⟩:=items_int h3;have hlen:ns.length<=n:=by
  unfold OpenLaw.pre at hc;have h4:(WTm.not (.lt (.lit (.int (n:Int))) (.len (.arg 0)))).holds [] { args:=[.list (ns.map .int)] }=true:=by
   have h4:=(holds_andW hc).1;rw [hn] at h4;exact h4
  have h5:=condW_of h4 (w_not (w_lt w_lit (w_len_list (w_arg rfl))));rw [cg] at h5;refine Nat.le_of_not_lt fun q=>?_;have q':(n:Int)<((ns.length:Nat):Int):=by lia
  first
   | (rw [A0j q'] at h5;exact absurd h5 0x7)
   | (simp at h5;lia)
 cases hwl with
 | cons w1 w2 =>
  cases w2;cases w1 with
  | list ho hall=>exact ⟨_,_,ns,rfl,rfl,ho,tu ns _ hall,hlen⟩
theorem Mq (l:OpenLaw) (args:List WData):l.row.toRowW.claim.post args (.bool true) args=true :=
 postW_of (r:=l.row.toRowW) (X:=(true==true))
  (show WShape.has [] (.bool true) .bool=true by first | rfl | decide | simp [WShape.has,WShape.arms,WShape.armsAll])
  (show (WTm.eq .res (.lit (.bool true))).value [] { args:=args,res:=some (.bool true),after:=args }=some (.bool (true==true)) from w_eq_bool (w_res rfl) w_lit) rfl
theorem Cg {l:OpenLaw}{q:Program}{d:DefRec}
  (hn:l.most=some n) (hdf:d.params.defaults=[])
  (call:∀ (w:World) (s₀ s₁:Shared) (mg mb:Str->Option Value) (fa:Addr) (o:Obj) (pm cd doc:Value) (a:Addr) (vs:List Value) (ns:List Int),
   Ground q loose [] XP w s₀ mg mb s₁.heap->YP w s₁.heap ->
   s₁.heap.get? fa=some o->o.data=.func (docDef d.name d.params d.body d.scope pm cd doc)->s₁.heap.CodeRec cd d.name->mg d.name=some (.ref fa) ->
   s₁.heap.get? a=some { cls:=.type "list",data:=.seq vs.toArray }->IntsAre vs ns->ns.length<=n->s₁.gens=#[] ->
   codeAny (model l.prog w) callerA (.call (.ref fa) ⟨[.ref a],[]⟩) 0x4D s₁) :
  WalkO q loose XP YP l.row.toRowW d [] (fun f vs=>PySem.call f vs):=by
 intro w s₀ s₁ mg mb G Y fa o pm cd doc dV kV ho hd hcd hD hmg hg args vals as hpre hlay hrd hwl hlo;obtain rfl:dV=.none:=Dflts.none hD hdf;obtain rfl:kV=.none:=Dflts.noKw hD;obtain ⟨a,vs,ns,rfl,rfl,hobj,hints,hlen⟩:=Mp hn hpre hwl;refine enter_call (A3r (call w s₀ s₁ mg mb fa o pm cd doc a vs ns G Y ho (fd_plain hd) hcd hmg hobj hints hlen hg) fun r s' hq=>?_);obtain ⟨rfl,h2,h3,h4⟩:=hq;exact ⟨.inl ⟨.bool true,.bool true,[],rfl,fun _=>rfl,.bool true,Mq l _,fun _=>⟨List.Pairwise.nil,fun _ hm=>(nomatch hm)⟩⟩,h2,h3,h4⟩
end Att
namespace L2
open PySem PySem.Spec PyProof.Rows
theorem wY:∀ {vs:List Value}{ns:List Int},IntsAre vs ns->Vals (ns.map V.int) vs
 | _,_,.nil=>.nil
 | _,_,.cons n t h=>.cons ⟨t,rfl⟩ (wY h)
def Only (H:Hp):Prop:=∀ b,H b=none\/∃ o xs,H b=some (.gM o (.lst xs))
theorem Qg {mb:Str->Option Value}{k:Nat}{fa:Addr}{s₁:Shared}{vs:List Value}{ns:List Int}
  (KX:K.In s₁.heap) (hns:s₁.heap.Ns mainGlobals mg) (hb:s₁.heap.Ns builtinsNs mb) (hbb:∀ x:Str,x≠"__name__"->mb x=bootBuiltins x) (hlim:s₁.heap.NoLimit) (hg:s₁.gens=#[])
  (ha:s₁.heap.get? a=some { cls:=.type "list",data:=.seq vs.toArray }) (hi:IntsAre vs ns) (hl:ns.length<=sizeLine) (hr:cP k callerA)
  (F:∀ base:Heap,K.In base->base.Ns mainGlobals mg->aL P w K mg base CX k fa fd [x] sp) (hbind:∀ (s:Shared) (u:Value),BindsTo s fd ⟨[u],[]⟩ [(x,u)])
  (hsp:∀ H:Hp,Only H->bT K H a (ns.map V.int)->sp [.ref a] H (fun v _=>v=.bl true) fun _ _ _=>False)
  (hCX:∀ H e s',CX [] H s₁ (fun _ _ _=>False) e s'->False) :
  codeAny (model P w) callerA (.call (.ref fa) ⟨[.ref a],[]⟩) 0x4D s₁:=by
 have rv:=wY hi;have lenV:=hi.length;have core:∀ H:Hp,Only H->bT K H a (ns.map V.int)->nZ P w H s₁.heap->(∀ b,H b≠none->b=a)->(H a≠none->K.lookup a=none) ->
   codeAny (model P w) callerA (.call (.ref fa) ⟨[.ref a],[]⟩) 0x4D s₁:=by
  intro H hO hS hok hA hK;have Jl:∀ {b:Addr}{o:Obj},s₁.heap.get? b=some o->H b=none->(yJ s₁.heap H).get? b=some o:=fun e n=>OD e n;have noA:∀ {b:Addr}{o:Obj}{es:Array DictEntry}{ep:Nat},s₁.heap.get? b=some o->o.data=.dict es ep->H b=none:=fun {b o es ep} e d=>by
   cases q:H b with
   | none=>rfl
   | some u =>
    have e':b=a:=hA b (by rw [q];simp);subst e';rw [ha] at e;cases e;have d':Data.seq vs.toArray _=Data.dict es ep:=d;cases d'
  have nsK:∀ {b:Addr}{m:Str->Option Value},s₁.heap.Ns b m->(yJ s₁.heap H).Ns b m:=fun {b m} ⟨o,es,ep,e,d,r⟩=>⟨o,es,ep,Jl e (noA e d),d,r⟩;have hKb:K.In (yJ s₁.heap H):=fun b o e=>Jl (KX b o e) (by
   cases q:H b with
   | none=>rfl
   | some u =>
    have e':b=a:=hA b (by rw [q];simp);subst e';rw [hK (by rw [q];simp)] at e;cases e)
  have hM:Mod K mg (yJ s₁.heap H):=⟨hKb,nsK hns,⟨mb,nsK hb,hbb⟩,let ⟨mc,h1,h2⟩:=hlim;⟨mc,nsK h1,h2⟩⟩
  have e0:wF P w K mg (yJ s₁.heap H) callerA [] s₁ H:=⟨rfl,hM,fun b o e=>Vu e,Nat.le_of_eq (Lw _ _),trivial,fun b hb=>absurd (show b∈([]:List Addr) from hb) 0xA,hok,.of_eq hg⟩
  refine A3r ((F _ hKb (nsK hns)).run callerA [] s₁ H ⟨[.ref a],[]⟩ [.ref a] [.ref a] _ _ hr e0 (hbind s₁ (.ref a)) (.cons rfl .nil) (hsp H hO hS)) fun r s' h=>?_;cases r with
  | error e=>exact (hCX H e s' h).elim
  | ok fl =>
   cases fl with
   | next=>exact False.elim h
   | brk=>exact False.elim h
   | cont=>exact False.elim h
   | ret u =>
    obtain ⟨v,H',os,bare,un,hok',r',q⟩:=h;have q':v=.bl true:=q;subst q';obtain rfl:u=Value.bool true:=r';refine ⟨rfl,OldK.of_keep fun b o e=>?_,os,bare⟩;cases q:H b with
    | none=>exact un.keep b o e q (by intro z;exact absurd (show b∈([]:List Addr) from z) 0xA) 0xA
    | some u =>
     rcases hO b with z | ⟨ob,xs,z⟩
     ·rw [q] at z;cases z
     ·have z2:=un.uz b ob _ z;obtain ⟨e1,_⟩:=hok b _ z;obtain ⟨e2,_⟩:=hok' b _ z2;rw [e] at e1;cases e1;exact e2
 cases hk:K.lookup a with
 | some o =>
  have e:=KX a o hk;rw [ha] at e;cases e;refine core (fun _=>none) (fun _=>.inl rfl) (.inr ⟨_,vs.toArray,_,hk,rfl,rfl,rfl,by rw [A0r,lenV];exact hl,by simpa using rv⟩) (fun b u z=>by have z':(none:Option HO)=some u:=z;cases z') (fun b z=>absurd rfl z) fun z=>absurd rfl z
 | none =>
  refine core (fun b=>if b=a then some (.gM { cls:=.type "list",data:=.seq vs.toArray } (.lst (ns.map V.int))) else none) (fun b=>?_) (.inl (.inr ⟨{ cls:=.type "list",data:=.seq vs.toArray },A0i rfl⟩)) (fun b u z=>?_) (fun b z=>?_) fun _=>hk
  ·by_cases hb:b=a
   ·exact .inr ⟨_,_,A0i hb⟩
   ·exact .inl (A0e hb)
  ·by_cases hb:b=a
   ·have z':=(A0i hb).symm.trans z;cases z';subst hb;exact ⟨ha,by rw [cg];exact hl,vs,_,rv,ha⟩
   ·have z':=(A0e hb).symm.trans z;cases z'
  ·by_cases hb:b=a
   ·exact hb
   ·exact absurd (A0e hb) z
theorem VL {l:PySem.W.OpenLaw}{k:Nat}{q:Program}{d:DefRec}{K:Params->PySem.W.Frag}{CX:World->Jf}{sp:World->Sp}
  (hn:l.most=some n) (hn2:n<=sizeLine) (hdf:d.params.defaults=[]) (hr:cP k callerA)
  (hY:∀ (w:World) (h:Heap),YP w h->(K w.params).In h)
  (F:∀ (w:World) (mg:Str->Option Value) (fa:Addr) (h:Heap),(K w.params).In h->h.Ns mainGlobals mg->mg d.name=some (.ref fa) ->
   ∃ fd:FuncData,(∀ (s:Shared) (u:Value),BindsTo s fd ⟨[u],[]⟩ [(x,u)]) /\
    ∀ base:Heap,(K w.params).In base->base.Ns mainGlobals mg->aL l.prog w (K w.params) mg base (CX w) k fa fd [x] (sp w))
  (hsp:∀ (w:World) (H:Hp) (a:Addr) (ns:List Int),ns.length<=n->Only H->bT (K w.params) H a (ns.map V.int)->sp w [.ref a] H (fun v _=>v=.bl true) fun _ _ _=>False)
  (hCX:∀ (w:World) (H:Hp) (s:Shared) (e:Value) (s':Shared),CX w [] H s (fun _ _ _=>False) e s'->False) :
  PySem.W.WalkO q loose XP YP l.row.toRowW d [] (fun f vs=>PySem.call f vs):=by
 refine Att.Cg hn hdf fun w s₀ s₁ mg mb fa o pm cd doc a vs ns G Y ho hd hcd hmg hobj hints hlen hg=>?_;have KX:=hY w _ Y;obtain ⟨fd,hb,hF⟩:=F w mg fa _ KX G.T.g hmg;exact Qg KX G.T.g G.T.b G.T.builtins G.T.nolimit hg hobj hints (A0M hlen hn2) hr hF hb (fun H hO hS=>hsp w H a ns hlen hO hS) fun H e s'=>hCX w H s₁ e s'
def inClass (s:Stmt) (j:Nat):Stmt:=match s with
 | .ClassDef _ _ _ body _ _ _ _ _ _ _=>body.getD j (.Pass ⟨0,0,0,0⟩)
 | _=>.Pass ⟨0,0,0,0⟩
def mG (s:Stmt):Arguments:=match s with
 | .FunctionDef _ a _ _ _ _ _ _ _ _=>a
 | _=>{ posonlyargs:=[],args:=[],vararg:=none,kwonlyargs:=[],kw_defaults:=[],kwarg:=none,defaults:=[] }
def je (s:Stmt):List Stmt:=match s with
 | .FunctionDef _ _ b _ _ _ _ _ _ _=>b
 | _=>[]
def aJ (s:Stmt):Scope:=match s with
 | .FunctionDef _ _ _ _ _ _ sc _ _ _=>sc
 | _=>{ kind:=.function,names:=[],isGenerator:=false,isCoroutine:=false }
abbrev bN:Jf:=fun _ _ _ _ _ _=>False
abbrev E0:XK:=fun _ _ _=>False
theorem aY:Passes bN X E0:=fun _ _ _ _ _ _ _ h=>h.elim
structure fK (K:PySem.W.Frag) (x qual:Str) (st:Stmt) (f:Addr) (fd:FuncData):Prop where
 ex:∃ (oc:Value) (od:Option Addr) (kV doc pm:Value) (an:Option Addr) (cdv ct:Value) (osl:Array (Option Value)),
  fd=PySem.W.fnOf x qual (mG st) (je st) (aJ st) .none kV doc pm an cdv ct/\K.lookup f=some ⟨oc,od,.func fd,osl⟩/\PySem.W.codeIn K cdv qual=true
 kp:PySem.W.keepIn K (.ref f)=true
theorem fK.ok {k:Nat} (F:fK K x qual st f fd) (S:aQ N ps (aJ st)) (len:∀ vs H Q E,sp vs H Q E->vs.length=ps.length)
  (hbody:∀ (cdv:Value) (A:Around) (outer:List Env) (s:Shared) (H:Hp) (vs:List V) (Q:VK) (E:XK),cP k (A.deeper (envOfC qual (aJ st) s.heap.objs.size f cdv))->sp vs H Q E ->
   ∃ t,Fp (Mj bN P w K mg base N qual (aJ st) f cdv A outer s H E).nox (je st) t/\t { nx:=fun _ H'=>Q .non H',rt:=Q } (start N vs) H):aL P w K mg base bN (k+1) f fd ps sp:=by
 obtain ⟨oc,od,kV,doc,pm,an,cdv,ct,osl,rfl,lk,hcd⟩:=F.ex;refine a1x lk hcd S len fun A outer s H vs Q E hr hsp=>?_;obtain ⟨t,h,q⟩:=hbody cdv A outer s H vs Q E hr hsp;exact ⟨t,h.nox,q⟩
theorem fK.binds (F:fK K x qual st f fd)
  (h:∀ (kV doc pm:Value) (an:Option Addr) (cdv ct:Value) (us:List Value),us.length=ps.length->bindArgs (PySem.W.fnOf x qual (mG st) (je st) (aJ st) .none kV doc pm an cdv ct) ⟨us,[]⟩=pure (ps.zip us)):Binds K fd ps []:=by
 obtain ⟨oc,od,kV,doc,pm,an,cdv,ct,osl,rfl,lk,hcd⟩:=F.ex;exact .all (h kV doc pm an cdv ct)
theorem Qh {oc:Value}{od an:Option Addr}{osl:Array (Option Value)}{kV doc pm cdv ct:Value} (l:K.lookup f=some ⟨oc,od,.func (PySem.W.fnOf x qual (mG st) (je st) (aJ st) .none kV doc pm an cdv ct),osl⟩)
  (c:PySem.W.codeIn K cdv qual=true) (k:PySem.W.keepIn K (.ref f)=true):fK K x qual st f (PySem.W.fnOf x qual (mG st) (je st) (aJ st) .none kV doc pm an cdv ct):=⟨⟨oc,od,kV,doc,pm,an,cdv,ct,osl,rfl,l,c⟩,k⟩
theorem wZ (h:n<=1000):n<sizeLine:=A0X h 0x7
theorem pv (i:Nat)  (hN:X.N[i]?=some x:=by rfl) (hv:Vis X.env.scope x:=by first | exact Or.inl rfl | exact Or.inr 0x8 | exact Or.inr (Or.inr rfl)) (hd:0x31=false:=by decide)
  (hcd:(x==("__classdict__" : Str))=false:=by decide):PE X (.Name x pos) (Bu i):=Z9 hN hv hd hcd
theorem cu {A:Prop} (h:B):if false=true then A else B:=by
 rw [A0e A0o];exact h
theorem dB {A:Prop} (h:A):if true=true then A else B:=by
 rw [A0i rfl];exact h
theorem iQ {c A:Prop} [Decidable c] (h1:c->A) (h2:¬ c->B):if c then A else B:=by
 by_cases h:c
 ·rw [A0i h];exact h1 h
 ·rw [A0e h];exact h2 h
theorem Jm {c A:Prop} [Decidable c] (hc:c) (h:B):if (!decide c)=true then A else B:=by
 rw [A0j hc];exact cu h
def Same (H H':Hp):Prop:=∀ b o,H b=some o->H' b=some o
theorem Same.refl (H:Hp):Same H H:=fun _ _ h=>h
theorem Same.trans (a:Same H H1) (b:Same H1 H2):Same H H2:=fun c o h=>b c o (a c o h)
theorem Same.free (e:Same H H')  (h:H' l=Option.none):H l=Option.none:=by
 cases q:H l with
 | none=>rfl
 | some o =>
  rw [e l o q] at h;cases h
theorem Same.seq (e:Same H H') (h:bT K H a xs):bT K H' a xs:=by
 rcases h with (h | ⟨o,h⟩) | h
 ·exact .inl (.inl (e _ _ h))
 ·exact .inl (.inr ⟨o,e _ _ h⟩)
 ·exact .inr h
def ig (env:Env):List (Str×NameKind)->List (Str×Addr)->List (Str×Addr)
 | [],cs=>cs
 | (n,k)::r,cs=>ig env r (if k==.free then (n,(env.cells.lookup n).getD 0)::cs else cs)
theorem xg:∀ (l:List (Str×NameKind)) (cs:List (Str×Addr)) (p:Str×Addr),p∈ig env l cs->p∈cs\/((p.1,NameKind.free)∈l/\p.2=(env.cells.lookup p.1).getD 0)
 | [],_,_,h=>.inl h
 | (n,k)::r,cs,p,h=>by
  rcases xg r _ p h with q | ⟨q,e⟩
  ·by_cases hk:k=.free
   ·subst hk;rw [A0i (by rfl)] at q;rcases List.mem_cons.mp q with z | z
    ·subst z;exact .inr ⟨A0h,rfl⟩
    ·exact .inl z
   ·rw [A0e (by simpa using hk)] at q;exact .inl q
  ·exact .inr ⟨jh _ q,e⟩
theorem xq:∀ (l:List (Str×NameKind)) (cs:List (Str×Addr)) (p:Str×Addr),p∈cs->p∈ig env l cs
 | [],_,_,h=>h
 | (n,k)::r,cs,p,h=>by
  refine xq r _ p ?_
  split
  ·exact jh _ h
  ·exact h
theorem rE:∀ (l:List (Str×NameKind)) (cs:List (Str×Addr)),(x,NameKind.free)∈l->∃ c,(x,c)∈ig env l cs
 | [],_,h=>nomatch h
 | (n,k)::r,cs,h=>by
  rcases List.mem_cons.mp h with z | z
  ·cases z;exact ⟨_,xq r _ _ (by rw [A0i (by rfl)];exact A0h)⟩
  ·exact rE r _ z
theorem lB {α:Type}:∀ {l:List (Str×α)}{c:α},(x,c)∈l->∃ c',l.lookup x=some c'
 | [],_,h=>nomatch h
 | (n,d)::r,c,h=>by
  by_cases e:x=n
  ·subst e;exact ⟨d,by simp [A1b]⟩
  ·have:(x==n)=false:=by simpa using e
   simp only [A1b,this];rcases List.mem_cons.mp h with z | z
   ·cases z;exact absurd rfl e
   ·exact lB z
theorem uM:∀ (l:List (Str×NameKind)) (cs:List (Str×Addr)),(∀ x∈l,x.2=.free->(env.cells.lookup x.1).isSome=true) ->
  (forIn l cs fun (x:Str×NameKind) (r:List (Str×Addr))=>(match x with
   | (name,kind)=>if (kind==NameKind.free)=true then do let a <- cellOf env name;pure (ForInStep.yield ((name,a)::r)) else pure (ForInStep.yield r):Sem (ForInStep (List (Str×Addr)))))=pure (ig env l cs)
 | [],cs,_=>rfl
 | (n,k)::r,cs,h=>by
  rw [A4o];have ih:=fun cs'=>uM r cs' fun x hx=>h x (jh _ hx)
  by_cases hk:k=.free
  ·subst hk;obtain ⟨a,ha⟩:=A2N.mp (h (n,.free) A0h rfl);have hca:cellOf env n=pure a:=by unfold cellOf;rw [ha]
   have hn:ig env ((n,.free)::r) cs=ig env r ((n,a)::cs):=by
    show ig env r (if (NameKind.free==NameKind.free)=true then (n,(env.cells.lookup n).getD 0)::cs else cs)=_
    rw [A0i (by rfl),ha];rfl
   rw [hn];simp only [A2W,A3s,hca,pure_bind];exact ih _
  ·have hb:(k==NameKind.free)=false:=by simpa using hk
   have hn:ig env ((n,k)::r) cs=ig env r cs:=by
    show ig env r (if (k==NameKind.free)=true then (n,(env.cells.lookup n).getD 0)::cs else cs)=_
    rw [A0e (by simp [hb])]
   rw [hn];simp only [hb,A1q,A2H,pure_bind];exact ih _
theorem mY (h:∀ x∈scope.names,x.2=.free->(env.cells.lookup x.1).isSome=true):closureFor scope env=pure (ig env scope.names []):=by
 simp only [closureFor];have:=uM (env:=env) scope.names [] h
 first
  | (rw [this];rfl)
  | (erw [this];rfl)
  | (exact (A1v (· >>= pure) this))
theorem cj {l:List (Str×NameKind)} (h:∀ x∈l,x.2=.free->(env.cells.lookup x.1).isSome=true)  (e:(ig env l []).lookup x=some c):env.cells.lookup x=some c:=by
 rcases xg l [] (x,c) (A1g e) with q | ⟨q,e'⟩
 ·exact nomatch q
 ·obtain ⟨a,ha⟩:=A2N.mp (h _ q rfl);have ha':env.cells.lookup x=some a:=ha;have e2:c=(env.cells.lookup x).getD 0:=e';rw [ha'] at e2;rw [ha',e2];rfl
theorem iC {k':NameKind} (h:(relabel scope env).names.lookup x=some k'):∃ k,scope.names.lookup x=some k/\(k'=k\/(k=.free/\k'=.cell)):=by
 unfold relabel at h;dsimp only at h;generalize scope.names=l at h ⊢
 induction l with
 | nil=>simp at h
 | cons p r ih =>
  obtain ⟨n,k⟩:=p;rw [A0g] at h
  by_cases e:x=n
  ·subst e;refine ⟨k,by simp [A1b],?_⟩
   by_cases hc:(k==NameKind.free&&env.scope.kind==.function&&env.kindOf x==some .cell)=true
   ·simp only [hc,A3s,A1b,A2W] at h;have hk:k=.free:=by
     have:=(Bool.and_eq_true_iff.mp (Bool.and_eq_true_iff.mp hc).1).1
     simpa using this
    exact .inr ⟨hk,(A0O h).symm⟩
   ·simp only [hc,A2H,A1b,A2W,A1q] at h;exact .inl (A0O h).symm
  ·have hb:(x==n)=false:=by simpa using e
   have h':List.lookup x (List.map (fun x=>match x with | (n,k)=>if (k==NameKind.free&&env.scope.kind==ScopeKind.function&&env.kindOf n==some NameKind.cell)=true then (n,NameKind.cell) else (n,k)) r)=some k':=by
    by_cases hc:(k==NameKind.free&&env.scope.kind==.function&&env.kindOf n==some .cell)=true
    ·simpa only [hc,A3s,A1b,hb] using h
    ·simpa only [hc,A2H,A1b,hb,A1q] using h
   obtain ⟨k0,e0,q⟩:=ih h';exact ⟨k0,by simp only [A1b,hb];exact e0,q⟩
theorem q9 (h:scope.names.lookup x=some .free):(relabel scope env).names.lookup x=some .cell\/(relabel scope env).names.lookup x=some .free:=by
 unfold relabel;dsimp only;generalize scope.names=l at h ⊢
 induction l with
 | nil=>simp at h
 | cons p r ih =>
  obtain ⟨n,k⟩:=p;rw [A0g]
  by_cases e:x=n
  ·subst e;simp only [A1b,A2W] at h;cases h;generalize List.map _ r=r'
   show List.lookup x ((if 0x60=true then (x,NameKind.cell) else (x,NameKind.free))::r')=_\/List.lookup x ((if 0x60=true then (x,NameKind.cell) else (x,NameKind.free))::r')=_
   by_cases hc:0x60=true
   ·rw [A0i hc];exact .inl (by simp [A1b])
   ·rw [A0e hc];exact .inr (by simp [A1b])
  ·have hb:(x==n)=false:=by simpa using e
   simp only [A1b,hb] at h
   by_cases hc:(k==NameKind.free&&env.scope.kind==.function&&env.kindOf n==some .cell)=true
   ·simp only [hc,A3s,A1b,hb];exact ih h
   ·simp only [hc,A2H,A1b,hb,A1q];exact ih h
def Bp (X:Cx) (N':List Str) (scope:Scope) (s:Shared) (H:Hp) (fp:List Addr) (C:Addr):Cx where
 prog:=X.prog
 w:=X.w
 K:=X.K
 mg:=X.mg
 base:=X.base
 A:=X.A
 N:=N'
 s₀:=s
 H₀:=H
 env:=compEnvC scope (ig X.env scope.names []) C X.env
 outer:=X.stack
 stack:=X.stack
 ex:=fp
 fn:=fun _=>false
 calm:=X.calm
 pn:=[]
 xe:=fun _ _=>False
structure fO (N:List Str) (sc scope:Scope) (ts fr:List Str) (ix:List Nat):Prop where
 kind:scope.kind=.function
 yV:∀ y∈scope.names,y.2≠.cell
 nms:∀ y∈scope.names,y.2=.local->scope.names.lookup y.1=some .local
 frs:∀ y∈scope.names,y.2=.free->sc.names.lookup y.1=some .cell\/sc.names.lookup y.1=some .free
 cap:fr.map some=ix.map fun i=>N[i]?
 capf:∀ x∈fr,scope.names.lookup x=some .free
def jD (σ:St) (k:Nat) (ix:List Nat):St:=List.replicate k none++ix.map fun i=>(σ[i]?).join
def Kp (σ σ':St):Prop:=∀ (j:Nat) (v:V),σ[j]?=some (some v)->σ'[j]?=some (some v)
theorem Kp.refl (σ:St):Kp σ σ:=fun _ _ h=>h
theorem Kp.set {σ1:St}{x:Option V} (h:σ[i]?=some none) (q:Kp σ σ1):Kp σ (σ1.set i x):=fun j v e=>by
 by_cases hj:j=i
 ·subst hj;rw [h] at e;cases e
 ·rw [A4j (A0k hj)];exact q j v e
def PTs (X:Cx) (ifs:List Expr) (t:TT):Prop :=
 ∀ (pins:List 0x22) (s:Shared) (σ:St) (H:Hp) (Q:Bool->Hp->Prop),Inv X pins σ H s->t σ H Q ->
  wpAny 0x9 X.A (forIn ifs true fun c r=>if r=true then do let ok <- isTrue c X.env (eval c X.env);pure (ForInStep.yield ok) else pure (ForInStep.yield r)) (TP X pins σ Q) X.xe s
def Ym:TT:=fun _ H Q=>Q true H
theorem jQ {A B:Hp->Prop} (h:A H):Ym σ H (fun b H5=>if b=true then A H5 else B H5):=by
 show if true=true then A H else B H
 rw [A0i rfl];exact h
theorem mH:PTs X [] Ym:=fun _ _ _ H _ I h=>wpAny_tests_nil ⟨H,I,h⟩
theorem mJ {c:Expr}{t:TT} (h:PT X c t):PTs X [c] t:=fun pins s σ H Q I q=>wpAny_tests_one (h pins s σ H Q I q)
def pD (J:It) (D:Addr) (σ:St) (k:Nat) (ix:List Nat) (g:TG) (tt:TT) (te:TE) (Q:VK) (H1:Hp):Prop:=∃ W:Nat->Nat->List V->Hp->Prop,(∃ m,W 0 m [] (upd H1 D (.lst []))) /\
 ∀ i m ys H2,W i m ys H2->H2 D=some (.lst ys)/\((J.stop i H2/\Q (.ref D) H2)\/(J.go i H2/\∃ N:List V->Hp->Prop,(∀ zs H',N zs H'->∃ m',m'<m/\W (i+1) m' zs H')/\∀ x H3,J.J8 i H2 x H3->g x (jD σ k ix) H3 fun σ2 H4=>Kp (jD σ k ix) σ2 /\
  tt σ2 H4 fun b H5=>if b=true then te σ2 H5 fun y H6=>H6 D=some (.lst ys)/\ys.length<sizeLine/\N (ys++[y]) (upd H6 D (.lst (ys++[y]))) else N ys H5))
def Jo (k:Nat) (ix:List Nat) (wi:TI) (g:TG) (tt:TT) (te:TE):TE:=fun σ H Q=>wi σ H fun J H1=>∀ D,H1 D=none->pD J D σ k ix g tt te Q H1
section
variable {elt:Expr}{ifs:List Expr}{ts fr:List Str}
theorem Ci {k:Nat} (h:(jD σ k ix)[j]?=some (some v)):∃ a i,j=k+a/\ix[a]?=some i/\σ[i]?=some (some v):=by
 unfold jD at h
 by_cases hj:j<k
 ·rw [A1l (by simpa using hj),A3P,A0i hj] at h;cases h
 ·rw [A0S (by simpa using hj),A1Q,jY] at h;cases e:ix[j - k]? with
  | none=>rw [e] at h;cases h
  | some i =>
   rw [e] at h;refine ⟨j - k,i,by lia,e,?_⟩;have h':(σ[i]?).join=some v:=A0O h;cases e2:σ[i]? with
   | none=>rw [e2] at h';cases h'
   | some o=>rw [e2] at h';exact A1v some h'
theorem sX {k:Nat}:(jD σ k ix).length=k+ix.length:=by unfold jD;simp
theorem Qi {tk:Nat} (S:fO X.N X.env.scope scope ts fr ix) (I:Inv X pins σ H s) (hf:∀ b∈fp,iU X pins H b) (hfp:∀ b∈fp,b<s.heap.objs.size)
  (hD:s.heap.objs.size<=D) (hC:s.heap.objs.size<=C) (hDC:D≠C) (hk:∀ b o,s.heap.get? b=some o->h1.get? b=some o) (ho:h1.get? D=some { cls:=.type "list",data:=.seq #[] }) {m0:Str->Option Value} (hn:h1.Ns C m0) :
  Inv 0x18 [] (jD σ ts.length ix) (upd H D (.lst [])) { s with heap:=h1,toks:=tk }:=by
 have hcl:∀ x∈scope.names,x.2=.free->(X.env.cells.lookup x.1).isSome=true:=fun x hx hfx=>by
  obtain ⟨c,hc⟩:=I.ok.has x.1 (S.frs x hx hfx);rw [hc];rfl
 have Qj:∀ b,s.heap.objs.size<=b->∀ x c,X.env.cells.lookup x=some c->c≠b:=fun b hb x c e z=>by
  obtain ⟨v,q⟩:=I.cell x c e;exact absurd (A0p q.lt (by rw [z];exact hb)) (A1p _)
 have Qk:∀ x,scope.names.lookup x=some .free->∃ c,(ig X.env scope.names []).lookup x=some c/\X.env.cells.lookup x=some c:=fun x hx=>by
  obtain ⟨c,hc⟩:=rE (env:=X.env) scope.names [] (A1g hx);obtain ⟨c',hc'⟩:=lB hc;exact ⟨c',hc',cj hcl hc'⟩
 have Zy:∀ b∈fp,b∉frs X.stack:=fun b hb z=>by
  obtain ⟨_,f1,f2,_⟩:=hf b hb;rcases List.mem_cons.mp (I.yK b z) with e | e
  ·exact f1 e
  ·exact f2 e
 have hCn:H C=none:=I.hok.fresh hC;have hDn:H D=none:=I.hok.fresh hD;refine ⟨0x3F,
  rfl,I.bare,Un.laid hk hD hDn,⟨m0,hn,fun i x v e1 e2 e3=>?_⟩,fun x c e=>?_,?_,fun x c e=>?_,fun p hp=>?_,I.hok.laid hk hD ⟨?_,[],0,.nil,ho⟩,?_⟩
 ·show (relabel scope X.env).kind=_
  exact S.kind
 ·exact I.ok.inj x y c (cj hcl h1) (cj hcl h2)
 ·have hx':(relabel scope X.env).names.lookup x=some .cell\/(relabel scope X.env).names.lookup x=some .free:=hx;have hfree:scope.names.lookup x=some .free:=by
   rcases hx' with q | q
   ·obtain ⟨k,e,z⟩:=iC q;rcases z with z | ⟨z,_⟩
    ·subst z;exact absurd rfl (S.yV _ (A1g e))
    ·rw [e,z]
   ·obtain ⟨k,e,z⟩:=iC q;rcases z with z | ⟨_,z⟩
    ·rw [e,<- z]
    ·cases z
  obtain ⟨c,hc,_⟩:=Qk x hfree;exact ⟨c,hc⟩
 ·exact absurd (show false=true from hfx) 0x7
 ·exact A0y (A0p (hfp b hb) hC)
 ·exact (hf b hb).2.2.2.2.1 x c (cj hcl e)
 ·have f:=hf b hb;rcases f.2.2.2.1 with z | z
  ·exact I.ok.Fo b o e z
  ·exact absurd (A0p (A0q (I.ok.bs b o e).1) z) (A1p _)
 ·obtain ⟨a,i',hj,hi,hσ⟩:=Ci e2;subst hj;have e1':(ts++fr)[ts.length+a]?=some x:=e1;rw [A0S 0x2,Nat.add_sub_cancel_left] at e1';have hN:X.N[i']?=some x:=by
   have q:=A1v (fun l=>l[a]?) S.cap;simp only [jY,e1',hi] at q;exact (A0O q).symm
  have hfree:=S.capf x (wD e1');have hk':=S.frs (x,.free) (A1g hfree) rfl;obtain ⟨m,hnm,hl⟩:=I.loc;obtain ⟨u,r,lk⟩:=hl i' x v hN hσ (.inr hk');refine ⟨u,r,?_⟩;obtain ⟨c,hc,hc'⟩:=Qk x hfree;rcases lk with ⟨z,_⟩ | ⟨_,c2,e4,z⟩
  ·have z':X.env.scope.names.lookup x=some .local:=z;rcases hk' with y | y
   ·have y':X.env.scope.names.lookup x=some .cell:=y;rw [z'] at y';cases y'
   ·have y':X.env.scope.names.lookup x=some .free:=y;rw [z'] at y';cases y'
  ·have hcc:c2=c:=A0O (e4.symm.trans hc');rw [hcc] at z;obtain ⟨o,ho2,hd2⟩:=z;exact .inr ⟨q9 hfree,c,hc,o,hk _ _ ho2,hd2⟩
 ·obtain ⟨v,o,ho2,hd2⟩:=I.cell x c (cj hcl e);exact ⟨v,o,hk _ _ ho2,hd2⟩
 ·show upd H D (.lst []) C=none
  rw [ak (A0k hDC)];exact hCn
 ·show upd H D (.lst []) c=none
  rw [ak (Qj D hD x c (cj hcl e))];exact I.jZ x c (cj hcl e)
 ·exact absurd (show p∈([]:List 0x22) from hp) 0xA
 ·exact A0Z _
 ·have e:=A1v List.length S.cap;simp only [cg] at e;rw [sX]
  show _=(ts++fr).length
  rw [iT,e]
theorem xr {Q:VK}{use:Option (Value->Sem Unit)}{Qv:Value->Shared->Prop} (hc:X.calm=true) (S:fO X.N X.env.scope scope ts fr ix) (hi:PI X tg iter wi)
  (hb:∀ s H fp C,PG 0x18 tg g/\PTs 0x18 ifs tt/\PE 0x18 elt te)
  (hs:∀ x,foldedSetIterable iter X.env x=pure x) (I:Inv X pins σ H s) (h:Jo ts.length ix wi g tt te σ H Q)
  (fin:∀ (D C:Addr) (H':Hp) (s':Shared),Inv X pins σ H' s'->iU X pins H' C->(∃ m,s'.heap.Ns C m)->Q (.ref D) H'->compPost 0x9 X.A X.xe use Qv (.ref D) C (.ok .next) s') :
  wpAny 0x9 X.A (comprehension 0x2C scope X.env (firstIterPos [⟨tg,iter,ifs,0⟩] pos) (newList []) false (eval iter X.env) use) Qv X.xe s:=by
 have hcl:∀ x∈scope.names,x.2=.free->(X.env.cells.lookup x.1).isSome=true:=fun x hx hfx=>by
  obtain ⟨c,hc⟩:=I.ok.has x.1 (S.frs x hx hfx);rw [hc];rfl
 refine wpAny_comprehension_free (use:=use) rfl hs (mY hcl) S.kind S.nms (cL (hi pins s σ H _ I h) fun v s1 h1=>cL h1 fun itv s2 h2=>?_);obtain ⟨it,fp,tn,J,H2,rfl,I2,T,st2,f2,hW⟩:=h2;refine A1n (wpAny_newFunctionEnv S.yV (by intro y hy;simp at hy) (fun h₁ hns₁ hsb₁=>?_) S.kind);dsimp only at hns₁ hsb₁ ⊢;generalize hH2:s2.heap.push { cls:=.type "list",dict:=none,data:=.seq ([]:List Value).toArray }=G2 at hns₁ hsb₁ ⊢;have Zz:G2.objs.size=s2.heap.objs.size+1:=by rw [<- hH2,A1R]
 have hDC:s2.heap.objs.size≠G2.objs.size:=by rw [Zz];exact A0y (A2U _)
 have hCle:s2.heap.objs.size<=G2.objs.size:=by rw [Zz];exact A2b _
 have old:∀ b o,s2.heap.get? b=some o->h₁.get? b=some o:=fun b o e=>hsb₁.extBut b o (by rw [Zz];exact A0y (A2n (A0q e))) (A0b _ (hH2 ▸ A0b _ e));have hacc:h₁.get? s2.heap.objs.size=some { cls:=.type "list",data:=.seq #[] }:=hsb₁.extBut _ _ hDC (A0b _ (hH2 ▸ A0n _ rfl));have hfp:∀ b∈fp,b<s2.heap.objs.size:=fun b hb'=>by
  obtain ⟨o,e,_⟩:=T.obj _ _ st2 b hb';exact A0q e
 have IC:Inv (Bp X (ts++fr) scope s2 H2 fp G2.objs.size) [] (jD σ ts.length ix) (upd H2 s2.heap.objs.size (.lst [])) { s2 with heap:=h₁,toks:=s2.toks+([]:List (Str×Value)).length } :=
  Qi S I2 f2 hfp (A0f _) hCle hDC old hacc hns₁
 have st1:tn 0 h₁:=T.keep _ _ _ st2 fun b hb' o e=>old b o e;obtain ⟨W,⟨m0,w0⟩,turn⟩:=hW s2.heap.objs.size I2.fresh;obtain ⟨bg,bt,be⟩:=hb s2 H2 fp G2.objs.size;generalize hX:Bp X (ts++fr) scope s2 H2 fp G2.objs.size=Y at IC bg bt be;have eP:Y.prog=X.prog:=by rw [<- hX];rfl
 have eW:Y.w=X.w:=by rw [<- hX];rfl
 have eK:Y.K=X.K:=by rw [<- hX];rfl
 have eC:Y.calm=true:=by rw [<- hX];exact hc
 have eA:Y.A=X.A:=by rw [<- hX];rfl
 have eE:Y.env=compEnvC scope (ig X.env scope.names []) G2.objs.size X.env:=by rw [<- hX];rfl
 have eX:Y.xe=fun _ _=>False:=by rw [<- hX];rfl
 have stat:∀ {H':Hp},(∀ b∈fp,H' b=none)->∀ b∈fp,iU Y [] H' b:=fun hn b hb'=>by
  rw [<- hX];have z:=IC.ok;rw [<- hX] at z;refine ⟨hn b hb',(z.exf b hb').1,z.Ly b hb',.inl hb',(z.exf b hb').2,fun p hp=>absurd (show p∈([]:List 0x22) from hp) 0xA⟩
 have fr0:∀ b∈fp,upd H2 s2.heap.objs.size (.lst []) b=none:=fun b hb'=>by rw [ak (A0y (hfp b hb'))];exact (f2 b hb').1
 have bot:∀ {α:Type}{t:Sem α}{R:α->Shared->Prop}{E:Value->Shared->Prop}{z:Shared},wpAny (model Y.prog Y.w) Y.A t R Y.xe z->wpAny 0x9 X.A t R E z:=fun {α t R E z} q=>by
  rw [eP,eW,eA,eX] at q;exact A1d q (fun _ _ y=>y) fun _ _ y=>y.elim
 have loop:codeAny 0x9 X.A (.compLoop 0x2C 0 (.ref it) 0x5F (compEnvC scope (ig X.env scope.names []) G2.objs.size X.env))
   (compPost 0x9 X.A X.xe use Qv 0x5F G2.objs.size) { s2 with heap:=h₁,toks:=s2.toks+([]:List (Str×Value)).length }:=by
  rw [<- eE];refine codeAny_loop rfl (fun n s'=>∃ i ys H',Inv Y [] (jD σ ts.length ix) H' s'/\tn i s'.heap/\(∀ b∈fp,H' b=none)/\W i n ys H') (fun n s3 hI=>?_) m0 ⟨0,[],_,IC,st1,fr0,w0⟩;obtain ⟨i,ys,H3,I3,st3,Yc,w3⟩:=hI
  show wpAny _ _ ((compTurn 0x2C 0 (.ref it) 0x5F Y.env).onRaise (fun x=>do noteFrame x Y.env;theTreesLotGoes x)) _ _ s3
  refine wpAny_noted ?_;rw [compTurn_list];obtain ⟨hD3,hcase⟩:=turn i n ys H3 w3;rcases hcase with ⟨stop,qn⟩ | ⟨go,N,hN,step⟩
  ·have q:=T.done Y eP eW eK eC i [] s3 _ H3 (fun _ _=>False) I3 (stat Yc) st3 stop;rw [eA] at q;refine A0a (A2j (A0a (A1d q (fun r s4 ⟨hr,I4⟩=>?_) fun _ _ y=>y.elim)));subst hr;refine A0d ?_;have b4:Un (frs X.stack) fp H2 H3 s2.heap s4.heap:=by have z:=I4.base;rw [<- hX] at z;exact z
   have ok4:nZ X.prog X.w H3 s4.heap:=by have z:=I4.hok;rw [eP,eW] at z;exact z
   have os4:s4.os=s2.os:=by have z:=I4.os;rw [<- hX] at z;exact z
   have I5:Inv X pins σ H3 s4:=I2.call' os4 b4 ok4 I4.bare fun b hb'=>⟨(f2 b hb').2.2.2.1,(f2 b hb').2.1,(f2 b hb').2.2.2.2.1,(f2 b hb').2.2.2.2.2⟩;have fC:H3 G2.objs.size=none:=by have z:=I4.free;rw [eE] at z;exact z
   have nC:∃ m,s4.heap.Ns G2.objs.size m:=by obtain ⟨m,z,_⟩:=I4.loc;rw [eE] at z;exact ⟨m,z⟩
   exact fin _ _ H3 s4 I5 (I2.uG hCle fC) nC qn
  ·have q:=T.item Y eP eW eK eC i [] s3 _ H3 (fun _ _=>False) I3 (stat Yc) st3 go;rw [eA] at q;refine A0a (A2j (A0a (A1d q (fun r s4 ⟨u,hr,h4⟩=>?_) fun _ _ y=>y.elim)));subst hr;refine A0a (A1d h4 (fun _ s5 ⟨x,H5,I5,r5,y5,Pq,fr5⟩=>?_) fun _ _ y=>y.elim);have I5':=I5.pinned (stat fr5) (T.obj _ _ Pq);refine A0a (bot (cL (bg _ s5 _ H5 x u _ I5' r5 (step x H5 y5)) fun _ s6 zq=>?_));obtain ⟨σ6,H6,I6,kp6,q6⟩:=zq;refine A0a (bot (cL (bt _ s6 σ6 H6 _ I6 q6) fun ok s7 zq=>?_));obtain ⟨H7,I7,q7⟩:=zq;have again:∀ {H8:Hp}{s8:Shared}{zs:List V}{m':Nat},Inv Y ([]++rB fp s5.heap) σ6 H8 s8->m'<n->W (i+1) m' zs H8->∃ m,m<n/\∃ i ys H',Inv Y [] (jD σ ts.length ix) H' s8/\tn i s8.heap/\(∀ b∈fp,H' b=none)/\W i m ys H':=fun {H8 s8 zs m'} I8 hm w8=>by
    refine ⟨m',hm,i+1,zs,H8,(I8.lR).weak ?_ kp6,T.keep _ _ _ Pq fun b hb' o e=>(I8.pin (b,o) (A0x _ (A0x _ (gA hb' e)))).1,fun b hb'=>?_,w8⟩
    ·rw [I8.len,I3.len]
    ·obtain ⟨o,e,d⟩:=T.obj _ _ Pq b hb';exact (I8.pin (b,o) (A0x _ (A0x _ (gA hb' e)))).2.1
   cases ok with
   | false =>
    rw [A0e 0x7] at q7;obtain ⟨m',hm,w8⟩:=hN _ _ q7;exact A0d ⟨rfl,again I7 hm w8⟩
   | true =>
    rw [A0i rfl] at q7;refine A0a (A0a (bot (cL (be _ s7 σ6 H7 _ I7 q7) fun u8 s8 zq=>?_)));obtain ⟨y8,H8,I8,r8,hD8,hz,n8⟩:=zq;obtain ⟨m',hm,w8⟩:=hN _ _ n8;refine A0a (bot (cL (dR _ s8 σ6 H8 0x5F [y8] _ [u8] (fun _ H9=>H9=upd H8 s2.heap.objs.size (.lst (ys++[y8]))) I8 rfl (.cons r8 .nil) ⟨_,ys,y8,rfl,rfl,hD8,hz,rfl⟩) fun _ s9 zq=>?_));obtain ⟨_,H9,I9,_,e9⟩:=zq;subst e9;exact A0d (A0d ⟨rfl,again I9 hm w8⟩)
 exact codeAny_compStart_list loop (T.self _ 0 _ _ _ st1 loop)
theorem gW (hc:X.calm=true) (S:fO X.N X.env.scope scope ts fr ix) (hi:PI X tg iter wi)
  (hb:∀ s H fp C,PG 0x18 tg g/\PTs 0x18 ifs tt/\PE 0x18 elt te)
  (hs:∀ x,foldedSetIterable iter X.env x=pure x:=by intro _;rfl):PE X 0x2C (Jo ts.length ix wi g tt te):=by
 intro pins s σ H Q I h;rw [eval_ListComp];refine xr (use:=none) (Qv:=EP X pins σ Q) hc S hi hb hs I h fun D C H' s' I' f' n' q'=>?_;obtain ⟨m,hm⟩:=n';refine ⟨m,hm,fun h' sb=>⟨.ref D,H',?_,rfl,q'⟩⟩;exact I'.turned (t':=s'.toks) (fun b o hb' e=>(sb.2 b hb').trans e) f'.1 f'.2.1 f'.2.2.2.1 f'.2.2.2.2.1 f'.2.2.2.2.2
theorem VN {pos2:Pos} (hc:X.calm=true) (S:fO X.N X.env.scope scope ts fr ix) (hi:PI X tg iter wi)
  (hb:∀ s H fp C,PG 0x18 tg g/\PTs 0x18 ifs tt/\PE 0x18 elt te)
  (hN:X.N.Nodup) (hix:X.N[i]?=some x) (hx:Loc X.env.scope x)
  (hw:swapsWith 0x2C (some (.Name x pos')) pos2.line X.env=pure true:=by rfl)
  (hf:X.fn x=true\/X.env.scope.names.lookup x=some .local:=by first | exact .inl rfl | exact .inr rfl | assumption)
  (hs:∀ x,foldedSetIterable iter X.env x=pure x:=by intro _;rfl) :
  PS X (.Assign [.Name x pos'] 0x2C pos2) (fun D σ H=>Jo ts.length ix wi g tt te σ H fun v H'=>D.nx (σ.set i (some v)) H'):=by
 intro pins s σ H D I h;rw [exec_Assign_Name_used _ _ _ _ hw];refine A0a (A2j (A0a ?_))
 show wpAny _ X.A (do let _ <- comprehension 0x2C scope X.env _ (newList []) false (eval iter X.env) (some (assign (.Name x pos') X.env))) _ _ s
 refine A0a (A1d (xr (use:=some (assign (.Name x pos') X.env)) (Qv:=fun _ s'=>SP X pins D .next s') hc S hi hb hs I h fun D' C H' s' I' f' n' q'=>?_) (fun _ s' hq=>A0d (A0d hq)) fun _ _ e=>e);obtain ⟨m,hm⟩:=n';refine wpAny_assign_Name (wL I' hN hix hx (v:=.ref D') rfl (fun s'' I'' ⟨a,sb,ha⟩=>?_) hf);have hCa:C≠a:=by
  rcases ha with rfl | ha
  ·exact f'.2.1
  ·exact fun z=>f'.2.2.2.2.1 _ _ ha z.symm
 refine ⟨m,hm.sameBut sb hCa,fun h' sb'=>⟨_,H',?_,q'⟩⟩;exact I''.turned (t':=s''.toks) (fun b o hb' e=>(sb'.2 b hb').trans e) f'.1 f'.2.1 f'.2.2.2.1 f'.2.2.2.2.1 f'.2.2.2.2.2
end
abbrev Cj (D:Addr) (σ:St) (k:Nat) (ix:List Nat) (g:TG) (tt:TT) (te:TE) (x:V) (ys:List V) (H:Hp) (N:List V->Hp->Prop):Prop :=
 g x (jD σ k ix) H fun σ2 H4=>Kp (jD σ k ix) σ2/\tt σ2 H4 fun b H5=>if b=true then te σ2 H5 fun y H6=>H6 D=some (.lst ys)/\ys.length<sizeLine/\N (ys++[y]) (upd H6 D (.lst (ys++[y]))) else N ys H5
theorem yW {J:It}{item:Nat->V}{k:Nat}{Q:VK} (Pv:Nat->List V->Hp->Prop)
  (hJ:∀ i ys H,Pv i ys H->(i<n->J.go i H/\∀ x H',J.J8 i H x H'->H'=H/\x=item i)/\(n<=i->J.stop i H)) (h0:Pv 0 [] (upd H1 D (.lst []))) (hD:∀ i ys H,Pv i ys H->H D=some (.lst ys))
  (hs:∀ i ys H,i<n->Pv i ys H->Cj D σ k ix g tt te (item i) ys H (Pv (i+1))) (hd:∀ ys H,Pv n ys H->Q (.ref D) H):pD J D σ k ix g tt te Q H1:=by
 refine ⟨fun i m ys H=>m=n - i/\i<=n/\Pv i ys H,⟨n,by simp,A0Z _,h0⟩,?_⟩;rintro i m ys H ⟨rfl,hi,p⟩;refine ⟨hD i ys H p,?_⟩;obtain ⟨h1,h2⟩:=hJ i ys H p
 by_cases hlt:i<n
 ·obtain ⟨hg,hy⟩:=h1 hlt;refine .inr ⟨hg,Pv (i+1),fun zs H' p'=>⟨n - (i+1),by lia,rfl,hlt,p'⟩,fun x H' y=>?_⟩;obtain ⟨rfl,rfl⟩:=hy x H' y;exact hs i ys H' hlt p
 ·have e:i=n:=by lia
  subst e;exact .inl ⟨h2 (A0f _),hd ys H p⟩
theorem FW {lo:Int}{k:Nat}{Q:VK} (Pv:Nat->List V->Hp->Prop) (h0:Pv 0 [] (upd H1 D (.lst []))) (hD:∀ i ys H,Pv i ys H->H D=some (.lst ys))
  (hs:∀ i ys H,i<n->Pv i ys H->Cj D σ k ix g tt te (.int (lo+i)) ys H (Pv (i+1))) (hd:∀ ys H,Pv n ys H->Q (.ref D) H):pD (Zf lo n) D σ k ix g tt te Q H1 :=
 yW (item:=fun i=>.int (lo+i)) Pv (fun i ys H _=>⟨fun h=>⟨h,fun x H' y=>y⟩,fun h=>h⟩) h0 hD hs hd
theorem xu {k:Nat}{Q:VK} (Pv:Nat->List V->Hp->Prop) (hl:∀ i ys H,Pv i ys H->bT K H a xs) (h0:Pv 0 [] (upd H1 D (.lst []))) (hD:∀ i ys H,Pv i ys H->H D=some (.lst ys))
  (hs:∀ i ys H x,xs[i]?=some x->Pv i ys H->Cj D σ k ix g tt te x ys H (Pv (i+1))) (hd:∀ ys H,Pv xs.length ys H->Q (.ref D) H):pD (Ze K a) D σ k ix g tt te Q H1 :=
 yW (n:=xs.length) (item:=fun i=>xs.getD i .non) Pv (fun i ys H p=>⟨fun h=>⟨⟨xs,xs[i],hl i ys H p,by simp [h]⟩,fun x H' y=>⟨y.1,by
  have:=y.2 xs (hl i ys H p);rw [qT,this];rfl⟩⟩,fun h=>⟨xs,hl i ys H p,h⟩⟩) h0 hD (fun i ys H h p=>hs i ys H _ (by rw [qT,ju h];rfl) p) hd
abbrev n6 (l:List Nat):Str:=⟨l.toArray⟩
theorem nG (x:Str):n6 x.cps.toList=x:=by cases x;simp [n6]
theorem jE (l:List Nat):(n6 l).length=l.length:=by simp [n6,Str.length]
theorem qb {y:Str} (h:x.cps.toList=y.cps.toList):x=y:=by
 rw [<- nG x,<- nG y,h]
def tD {α:Type} (xs:List α) (lo hi:Option Int):List α:=(xs.drop (HT.eV xs.length 0 lo)).take (HT.eV xs.length xs.length hi - HT.eV xs.length 0 lo)
theorem uN (lo hi:Option Int) (n:Nat):Builtin.Str.strSliceIndices lo hi 1 n=(List.range (HT.eV n n hi - HT.eV n 0 lo)).map (HT.eV n 0 lo+·):=by
 rw [<- sliceRange_one];unfold Builtin.Str.strSliceIndices;simp only [show (1:Int) > 0 by decide,A3s]
 congr 1
 ·cases lo with
  | none=>simp [HT.eV]
  | some i=>simp only [HT.eV];by_cases h:i<0 <;> simp only [h,A3s,A2H] <;> lia
 ·cases hi with
  | none=>simp [HT.eV]
  | some i=>simp only [HT.eV];by_cases h:i<0 <;> simp only [h,A3s,A2H] <;> lia
theorem FZ (x:Str) (lo hi:Option Int):Txt.slice x lo hi=n6 (tD x.cps.toList lo hi):=by
 have e:(Builtin.Str.strSliceIndices lo hi 1 x.length).filterMap (x.cps[·]?)=tD x.cps.toList lo hi:=by
  rw [uN,pick_run];unfold tD;simp only [Str.length,A0I]
 unfold Txt.slice
 split
 ·rename_i h
  have hl:(Builtin.Str.strSliceIndices lo hi 1 x.length).length=x.length:=by simpa using h
  have h1:tD x.cps.toList lo hi=x.cps.toList:=by
   rw [uN,cg,A3V] at hl;have hn:x.length=x.cps.toList.length:=by simp [Str.length]
   rw [hn] at hl;have b1:=HT.Q7 x.cps.toList.length x.cps.toList.length (A0f _) hi;unfold tD
   by_cases h0:HT.eV x.cps.toList.length 0 lo=0
   ·rw [h0,A4N,A3b 0x2]
   ·have:x.cps.toList.length=0:=by lia
    have h2:x.cps.toList=[]:=List.length_eq_zero_iff.mp this;rw [h2];simp
  rw [h1,nG]
 ·rw [e]
inductive rSlS (x:V) (lo hi:Option Int) (H:Hp) (Q:VK):Prop
 | mk (z:Str) (_:x=.str z) (_:z.length<=sizeLine) (_:Q (.str (n6 (tD z.cps.toList lo hi))) H):rSlS x lo hi H Q
theorem Ql:SlR X rSlS:=by
 intro pins s σ H x v vl vu lo hi sl Q I rx hs pl pu h;obtain ⟨z,rfl,hzl,q⟩:=h;obtain ⟨t,rfl⟩:=rx;obtain ⟨l,rfl,el⟩:∃ l:Option (Int×Tok),vl=partValue l/\l.map (·.1)=lo:=by
  cases pl with
  | none=>exact ⟨none,rfl,rfl⟩
  | int i t=>exact ⟨some (i,t),rfl,rfl⟩
 obtain ⟨u,rfl,eu⟩:∃ l:Option (Int×Tok),vu=partValue l/\l.map (·.1)=hi:=by
  cases pu with
  | none=>exact ⟨none,rfl,rfl⟩
  | int i t=>exact ⟨some (i,t),rfl,rfl⟩
 subst el eu;refine ⟨"str",_,F.slot_str_getitem.lookup,typeIs_str s z t,wpAny_getItem_str_slice (l:=l) (u:=u) (st:=none) hs rfl ?_⟩;have e:=FZ z (l.map (·.1)) (u.map (·.1));unfold Txt.slice at e;unfold sliceMade;have hp:slicePicked z l u none=Builtin.Str.strSliceIndices (l.map (·.1)) (u.map (·.1)) 1 z.length:=rfl;rw [hp];have h1:(((none:Option (Int×Tok)).map (·.1)).getD 1==1&&(Builtin.Str.strSliceIndices (l.map (·.1)) (u.map (·.1)) 1 z.length).length==z.length)=((1:Int)==1&&(Builtin.Str.strSliceIndices (l.map (·.1)) (u.map (·.1)) 1 z.length).length==z.length):=rfl;rw [h1]
 by_cases hc:((1:Int)==1&&(Builtin.Str.strSliceIndices (l.map (·.1)) (u.map (·.1)) 1 z.length).length==z.length)=true
 ·rw [A0i hc] at e ⊢;exact ⟨.str z,H,I,⟨t,rfl⟩,by rw [<- e] at q;exact q⟩
 ·rw [A0e hc] at e ⊢;rw [<- e] at q;refine ⟨?_,⟨.str _,H,I.tok _,⟨_,rfl⟩,q⟩⟩;have hle:=Txt.slice_le z (l.map (·.1)) (u.map (·.1));unfold Txt.slice at hle;rw [A0e hc] at hle;exact A0M hle hzl
theorem xG:∀ {ts:List Str}{us:List Value},Vals (ts.map V.str) us->∃ l:List (Str×Tok),us=strValues l/\l.map (·.1)=ts
 | [],_,r=>by
  rw [A3U] at r;cases r;exact ⟨[],rfl,rfl⟩
 | t::ts,_,r=>by
  rw [A0g] at r;cases r with
  | cons r1 r2 =>
   obtain ⟨k,rfl⟩:=r1;obtain ⟨l,rfl,e⟩:=xG r2;exact ⟨(t,k)::l,rfl,by rw [A0g,e]⟩
inductive rJoin (K:W.Frag) (x:V) (vs:List V) (H:Hp) (Q:VK):Prop
 | mk (sep:Str) (l:Addr) (ts:List Str) (_:x=.str sep) (_:vs=[.ref l]) (_:bT K H l (ts.map V.str)) (_:JoinOk sep ts=true) (_:Q (.str (Txt.join sep ts)) H):rJoin K x vs H Q
theorem VP:MtR X "str.join" (rJoin X.K):=by
 intro pins s σ H x vs v us Q I rx rv h;obtain ⟨sep,l,ts,rfl,rfl,hq,ok,q⟩:=h;obtain ⟨t,rfl⟩:=rx;obtain ⟨u,rfl,ru⟩:=rv.one;cases ru;obtain ⟨its,r,p,hz⟩:=I.list hq;obtain ⟨l',rfl,el⟩:=xG r;exact SC.join p.isList el ok fun t' k=>⟨.str _,H,I.tok _,⟨_,rfl⟩,q⟩
theorem Ga (hc:X.calm=true) (hin:X.A.in1.handled=none):gZ X (.builtin "all") (fun xs H Q=>∃ (p:Addr) (bs:List Bool),xs=[.ref p]/\bT X.K H p (bs.map V.bl)/\Q (.bl (bs.all id)) H):=by
 intro pins s σ H xs us Q I r h;obtain ⟨p,bs,rfl,hq,q⟩:=h;obtain ⟨u,rfl,ru⟩:=vals1 r;cases ru;obtain ⟨its,rv,pl,hz⟩:=I.list hq;have hlen:=rv.length;rw [cg] at hlen;have hne:p≠s.heap.objs.size:=by
  obtain ⟨o,n,e,_⟩:=pl;exact A0y (A0q e)
 refine call_all_walk (A3m pl.isList ?_);refine ⟨s.heap.objs.size,_,_,its.toArray.size,_,_,fun i=>bs.getD i true,rfl,Walks.list hin s.heap.objs.size p hne its.toArray,⟨⟨_,A0n _ rfl,rfl,rfl⟩,?_⟩,?_,?_⟩
 ·obtain ⟨o,n,e,c,d,dd⟩:=pl;exact ⟨o,A0b _ e,c,n,dd⟩
 ·intro i v s' Q' E' hv hQ';have hv':its[i]?=some v:=by simpa using hv
  have hi:i<its.length:=(A0l.mp hv').1;have hb:(bs.map V.bl)[i]?=some (V.bl (bs.getD i true)):=by
   rw [jY,ju 0x2,qT,ju 0x2];rfl
  obtain ⟨u,hu,ru⟩:=rv.get hb;rw [hv'] at hu;cases hu;cases ru;exact A2m hQ'
 ·intro h' tk kk;have e:(List.range its.toArray.size).all (fun i=>bs.getD i true)=bs.all id:=by
   rw [A0r,<- hlen,A1i,A1G,A1G]
   constructor
   ·intro z b hb;obtain ⟨i,hi,rfl⟩:=A1V.mp hb;have:=z i (A4I.mpr hi);rw [qT,ju hi] at this;exact this
   ·intro z i hi;have hi':=A4I.mp hi;rw [qT,ju hi'];exact z _ (A0N hi')
  rw [e];have I1:Inv X pins σ H { s with heap:=s.heap.push { cls:=.type "list_iterator",data:=.fields #[.ref p,.int 0 0] } }:=I.kept (t':=s.toks) fun b o e=>A0b _ e;obtain ⟨f0,f1,f2,f3,f4,f5⟩:=I.uG (A0f _) 0x48;exact ⟨.bl (bs.all id),H,I1.turned (fun b o hb e=>kk b o (by simpa using hb) e) f0 f1 f3 f4 f5,rfl,q⟩
theorem Ck:gZ X (.builtin "isinstance") (fun xs H Q=>∃ x T t b,xs=[x,.ty T]/\pW X.K H x t/\PySem.W.kitOne X.K t (.type T)=some b/\Q (.bl b) H):=by
 intro pins s σ H xs us Q I r h;obtain ⟨x,T,t,b,rfl,ty,e,q⟩:=h;obtain ⟨u,u',rfl,ru,ru'⟩:=vals2 r;cases ru';exact Mi I ru ty e fun tk=>⟨.bl b,H,I.tok _,rfl,q⟩
theorem Cm (h:X.K=K:=by rfl):IxR X (Zu K):=h ▸ bI
inductive Yn (K:W.Frag) (xs:List V) (H:Hp) (Q:VK):Prop
 | mk (p:Addr) (ys:List V) (_:xs=[.ref p]) (_:(bT K H p ys\/bR K H p ys)) (_:Q (.int ys.length) H):Yn K xs H Q
theorem o8 (h:X.K=K:=by rfl):gZ X (.builtin "len") (Yn K):=h ▸ fun pins s σ H xs us Q I r ⟨p,ys,a,b,c⟩=>dI pins s σ H xs us Q I r ⟨p,ys,a,b,c⟩
inductive rIsi (K:W.Frag) (xs:List V) (H:Hp) (Q:VK):Prop
 | mk (x:V) (T:String) (t:Value) (b:Bool) (_:xs=[x,.ty T]) (_:pW K H x t) (_:PySem.W.kitOne K t (.type T)=some b) (_:Q (.bl b) H):rIsi K xs H Q
theorem cR (h:X.K=K:=by rfl):gZ X (.builtin "isinstance") (rIsi K):=h ▸ fun pins s σ H xs us Q I r ⟨p,ys,t,d,a,b,c,e⟩=>Ck pins s σ H xs us Q I r ⟨p,ys,t,d,a,b,c,e⟩
inductive rAll (K:W.Frag) (xs:List V) (H:Hp) (Q:VK):Prop
 | mk (p:Addr) (bs:List Bool) (_:xs=[.ref p]) (_:bT K H p (bs.map V.bl)) (_:Q (.bl (bs.all id)) H):rAll K xs H Q
theorem lW (hc:X.calm=true) (hin:X.A.in1.handled=none) (h:X.K=K:=by rfl):gZ X (.builtin "all") (rAll K):=h ▸ fun pins s σ H xs us Q I r ⟨p,ys,a,b,c⟩=>Ga hc hin pins s σ H xs us Q I r ⟨p,ys,a,b,c⟩
theorem cI:bootBuiltins "isinstance"=some (.builtin "isinstance"):=by decide +kernel
theorem uO:bootBuiltins "all"=some (.builtin "all"):=by decide +kernel
theorem yX:bootBuiltins "abs"=some (.builtin "abs"):=by decide +kernel
theorem Qo:bootBuiltins "max"=some (.builtin "max"):=by decide +kernel
theorem fZ:bootBuiltins "sorted"=some (.builtin "sorted"):=by decide +kernel
theorem yZ:bootBuiltins "bool"=some (.type "bool"):=by decide +kernel
theorem ZC:bootBuiltins "int"=some (.type "int"):=by decide +kernel
theorem Qp:bootBuiltins "str"=some (.type "str"):=by decide +kernel
theorem o9:bootBuiltins "list"=some (.type "list"):=by decide +kernel
theorem Cp:bootBuiltins "tuple"=some (.type "tuple"):=by decide +kernel
theorem Qq:bootBuiltins "zip"=some (.type "zip"):=by decide +kernel
theorem ZD {t:Addr}{its:Array Value}{x:Value} (hit:s.heap.IsTupleIter it t i) (ht:s.heap.IsTuple t its) (hx:its[i]?=some x)
  (hQ:∀ h',h'.IsTupleIter it t (i+1)->Heap.SameBut it s.heap h'->Q x { s with heap:=h' }):wpAny 0xC A (Builtin.SmallTypes.nextOf (.ref it)) Q E s:=by
 obtain ⟨o,ho,hc,hd⟩:=id hit;obtain ⟨ot,hot,_,nt,hdt⟩:=ht;unfold Builtin.SmallTypes.nextOf;refine A0a (A1c (name:=Str.ofString "__next__") hit.typeIs A2v (A1a A2v hit.typeIs A4x ?_ (A4p _)))
 show wpAny _ _ (field (.ref it) 0 >>= _) _ _ s;refine A0a (A1P ho hd (x:=.ref t) rfl ?_)
 show wpAny _ _ (if (Value.ref t==Value.none)=true then _ else _) _ _ s;rw [A0e (show ¬ ((Value.ref t==Value.none)=true) from fun z=>A0o z)]
 show wpAny _ _ (field (.ref it) 1 >>= _) _ _ s;refine A0a (A1P ho hd (x:=.int i 0) rfl ?_)
 show wpAny _ _ (seqItems? (.ref t) >>= _) _ _ s;refine A0a (A2w hot hdt ?_);simp only [A1Y,hx]
 refine A0a (A2x ho hd 0xA (A0d ⟨x,rfl,A0d (hQ _ ⟨_,A2d _ ho (Obj.isFreed_of_fields (Obj.data_mapFields hd _)),(Obj.cls_mapFields ..).trans hc,by rw [Obj.data_mapFields hd];simp [rawInt]⟩ (A2a ..))⟩))
theorem Gb {t:Addr}{its:Array Value} (hh:A.handled=none) (hit:s.heap.IsTupleIter it t i) (ht:s.heap.IsTuple t its) (hx:its[i]?=none)
  (hE:∀ h' e,Heap.ExtBut it s.heap h'->(∃ o,h'.get? e=some o/\o.cls=.type "StopIteration")->E (.ref e) { s with heap:=h' }):wpAny 0xC A (Builtin.SmallTypes.nextOf (.ref it)) Q E s:=by
 obtain ⟨o,ho,hc,hd⟩:=id hit;obtain ⟨ot,hot,_,nt,hdt⟩:=ht;unfold Builtin.SmallTypes.nextOf;refine A0a (A1c (name:=Str.ofString "__next__") hit.typeIs A2v (A1a A2v hit.typeIs A4x ?_ (A4p _)))
 show wpAny _ _ (field (.ref it) 0 >>= _) _ _ s;refine A0a (A1P ho hd (x:=.ref t) rfl ?_)
 show wpAny _ _ (if (Value.ref t==Value.none)=true then _ else _) _ _ s;rw [A0e (show ¬ ((Value.ref t==Value.none)=true) from fun z=>A0o z)]
 show wpAny _ _ (field (.ref it) 1 >>= _) _ _ s;refine A0a (A1P ho hd (x:=.int i 0) rfl ?_)
 show wpAny _ _ (seqItems? (.ref t) >>= _) _ _ s;refine A0a (A2w hot hdt ?_);simp only [A1Y,hx]
 refine A0a (A2Z (A0a (A2x ho hd 0xA ?_)));show wpAny _ _ (newExc (.type "StopIteration") [] >>= _) _ _ _
 refine A0a ?_;simp only [newExc,newTuple];refine A0a (A1n ?_ (by size_fits));refine A0a (m:=firstArgMember _ _) (wpAny_of_eq (a:=Value.none) (by first | rfl | (simp only [firstArgMember];rfl)) ?_);refine A1n ?_ (by size_fits)
 simp only [raiseNew];refine A0a (wpAny_handled ?_);first | rw [show A.in1.handled=none from hh] | rw [hh]
 refine A0a (A0d (wpAny_throw (hE _ _ (((A2a ..).extBut.push _).push _) ⟨_,A0n _ rfl,rfl⟩)))
structure xH (P:Program) (w:World) (K:PySem.W.Frag) (it:Addr) (go stop:Nat->Hp->Prop) (J8:Nat->Hp->V->Prop) (tn:Nat->Heap->Prop):Prop where
 obj:∀ i h,tn i h->∃ o,h.get? it=some o/\∀ v,o.data≠.cell v
 keep:∀ i h h',tn i h->(∀ o,h.get? it=some o->h'.get? it=some o)->tn i h'
 item:∀ (X:Cx) (pins:List 0x22) (σ:St) (H:Hp) (s₀:Shared) (i:Nat) (fp:List Addr),X.prog=P->X.w=w->X.K=K->Inv X pins σ H s₀->(∀ b∈fp,iU X pins H b)->go i H ->
  ∃ U:Heap->Prop,U s₀.heap/\(∀ h h',U h->(∀ b o,b∉fp->h.get? b=some o->h'.get? b=some o)->U h')/\∃ x,J8 i H x /\
   ∀ (A:Around) (s:Shared) (Q:Value->Shared->Prop) (E:Value->Shared->Prop),U s.heap->tn i s.heap->(∀ u h' tk,RelV x u->tn (i+1) h'->Heap.SameBut it s.heap h'->Q u { s with heap:=h',toks:=tk }) ->
    wpAny (model P w) A (Builtin.SmallTypes.nextOf (.ref it)) Q E s
 done:∀ (X:Cx) (pins:List 0x22) (σ:St) (H:Hp) (s₀:Shared) (i:Nat) (fp:List Addr),X.prog=P->X.w=w->X.K=K->Inv X pins σ H s₀->(∀ b∈fp,iU X pins H b)->stop i H ->
  ∃ U:Heap->Prop,U s₀.heap/\(∀ h h',U h->(∀ b o,b∉fp->h.get? b=some o->h'.get? b=some o)->U h') /\
   ∀ (A:Around) (s:Shared) (Q:Value->Shared->Prop) (E:Value->Shared->Prop),A.handled=none->U s.heap->tn i s.heap->(∀ h' e,Heap.ExtBut it s.heap h'->(∃ o,h'.get? e=some o/\o.cls=.type "StopIteration")->E (.ref e) { s with heap:=h' }) ->
    wpAny (model P w) A (Builtin.SmallTypes.nextOf (.ref it)) Q E s
theorem uP (I:Inv X pins σ H s) (hf:∀ b∈fp,iU X pins H b) {o:Obj} (e:X.base.get? a=some o):a∉fp:=fun hb=>by
 rcases (hf a hb).2.2.2.1 with z | z
 ·exact I.ok.Fo a o e z
 ·exact absurd (A0p (A0q (I.ok.bs a o e).1) z) (A1p _)
theorem xJ (I:Inv X pins σ H s) (hf:∀ b∈fp,iU X pins H b) (h:bR X.K H a xs):a∉fp:=by
 rcases h with (h | ⟨o,h⟩) | ⟨o,its,n,hk,_⟩
 ·exact fun hb=>by rw [(hf a hb).1] at h;cases h
 ·exact fun hb=>by rw [(hf a hb).1] at h;cases h
 ·exact uP I hf (I.ok.mod.kin a o hk)
theorem xK (I:Inv X pins σ H s) (hf:∀ b∈fp,iU X pins H b) (h:bT X.K H a xs):a∉fp:=by
 rcases h with (h | ⟨o,h⟩) | ⟨o,its,n,hk,_⟩
 ·exact fun hb=>by rw [(hf a hb).1] at h;cases h
 ·exact fun hb=>by rw [(hf a hb).1] at h;cases h
 ·exact uP I hf (I.ok.mod.kin a o hk)
theorem Jp (a it:Addr):xH P w K it (fun i H=>∃ xs x,bR K H a xs/\xs[i]?=some x) (fun i H=>∃ xs,bR K H a xs/\xs.length<=i) (fun i H x=>∀ xs,bR K H a xs->xs[i]?=some x) (fun i h=>h.IsTupleIter it a i) where
 obj:=fun i h ⟨o,e,c,d⟩=>⟨o,e,fun v z=>by rw [d] at z;cases z⟩
 keep:=fun i h h' ⟨o,e,r⟩ k=>⟨o,k o e,r⟩
 item:=fun X pins σ H s₀ i fp hP hw hK I hf ⟨xs,x,hq,hx⟩=>by
  subst hP hw hK;obtain ⟨its,rv,p,_⟩:=I.tuple hq;have na:=xJ I hf hq;obtain ⟨u,hu,ru⟩:=rv.get hx;refine ⟨fun h=>h.IsTuple a its.toArray,p,fun h h' ⟨o,e,r⟩ k=>⟨o,k a o na e,r⟩,x,fun ys hy=>by rw [I.Lz hy hq];exact hx,fun A s Q E hU st hQ=>?_⟩;exact ZD st hU (x:=u) (by simpa using hu) fun h' st' sb=>hQ u h' s.toks ru st' sb
 done:=fun X pins σ H s₀ i fp hP hw hK I hf ⟨xs,hq,hx⟩=>by
  subst hP hw hK;obtain ⟨its,rv,p,_⟩:=I.tuple hq;have na:=xJ I hf hq;have hl:=rv.length;exact ⟨fun h=>h.IsTuple a its.toArray,p,fun h h' ⟨o,e,r⟩ k=>⟨o,k a o na e,r⟩,fun A s Q E hh hU st hE=>Gb hh st hU (by simp;lia) hE⟩
theorem Jq (a it:Addr):xH P w K it (fun i H=>∃ xs x,bT K H a xs/\xs[i]?=some x) (fun i H=>∃ xs,bT K H a xs/\xs.length<=i) (fun i H x=>∀ xs,bT K H a xs->xs[i]?=some x) (fun i h=>h.IsListIter it a i) where
 obj:=fun i h ⟨o,e,c,d⟩=>⟨o,e,fun v z=>by rw [d] at z;cases z⟩
 keep:=fun i h h' ⟨o,e,r⟩ k=>⟨o,k o e,r⟩
 item:=fun X pins σ H s₀ i fp hP hw hK I hf ⟨xs,x,hq,hx⟩=>by
  subst hP hw hK;obtain ⟨its,rv,p,_⟩:=I.list hq;have na:=xK I hf hq;obtain ⟨u,hu,ru⟩:=rv.get hx;refine ⟨fun h=>h.IsList a its.toArray,p.isList,fun h h' ⟨o,e,r⟩ k=>⟨o,k a o na e,r⟩,x,fun ys hy=>by rw [I.Bx hy hq];exact hx,fun A s Q E hU st hQ=>?_⟩;exact wpAny_nextOf_list_item st hU (x:=u) (by simpa using hu) fun h' st' sb=>hQ u h' s.toks ru st' sb
 done:=fun X pins σ H s₀ i fp hP hw hK I hf ⟨xs,hq,hx⟩=>by
  subst hP hw hK;obtain ⟨its,rv,p,_⟩:=I.list hq;have na:=xK I hf hq;have hl:=rv.length;exact ⟨fun h=>h.IsList a its.toArray,p.isList,fun h h' ⟨o,e,r⟩ k=>⟨o,k a o na e,r⟩,fun A s Q E hh hU st hE=>wpAny_nextOf_list_end hh st hU (by simp;lia) hE⟩
structure ZA (z TI TO i1 i2:Addr):Prop where
 p1:TI≠z
 p2:TO≠z
 p3:i1≠z
 p4:i2≠z
 p5:TI≠TO
 p6:TI≠i1
 p7:TI≠i2
 p8:TO≠i1
 p9:TO≠i2
 p0:i1≠i2
theorem VR {z TI TO:Addr}{x:V}{a b:Value}{U1 U2 T1 T2 W0 T2':Heap->Prop} (D:ZA z TI TO i1 i2)
  (hz:IsZip s.heap z TI TO .none) (hTI:IsPair s.heap TI (.ref i1) (.ref i2)) (hTO:IsPair s.heap TO a b) (u1:U1 s.heap) (u2:U2 s.heap) (t1:T1 s.heap) (t2:T2 s.heap)
  (k1:∀ h h',U1 h->(∀ b o,b∉[z,TI,TO,i1,i2]->h.get? b=some o->h'.get? b=some o)->U1 h') (k2:∀ h h',U2 h->(∀ b o,b∉[z,TI,TO,i1,i2]->h.get? b=some o->h'.get? b=some o)->U2 h')
  (q1:∀ h h',T1 h->(∀ o,h.get? i1=some o->h'.get? i1=some o)->T1 h') (q2:∀ h h',T2 h->(∀ o,h.get? i2=some o->h'.get? i2=some o)->T2 h')
  (q1':∀ h h',W0 h->(∀ o,h.get? i1=some o->h'.get? i1=some o)->W0 h') (q2':∀ h h',T2' h->(∀ o,h.get? i2=some o->h'.get? i2=some o)->T2' h')
  (d1:∀ (A:Around) (s:Shared) (Q:Value->Shared->Prop) (E:Value->Shared->Prop),U1 s.heap->T1 s.heap->(∀ u h' tk,RelV x u->W0 h'->Heap.SameBut i1 s.heap h'->Q u { s with heap:=h',toks:=tk })->wpAny 0xC A (Builtin.SmallTypes.nextOf (.ref i1)) Q E s)
  (d2:∀ (A:Around) (s:Shared) (Q:Value->Shared->Prop) (E:Value->Shared->Prop),U2 s.heap->T2 s.heap->(∀ u h' tk,RelV y u->T2' h'->Heap.SameBut i2 s.heap h'->Q u { s with heap:=h',toks:=tk })->wpAny 0xC A (Builtin.SmallTypes.nextOf (.ref i2)) Q E s)
  (hQ:∀ u v h' tk,RelV x u->RelV y v->IsZip h' z TI TO (rawInt s.heap.objs.size)->IsPair h' TI (.ref i1) (.ref i2)->IsPair h' TO u v->W0 h'->T2' h'->IsPair h' s.heap.objs.size u v ->
   (∀ c o,c≠z->c≠TO->c≠i1->c≠i2->s.heap.get? c=some o->h'.get? c=some o)->Q 0x17 { s with heap:=h',toks:=tk }) :
  wpAny 0xC A (Builtin.«zip.__next__» ⟨[.ref z],[]⟩) (fun fin s'=>∃ v,fin=.done (.ret v)/\Q v s') E s:=by
 have mz:∀ {c:Addr},c∉[z,TI,TO,i1,i2]->c≠z/\c≠TO/\c≠i1/\c≠i2:=fun {c} h=>by simp at h;exact ⟨h.1,h.2.2.1,h.2.2.2.1,h.2.2.2.2⟩
 show wpAny _ _ (field (.ref z) 2 >>= _) _ _ _;refine A0a (A1P hz rfl (x:=.bool false) rfl ?_)
 show wpAny _ _ (field (.ref z) 3 >>= _) _ _ _;refine A0a (A1P hz rfl (x:=.ref TI) rfl (A0a (A2w hTI rfl ?_)))
 show wpAny _ _ (Builtin.SmallTypes.ownedTupleIsFree (.ref z) >>= _) _ _ _;refine A0a ?_;unfold Builtin.SmallTypes.ownedTupleIsFree
 refine A0a (A1P hz rfl (x:=.none) rfl (A0d ?_));simp only [A3s];refine A0a (A2Z (A0a (A1P hz rfl (x:=.ref TO) rfl (A0a (A2y hz 0xA fun g1 hz1 hs1=>?_)))))
 replace hz1:IsZip g1 z TI TO .ellipsis:=hz1
 refine A0a ?_;simp only [List.zipIdx_cons,List.zipIdx_nil,A4o,List.forIn_nil];refine A0a (A0a (A5d ?_));show wpAny _ _ (Builtin.SmallTypes.nextOf (.ref i1) >>= _) _ _ _
 refine A0a (d1 _ _ _ _ (k1 _ _ u1 fun c o hc e=>hs1.extBut _ _ (mz hc).1 e) (q1 _ _ t1 fun o e=>hs1.extBut _ _ D.p3 e) fun u g2 tk2 ru t1b hs2=>A0d ?_);have Qs:IsPair g2 TO a b:=hs2.extBut _ _ D.p8 (hs1.extBut _ _ D.p2 hTO);refine A0a (A2w Qs rfl (A0a (A4k Qs fun g3 W2 hs3=>?_)))
 replace W2:IsPair g3 TO u b:=W2
 refine A0a (A5r (A0d (A0a (A0a (A5d ?_)))));show wpAny _ _ (Builtin.SmallTypes.nextOf (.ref i2) >>= _) _ _ _
 refine A0a (d2 _ _ _ _ (k2 _ _ u2 fun c o hc e=>hs3.extBut _ _ (mz hc).2.1 (hs2.extBut _ _ (mz hc).2.2.1 (hs1.extBut _ _ (mz hc).1 e))) (q2 _ _ t2 fun o e=>hs3.extBut _ _ D.p9.symm (hs2.extBut _ _ D.p0.symm (hs1.extBut _ _ D.p4 e))) fun v g4 tk4 rv t2b Yo=>A0d ?_);have hTO4:IsPair g4 TO u b:=Yo.extBut _ _ D.p9 W2;refine A0a (A2w hTO4 rfl (A0a (A4k hTO4 fun g5 W3 Vn=>?_)))
 replace W3:IsPair g5 TO u v:=W3
 refine A0a (A5r (A0d (A0d (A0a (A2w W3 rfl (A0a (A4O ?_)))))));have sz:g5.objs.size=s.heap.objs.size:=by rw [Vn.1,Yo.1,hs3.1,hs2.1,hs1.1]
 have all5:∀ c o,c≠z->c≠TO->c≠i1->c≠i2->s.heap.get? c=some o->g5.get? c=some o:=fun c o c1 c2 c3 c4 e=>Vn.extBut _ _ c2 (Yo.extBut _ _ c4 (hs3.extBut _ _ c2 (hs2.extBut _ _ c3 (hs1.extBut _ _ c1 e))));have hz5:IsZip g5 z TI TO .ellipsis:=Vn.extBut _ _ D.p2.symm (Yo.extBut _ _ D.p4.symm (hs3.extBut _ _ D.p2.symm (hs2.extBut _ _ D.p3.symm hz1)));have t15:W0 g5:=q1' _ _ t1b fun o e=>Vn.extBut _ _ D.p8.symm (Yo.extBut _ _ D.p0 (hs3.extBut _ _ D.p8.symm e));have t25:T2' g5:=q2' _ _ t2b fun o e=>Vn.extBut _ _ D.p9.symm e;have zlt:z<g5.objs.size:=A0q hz5
 show wpAny _ _ (Builtin.SmallTypes.ownedTupleHandOut (.ref z) (.ref g5.objs.size) >>= _) _ _ _;refine A0a ?_;unfold Builtin.SmallTypes.ownedTupleHandOut
 have hz6:IsZip (g5.push { cls:=.type "tuple",data:=.seq #[u,v] }) z TI TO .ellipsis:=A0b _ hz5;refine A0a (A2y hz6 0xA fun g7 hz7 hs7=>?_)
 replace hz7:IsZip g7 z TI TO (rawInt g5.objs.size):=hz7
 refine A2y hz7 0xA fun g8 hz8 hs8=>?_
 replace hz8:IsZip g8 z TI TO (rawInt g5.objs.size):=hz8
 have up8:∀ c o,c≠z->g5.get? c=some o->g8.get? c=some o:=fun c o c1 e=>hs8.extBut _ _ c1 (hs7.extBut _ _ c1 (A0b _ e));have hT8:IsPair g8 g5.objs.size u v:=hs8.extBut _ _ (A3a zlt) (hs7.extBut _ _ (A3a zlt) (A0n _ rfl));rw [sz] at hz8 hT8;refine A0d ⟨_,rfl,?_⟩
 show Q (.ref g5.objs.size) _;rw [sz]
 exact hQ u v g8 _ ru rv hz8 (up8 _ _ D.p1 (all5 _ _ D.p1 D.p5 D.p6 D.p7 hTI)) (up8 _ _ D.p2 W3) (q1' _ _ t15 fun o e=>up8 _ o D.p3 e) (q2' _ _ t25 fun o e=>up8 _ o D.p4 e) hT8 fun c o c1 c2 c3 c4 e=>up8 c o c1 (all5 c o c1 c2 c3 c4 e)
theorem Cq {z TI TO:Addr}{x:V}{a b:Value}{U1 U2 T1 T2 W0:Heap->Prop}{Q:Fin->Shared->Prop} (hh:A.handled=none) (D:ZA z TI TO i1 i2)
  (hz:IsZip s.heap z TI TO .none) (hTI:IsPair s.heap TI (.ref i1) (.ref i2)) (hTO:IsPair s.heap TO a b) (u1:U1 s.heap) (t1:T1 s.heap)
  (k1:∀ h h',U1 h->(∀ b o,b∉[z,TI,TO,i1,i2]->h.get? b=some o->h'.get? b=some o)->U1 h')
  (q1:∀ h h',T1 h->(∀ o,h.get? i1=some o->h'.get? i1=some o)->T1 h')
  (hd:(∀ (A:Around) (s:Shared) (Q:Value->Shared->Prop) (E:Value->Shared->Prop),A.handled=none->U1 s.heap->T1 s.heap->(∀ h' e,Heap.ExtBut i1 s.heap h'->(∃ o,h'.get? e=some o/\o.cls=.type "StopIteration")->E (.ref e) { s with heap:=h' })->wpAny 0xC A (Builtin.SmallTypes.nextOf (.ref i1)) Q E s) \/
   ((∀ (A:Around) (s:Shared) (Q:Value->Shared->Prop) (E:Value->Shared->Prop),U1 s.heap->T1 s.heap->(∀ u h' tk,RelV x u->W0 h'->Heap.SameBut i1 s.heap h'->Q u { s with heap:=h',toks:=tk })->wpAny 0xC A (Builtin.SmallTypes.nextOf (.ref i1)) Q E s) /\
    U2 s.heap/\T2 s.heap/\(∀ h h',U2 h->(∀ b o,b∉[z,TI,TO,i1,i2]->h.get? b=some o->h'.get? b=some o)->U2 h')/\(∀ h h',T2 h->(∀ o,h.get? i2=some o->h'.get? i2=some o)->T2 h') /\
    ∀ (A:Around) (s:Shared) (Q:Value->Shared->Prop) (E:Value->Shared->Prop),A.handled=none->U2 s.heap->T2 s.heap->(∀ h' e,Heap.ExtBut i2 s.heap h'->(∃ o,h'.get? e=some o/\o.cls=.type "StopIteration")->E (.ref e) { s with heap:=h' })->wpAny 0xC A (Builtin.SmallTypes.nextOf (.ref i2)) Q E s))
  (hE:∀ h' tk e,(∀ c o,c≠z->c≠TO->c≠i1->c≠i2->s.heap.get? c=some o->h'.get? c=some o)->(∃ o,h'.get? e=some o/\o.cls=.type "StopIteration")->E (.ref e) { s with heap:=h',toks:=tk }) :
  wpAny 0xC A (Builtin.«zip.__next__» ⟨[.ref z],[]⟩) Q E s:=by
 have mz:∀ {c:Addr},c∉[z,TI,TO,i1,i2]->c≠z/\c≠TO/\c≠i1/\c≠i2:=fun {c} h=>by simp at h;exact ⟨h.1,h.2.2.1,h.2.2.2.1,h.2.2.2.2⟩
 show wpAny _ _ (field (.ref z) 2 >>= _) _ _ _;refine A0a (A1P hz rfl (x:=.bool false) rfl ?_)
 show wpAny _ _ (field (.ref z) 3 >>= _) _ _ _;refine A0a (A1P hz rfl (x:=.ref TI) rfl (A0a (A2w hTI rfl ?_)))
 show wpAny _ _ (Builtin.SmallTypes.ownedTupleIsFree (.ref z) >>= _) _ _ _;refine A0a ?_;unfold Builtin.SmallTypes.ownedTupleIsFree
 refine A0a (A1P hz rfl (x:=.none) rfl (A0d ?_));simp only [A3s];refine A0a (A2Z (A0a (A1P hz rfl (x:=.ref TO) rfl (A0a (A2y hz 0xA fun g1 hz1 hs1=>?_)))))
 replace hz1:IsZip g1 z TI TO .ellipsis:=hz1
 refine A0a ?_;simp only [List.zipIdx_cons,List.zipIdx_nil,A4o,List.forIn_nil];refine A0a (A0a (A5d ?_));show wpAny _ _ (Builtin.SmallTypes.nextOf (.ref i1) >>= _) _ _ _
 rcases hd with e1 | ⟨d1,u2,t2,k2,q2,e2⟩
 ·refine A0a (e1 _ _ _ _ hh (k1 _ _ u1 fun c o hc e=>hs1.extBut _ _ (mz hc).1 e) (q1 _ _ t1 fun o e=>hs1.extBut _ _ D.p3 e) fun g2 e hs2 he=>?_);obtain ⟨oe,hoe,hce⟩:=he;have hz2:IsZip g2 z TI TO .ellipsis:=hs2 _ _ D.p3.symm hz1;have nez:e≠z:=fun q=>by subst q;rw [hz2] at hoe;cases hoe;simp at hce
  exact A2y hz2 0xA fun g3 _ hs3=>hE g3 _ e (fun c o c1 _ c3 _ q=>hs3.extBut _ _ c1 (hs2 _ _ c3 (hs1.extBut _ _ c1 q))) ⟨oe,hs3.extBut _ _ nez hoe,hce⟩
 ·refine A0a (d1 _ _ _ _ (k1 _ _ u1 fun c o hc e=>hs1.extBut _ _ (mz hc).1 e) (q1 _ _ t1 fun o e=>hs1.extBut _ _ D.p3 e) fun u g2 tk2 ru t1b hs2=>A0d ?_);have Qs:IsPair g2 TO a b:=hs2.extBut _ _ D.p8 (hs1.extBut _ _ D.p2 hTO);refine A0a (A2w Qs rfl (A0a (A4k Qs fun g3 W2 hs3=>?_)));refine A0a (A5r (A0d (A0a (A0a (A5d ?_)))));show wpAny _ _ (Builtin.SmallTypes.nextOf (.ref i2) >>= _) _ _ _
  refine A0a (e2 _ _ _ _ hh (k2 _ _ u2 fun c o hc e=>hs3.extBut _ _ (mz hc).2.1 (hs2.extBut _ _ (mz hc).2.2.1 (hs1.extBut _ _ (mz hc).1 e))) (q2 _ _ t2 fun o e=>hs3.extBut _ _ D.p9.symm (hs2.extBut _ _ D.p0.symm (hs1.extBut _ _ D.p4 e))) fun g4 e Yo he=>?_);obtain ⟨oe,hoe,hce⟩:=he;have hz4:IsZip g4 z TI TO .ellipsis:=Yo _ _ D.p4.symm (hs3.extBut _ _ D.p2.symm (hs2.extBut _ _ D.p3.symm hz1));have nez:e≠z:=fun q=>by subst q;rw [hz4] at hoe;cases hoe;simp at hce
  exact A2y hz4 0xA fun g5 _ Vn=>hE g5 _ e (fun c o c1 c2 c3 c4 q=>Vn.extBut _ _ c1 (Yo _ _ c4 (hs3.extBut _ _ c2 (hs2.extBut _ _ c3 (hs1.extBut _ _ c1 q))))) ⟨oe,Vn.extBut _ _ nez hoe,hce⟩
theorem Inv.nfp (I:Inv X pins σ H s) (hf:∀ b∈fp,iU X pins H b) {u:HO} (e:H b=some u):b∉fp:=fun hb=>by rw [(hf b hb).1] at e;cases e
theorem Inv.tO (I:Inv X pins σ H s) (hf:∀ b∈fp,iU X pins H b) (k:∀ b o,b∉fp->s.heap.get? b=some o->h'.get? b=some o):Inv X pins σ H { s with heap:=h',toks:=t' }:=by
 refine I.step (g':=s.gens) (d':=s.drawn) (ch:=fp) (fun b hb=>⟨(hf b hb).2.2.2.1,(hf b hb).2.1,(hf b hb).2.2.2.2.1,(hf b hb).2.2.2.2.2⟩) (fun b o _ _ hc e _=>k b o hc e) (fun b o _ _ hc e _=>⟨o.slots,k b o hc e⟩) (fun _ _ _ _ n=>n)
  (fun b o hc e=>⟨o,k b o hc e⟩) (fun _ _ e=>e) (fun _ _ _ e=>e) (fun b ps e=>⟨#[],by rw [e];simp⟩) (fun m hm=>?_) (fun b u e=>?_) I.bare
 ·obtain ⟨o,es,ep,ho,r⟩:=hm;exact ⟨o,es,ep,k _ o (fun z=>(hf _ z).2.1 rfl) ho,r⟩
 ·refine (I.hok b u e).stay (fun c v hc q=>k c v ?_ q) (fun _ q=>q) fun _ _ q=>q;rcases hc with z | z
  ·rw [z];exact I.nfp hf e
  ·exact I.nfp hf z
theorem Inv.Jr (I:Inv X pins σ H s) (hf:∀ b∈fp,iU X pins H b) (k:∀ b o,b∉fp->s.heap.get? b=some o->h'.get? b=some o) (hp:s.heap.objs.size<=p) (new:cM X.prog X.w (upd H p o) h' p o) :
  Inv X pins σ (upd H p o) { s with heap:=h',toks:=t' }:=by
 have hn:H p=none:=I.hok.fresh hp;refine I.step (g':=s.gens) (d':=s.drawn) (ch:=fp) (fun b hb=>⟨(hf b hb).2.2.2.1,(hf b hb).2.1,(hf b hb).2.2.2.2.1,(hf b hb).2.2.2.2.2⟩) (fun b o _ _ hc e _=>k b o hc e) (fun b o _ _ hc e _=>⟨o.slots,k b o hc e⟩)
  (fun b o _ e n=>by rw [ak (A0y (A0p (A0q e) hp))];exact n)
  (fun b o hc e=>⟨o,k b o hc e⟩) (fun b xs e=>by rw [ak (aq e hn)];exact e) (fun b u xs e=>by rw [ak (aq e hn)];exact e) (fun b ps e=>⟨#[],by rw [ak (aq e hn),e];simp⟩) (fun m hm=>?_) (fun b u e=>?_) I.bare
 ·obtain ⟨o,es,ep,ho,r⟩:=hm;exact ⟨o,es,ep,k _ o (fun z=>(hf _ z).2.1 rfl) ho,r⟩
 ·by_cases hb:b=p
  ·subst hb;rw [ao] at e;cases e;exact new
  ·rw [ak hb] at e;refine (I.hok b u e).stay (fun c v hc q=>k c v ?_ q) (fun c q=>?_) fun c xs q=>?_
   ·rcases hc with z | z
    ·rw [z];exact I.nfp hf e
    ·exact I.nfp hf z
   ·first
     | (rw [ak (aq q hn)];exact q)
     | exact q
   ·first
     | (rw [ak (aq q hn)];exact q)
     | exact q
def Itz (g1 g2 s1 s2:Nat->Hp->Prop) (y1 y2:Nat->Hp->V->Prop):It :=
 ⟨fun i H=>g1 i H/\g2 i H,fun i H v H'=>∃ p x y,v=.ref p/\H p=none/\H'=upd H p (.tup [x,y])/\y1 i H x/\y2 i H y,fun i H=>s1 i H\/(g1 i H/\s2 i H)⟩
theorem Qt {z TI TO:Addr}{g1 g2 s1 s2:Nat->Hp->Prop}{y1 y2:Nat->Hp->V->Prop}{t1 t2:Nat->Heap->Prop} (D:ZA z TI TO i1 i2)
  (S1:xH P w K i1 g1 s1 y1 t1) (S2:xH P w K i2 g2 s2 y2 t2) :
  Turn P w K (.Tuple elts x1 tp) (Itz g1 g2 s1 s2 y1 y2) [z,TI,TO,i1,i2] z (fun i h=>IsZip h z TI TO .none/\IsPair h TI (.ref i1) (.ref i2)/\(∃ a b,IsPair h TO a b)/\t1 i h/\t2 i h) where
 mem:=by simp
 obj:=fun i h ⟨hz,hTI,⟨a,b,hTO⟩,st1,st2⟩ c hc=>by
  simp only [List.mem_cons,A0L,A1N] at hc;rcases hc with rfl | rfl | rfl | rfl | rfl
  ·exact ⟨_,hz,fun v e=>by cases e⟩
  ·exact ⟨_,hTI,fun v e=>by cases e⟩
  ·exact ⟨_,hTO,fun v e=>by cases e⟩
  ·exact S1.obj i h st1
  ·exact S2.obj i h st2
 keep:=fun i h h' ⟨hz,hTI,⟨a,b,hTO⟩,st1,st2⟩ k=>⟨k z 0xA _ hz,k TI 0xA _ hTI,⟨a,b,k TO 0xA _ hTO⟩,S1.keep _ _ _ st1 fun o e=>k i1 0xA o e,S2.keep _ _ _ st2 fun o e=>k i2 0xA o e⟩
 item:=by
  intro X hP hw hK hc i pins s σ H E I hf ⟨hz,hTI,⟨a,b,hTO⟩,st1,st2⟩ ⟨hg1,hg2⟩;obtain ⟨U1,u1,k1,x,hx,d1⟩:=S1.item X pins σ H s i [z,TI,TO,i1,i2] hP hw hK I hf hg1;obtain ⟨U2,u2,k2,y,hy,d2⟩:=S2.item X pins σ H s i [z,TI,TO,i1,i2] hP hw hK I hf hg2;subst hP hw hK;have hT:s.TypeIs (.ref z) "zip":=⟨_,hz,rfl⟩;unfold pyNext;refine A0a (A2P (A1c (name:=Str.ofString "__next__") hT A3g (A1a A3g hT A5g
   (VR (x:=x) (y:=y) D hz hTI hTO u1 u2 st1 st2 k1 k2 (S1.keep i) (S2.keep i) (S1.keep (i+1)) (S2.keep (i+1)) d1 d2 fun u v h' tk ru rv hz' hTI' hTO' st1' st2' hp kk=>A0d ⟨_,rfl,?_⟩) (A4Y _))))
  refine wpAny_letOwnedTupleGo_zip hz' fun h2 hz2 sb=>?_;have lt:∀ {c o},s.heap.get? c=some o->c≠s.heap.objs.size:=fun e=>A0y (A0q e);have nz:z≠s.heap.objs.size:=lt hz;have kk2:∀ c o,c∉[z,TI,TO,i1,i2]->s.heap.get? c=some o->h2.get? c=some o:=fun c o hc e=>by
   simp only [List.mem_cons,A0L,A1N,not_or] at hc;exact sb.extBut _ _ hc.1 (kk c o hc.1 hc.2.2.1 hc.2.2.2.1 hc.2.2.2.2 e)
  have hp2:IsPair h2 s.heap.objs.size u v:=sb.extBut _ _ nz.symm hp;refine ⟨.ref s.heap.objs.size,_,I.Jr (o:=.tup [x,y]) hf kk2 (A0f _) ⟨wZ 0xA |> A2i,[u,v],.cons ru (.cons rv .nil),⟨_,hp2,rfl,_,rfl⟩⟩,rfl,⟨_,x,y,rfl,I.fresh,rfl,hx,hy⟩,⟨hz2,sb.extBut _ _ D.p1 hTI',⟨_,_,sb.extBut _ _ D.p2 hTO'⟩,S1.keep _ _ _ st1' fun o e=>sb.extBut _ _ D.p3 e,S2.keep _ _ _ st2' fun o e=>sb.extBut _ _ D.p4 e⟩,fun c hc=>?_⟩;have:∃ o,s.heap.get? c=some o:=by
   simp only [List.mem_cons,A0L,A1N] at hc;rcases hc with rfl | rfl | rfl | rfl | rfl
   ·exact ⟨_,hz⟩
   ·exact ⟨_,hTI⟩
   ·exact ⟨_,hTO⟩
   ·obtain ⟨o,e,_⟩:=S1.obj _ _ st1;exact ⟨o,e⟩
   ·obtain ⟨o,e,_⟩:=S2.obj _ _ st2;exact ⟨o,e⟩
  obtain ⟨o,e⟩:=this;rw [ak (lt e)];exact (hf c hc).1
 done:=by
  intro X hP hw hK hc i pins s σ H E I hf ⟨hz,hTI,⟨a,b,hTO⟩,st1,st2⟩ hs;have hT:s.TypeIs (.ref z) "zip":=⟨_,hz,rfl⟩;have fin:∀ (h':Heap) (tk:Nat),(∀ c o,c≠z->c≠TO->c≠i1->c≠i2->s.heap.get? c=some o->h'.get? c=some o)->Inv X pins σ H { s with heap:=h',toks:=tk }:=fun h' tk kk=>I.tO hf fun c o hc e=>by
   simp only [List.mem_cons,A0L,A1N,not_or] at hc;exact kk c o hc.1 hc.2.2.1 hc.2.2.2.1 hc.2.2.2.2 e
  have hh:=I.ok.hd hc;rcases hs with hs1 | ⟨hg1,hs2⟩
  ·obtain ⟨U1,u1,k1,d1⟩:=S1.done X pins σ H s i [z,TI,TO,i1,i2] hP hw hK I hf hs1;subst hP hw hK;unfold pyNext;refine A0a (A2P (A1c (name:=Str.ofString "__next__") hT A3g (A1a A3g hT A5g
    (Cq (x:=.non) (U2:=fun _=>True) (T2:=fun _=>True) (W0:=fun _=>True) hh D hz hTI hTO u1 st1 k1 (S1.keep i) (.inl d1) fun h' tk e kk he=>?_) (A4Y _))))
   obtain ⟨o,ho,hc'⟩:=he;exact A0a (A4d (T:="StopIteration") (b:=true) ⟨o,ho,hc'⟩ isSubtype_stop (A0d ⟨rfl,fin _ _ kk⟩))
  ·obtain ⟨U1,u1,k1,x,hx,d1⟩:=S1.item X pins σ H s i [z,TI,TO,i1,i2] hP hw hK I hf hg1;obtain ⟨U2,u2,k2,d2⟩:=S2.done X pins σ H s i [z,TI,TO,i1,i2] hP hw hK I hf hs2;subst hP hw hK;unfold pyNext;refine A0a (A2P (A1c (name:=Str.ofString "__next__") hT A3g (A1a A3g hT A5g
    (Cq (x:=x) (W0:=t1 (i+1)) hh D hz hTI hTO u1 st1 k1 (S1.keep i) (.inr ⟨d1,u2,st2,k2,S2.keep i,d2⟩) fun h' tk e kk he=>?_) (A4Y _))))
   obtain ⟨o,ho,hc'⟩:=he;exact A0a (A4d (T:="StopIteration") (b:=true) ⟨o,ho,hc'⟩ isSubtype_stop (A0d ⟨rfl,fin _ _ kk⟩))
 self:=fun _ _ _ _ _ st h=>wpAny_pyIter_zip st.1 h
theorem Mr (v1 v2:Value) (o1 o2:Obj) (U:Heap->Prop) (hU:∀ h o,U h->U (h.push o))
  (h1:∀ (prog:Program) (w:World) (A:Around) (Q:Value->Shared->Prop) (E:Value->Shared->Prop) (s:Shared),U s.heap->Q 0x17 { s with heap:=s.heap.push o1 }->wpAny 0xC A (pyIter v1) Q E s)
  (h2:∀ (prog:Program) (w:World) (A:Around) (Q:Value->Shared->Prop) (E:Value->Shared->Prop) (s:Shared),U s.heap->Q 0x17 { s with heap:=s.heap.push o2 }->wpAny 0xC A (pyIter v2) Q E s) :
  Meets (Builtin.«zip.__new__» ⟨[.type "zip",v1,v2],[]⟩) (fun _ R s=>U s.heap /\
   R (.ok (.ret (.ref ((((s.heap.push o1).push o2).push { cls:=.type "tuple",data:=.seq #[.ref s.heap.objs.size,.ref (s.heap.push o1).objs.size] }).push { cls:=.type "tuple",data:=.seq #[.none,.none] }).objs.size)))
    { s with heap:=((((s.heap.push o1).push o2).push { cls:=.type "tuple",data:=.seq #[.ref s.heap.objs.size,.ref (s.heap.push o1).objs.size] }).push { cls:=.type "tuple",data:=.seq #[.none,.none] }).push { cls:=.type "zip",data:=.fields #[.none,.bool false,.bool false,.ref ((s.heap.push o1).push o2).objs.size,.ref (((s.heap.push o1).push o2).push { cls:=.type "tuple",data:=.seq #[.ref s.heap.objs.size,.ref (s.heap.push o1).objs.size] }).objs.size] } }) :=
 .of_wp fun prog w A R s h=>by
  obtain ⟨hp,g,d,tk,os⟩:=s;obtain ⟨hu,h⟩:=h;have hsub:=sub_zip;have hu2:U (hp.push o1):=hU _ _ hu
  wp_walk using h1 prog w _ _ _ ⟨hp,g,d,tk,os⟩ hu,h2 prog w _ _ _ ⟨hp.push o1,g,d,tk,os⟩ hu2
  exact ⟨_,rfl,h⟩
section
theorem Qu {R:It->Hp->Prop}{v1 v2:Value}{o1 o2:Obj}{U:Heap->Prop}{g1 g2 s1 s2:Nat->Hp->Prop}{y1 y2:Nat->Hp->V->Prop}{t1 t2:Nat->Heap->Prop} (I:Inv X pins σ H s)
  (hu:U s.heap) (hU:∀ h o,U h->U (h.push o))
  (h1:∀ (prog:Program) (w:World) (A:Around) (Q:Value->Shared->Prop) (E:Value->Shared->Prop) (s:Shared),U s.heap->Q 0x17 { s with heap:=s.heap.push o1 }->wpAny 0xC A (pyIter v1) Q E s)
  (h2:∀ (prog:Program) (w:World) (A:Around) (Q:Value->Shared->Prop) (E:Value->Shared->Prop) (s:Shared),U s.heap->Q 0x17 { s with heap:=s.heap.push o2 }->wpAny 0xC A (pyIter v2) Q E s)
  (S1:xH X.prog X.w X.K s.heap.objs.size g1 s1 y1 t1) (S2:xH X.prog X.w X.K 0x12 g2 s2 y2 t2) (b1:∀ h:Heap,h.get? s.heap.objs.size=some o1->t1 0 h) (b2:∀ h:Heap,h.get? 0x12=some o2->t2 0 h) (f1:o1.isFreed=false) (f2:o2.isFreed=false)
  (q:R (Itz g1 g2 s1 s2 y1 y2) H):wpAny 0x9 X.A (call (.type "zip") [v1,v2]) (fun v s1=>wpAny 0x9 X.A (pyIter v) (PIE X pins σ (.Tuple elts x1 tp) R) E s1) E s:=by
 refine callType_new F.called_zip 0x7 (F.typeCall_zip_2 _ _) (F.newCall_zip_2 _ _) (fun obj=>F.args_object_init_3 obj _ _) F.entry_zip_new (Mr v1 v2 o1 o2 U hU h1 h2) ⟨hu,?_⟩;generalize hG1:s.heap.push o1=G1;have z1:G1.objs.size=s.heap.objs.size+1:=by rw [<- hG1];exact A1R ..
 generalize hG2:G1.push o2=G2;have z2:G2.objs.size=s.heap.objs.size+2:=by rw [<- hG2,A1R,z1]
 rw [z1,z2];generalize hG3:G2.push { cls:=.type "tuple",data:=.seq #[.ref s.heap.objs.size,.ref 0x12] }=G3;have z3:G3.objs.size=s.heap.objs.size+3:=by rw [<- hG3,A1R,z2]
 rw [z3];generalize hG4:G3.push { cls:=.type "tuple",data:=.seq #[.none,.none] }=G4;have z4:G4.objs.size=s.heap.objs.size+4:=by rw [<- hG4,A1R,z3]
 rw [z4];generalize hG5:G4.push { cls:=.type "zip",data:=.fields #[.none,.bool false,.bool false,.ref (s.heap.objs.size+2),.ref (s.heap.objs.size+3)] }=G5;have e5:IsZip G5 (s.heap.objs.size+4) (s.heap.objs.size+2) (s.heap.objs.size+3) .none:=by rw [<- z4,<- hG5];exact A0n _ rfl
 have e4:IsPair G5 (s.heap.objs.size+3) .none .none:=by rw [<- z3,<- hG5];exact A0b _ (by rw [<- hG4];exact A0n _ rfl)
 have e3:IsPair G5 (s.heap.objs.size+2) 0x17 (.ref 0x12):=by rw [<- z2,<- hG5];exact A0b _ (by rw [<- hG4];exact A0b _ (by rw [<- hG3];exact A0n _ rfl))
 have up2:∀ c o,G2.get? c=some o->G5.get? c=some o:=fun c o e=>by rw [<- hG5];exact A0b _ (by rw [<- hG4];exact A0b _ (by rw [<- hG3];exact A0b _ e))
 have e2:G5.get? 0x12=some o2:=up2 _ _ (by rw [<- z1,<- hG2];exact A0n _ f2);have e1:G5.get? s.heap.objs.size=some o1:=up2 _ _ (by rw [<- hG2];exact A0b _ (by rw [<- hG1];exact A0n _ f1));have all:∀ c o,s.heap.get? c=some o->G5.get? c=some o:=fun c o e=>up2 _ _ (by rw [<- hG2];exact A0b _ (by rw [<- hG1];exact A0b _ e));refine ⟨⟨_,e5,rfl⟩,wpAny_pyIter_zip e5 ?_⟩;have ne:∀ {m n:Nat},m≠n->s.heap.objs.size+m≠s.heap.objs.size+n:=fun h z=>h (Nat.add_left_cancel z);refine ⟨_,_,_,_,H,rfl,I.kept (t':=s.toks) all,Qt ⟨ne 0x7,ne 0x7,ne (m:=0) 0x7,ne 0x7,ne 0x7,ne (n:=0) 0x7,ne 0x7,ne (n:=0) 0x7,ne 0x7,ne (m:=0) 0x7⟩ S1 S2,⟨e5,e3,⟨_,_,e4⟩,b1 _ e1,b2 _ e2⟩,fun b hb=>?_,q⟩;have hle:s.heap.objs.size<=b:=by
  simp only [List.mem_cons,A0L,A1N] at hb;rcases hb with rfl | rfl | rfl | rfl | rfl <;> lia
 exact I.uG hle (I.hok.fresh hle)
abbrev Js (K:PySem.W.Frag) (a b:Addr):It:=Itz (fun i H=>∃ xs x,bR K H a xs/\xs[i]?=some x) (fun i H=>∃ xs x,bR K H b xs/\xs[i]?=some x) (fun i H=>∃ xs,bR K H a xs/\xs.length<=i) (fun i H=>∃ xs,bR K H b xs/\xs.length<=i)
 (fun i H x=>∀ xs,bR K H a xs->xs[i]?=some x) (fun i H x=>∀ xs,bR K H b xs->xs[i]?=some x)
abbrev Jt (K:PySem.W.Frag) (a b:Addr):It:=Itz (fun i H=>∃ xs x,bT K H a xs/\xs[i]?=some x) (fun i H=>∃ xs x,bT K H b xs/\xs[i]?=some x) (fun i H=>∃ xs,bT K H a xs/\xs.length<=i) (fun i H=>∃ xs,bT K H b xs/\xs.length<=i)
 (fun i H x=>∀ xs,bT K H a xs->xs[i]?=some x) (fun i H x=>∀ xs,bT K H b xs->xs[i]?=some x)
inductive Cr (K:W.Frag) (R:It->Hp->Prop) (vs:List V) (H1:Hp):Prop
 | mk (a b:Addr) (_:vs=[.ref a,.ref b]) (_:(∃ xs,bR K H1 a xs)) (_:(∃ xs,bR K H1 b xs)) (_:R (Js K a b) H1):Cr K R vs H1
def ZF (K:PySem.W.Frag) (ta:TA):TI:=fun σ H R=>ta σ H fun vs H1=>Cr K R vs H1
inductive Cu (K:W.Frag) (R:It->Hp->Prop) (vs:List V) (H1:Hp):Prop
 | mk (a b:Addr) (_:vs=[.ref a,.ref b]) (_:(∃ xs,bT K H1 a xs)) (_:(∃ xs,bT K H1 b xs)) (_:R (Jt K a b) H1):Cu K R vs H1
def ZG (K:PySem.W.Frag) (ta:TA):TI:=fun σ H R=>ta σ H fun vs H1=>Cu K R vs H1
variable {a b:Expr}{ta:TA}{p:Pos}
theorem Qw (hg:Gl X "zip") (hm:X.mg "zip"=none) (ha:PA X [a,b] ta) (hs:starEach [a,b] X.env=[(false,eval a X.env),(false,eval b X.env)]:=by rfl) (hs2:starEach [b] X.env=[(false,eval b X.env)]:=by rfl) :
  PI X (.Tuple elts x1 tp) (.Call (.Name "zip" p) [a,b] [] pos) (ZF X.K ta):=by
 intro pins s σ H R I h;refine Call_ (oZ I hg hm Qq (A2s (cL (ha pos pins s σ H _ I h) fun us s1 ⟨vs,H1,I1,r1,q1⟩=>?_) (by rw [hs,hs2]) (by rw [hs2];rfl)));obtain ⟨c,d,rfl,⟨xs,hx⟩,⟨ys,hy⟩,q⟩:=q1;obtain ⟨u,u',rfl,ru,ru'⟩:=vals2 r1;cases ru;cases ru';obtain ⟨its,rv,p1,_⟩:=I1.tuple hx;obtain ⟨its2,rv2,p2,_⟩:=I1.tuple hy;exact Qu (U:=fun h=>h.IsTuple c its.toArray/\h.IsTuple d its2.toArray) I1 ⟨p1,p2⟩ (fun h o ⟨⟨oc,e,r⟩,⟨od,e',r'⟩⟩=>⟨⟨oc,A0b _ e,r⟩,⟨od,A0b _ e',r'⟩⟩)
  (fun prog w A Q E s hu hQ=>wpAny_pyIter_tuple hu.1 hQ) (fun prog w A Q E s hu hQ=>wpAny_pyIter_tuple hu.2 hQ) (Jp c _) (Jp d _) (fun h e=>⟨_,e,rfl,rfl⟩) (fun h e=>⟨_,e,rfl,rfl⟩) rfl rfl q
theorem Qx (hg:Gl X "zip") (hm:X.mg "zip"=none) (ha:PA X [a,b] ta) (hs:starEach [a,b] X.env=[(false,eval a X.env),(false,eval b X.env)]:=by rfl) (hs2:starEach [b] X.env=[(false,eval b X.env)]:=by rfl) :
  PI X (.Tuple elts x1 tp) (.Call (.Name "zip" p) [a,b] [] pos) (ZG X.K ta):=by
 intro pins s σ H R I h;refine Call_ (oZ I hg hm Qq (A2s (cL (ha pos pins s σ H _ I h) fun us s1 ⟨vs,H1,I1,r1,q1⟩=>?_) (by rw [hs,hs2]) (by rw [hs2];rfl)));obtain ⟨c,d,rfl,⟨xs,hx⟩,⟨ys,hy⟩,q⟩:=q1;obtain ⟨u,u',rfl,ru,ru'⟩:=vals2 r1;cases ru;cases ru';obtain ⟨its,rv,p1,_⟩:=I1.list hx;obtain ⟨its2,rv2,p2,_⟩:=I1.list hy;exact Qu (U:=fun h=>h.IsList c its.toArray/\h.IsList d its2.toArray) I1 ⟨p1.isList,p2.isList⟩ (fun h o ⟨⟨oc,e,r⟩,⟨od,e',r'⟩⟩=>⟨⟨oc,A0b _ e,r⟩,⟨od,A0b _ e',r'⟩⟩)
  (fun prog w A Q E s hu hQ=>A3m hu.1 hQ) (fun prog w A Q E s hu hQ=>A3m hu.2 hQ) (Jq c _) (Jq d _) (fun h e=>⟨_,e,rfl,rfl⟩) (fun h e=>⟨_,e,rfl,rfl⟩) rfl rfl q
end
theorem qd {J:It}{fx fy:Nat->V}{k:Nat}{Q:VK} (Pv:Nat->List V->Hp->Prop)
  (hJ:∀ i ys H,Pv i ys H->(i<n->J.go i H/\∀ v H',J.J8 i H v H'->∃ p,v=.ref p/\H p=none/\H'=upd H p (.tup [fx i,fy i]))/\(n<=i->J.stop i H)) (h0:Pv 0 [] (upd H1 D (.lst []))) (hD:∀ i ys H,Pv i ys H->H D=some (.lst ys))
  (hs:∀ i ys H p,i<n->Pv i ys H->H p=none->Cj D σ k ix g tt te (.ref p) ys (upd H p (.tup [fx i,fy i])) (Pv (i+1))) (hd:∀ ys H,Pv n ys H->Q (.ref D) H):pD J D σ k ix g tt te Q H1:=by
 refine ⟨fun i m ys H=>m=n - i/\i<=n/\Pv i ys H,⟨n,by simp,A0Z _,h0⟩,?_⟩;rintro i m ys H ⟨rfl,hi,p⟩;refine ⟨hD i ys H p,?_⟩;obtain ⟨h1,h2⟩:=hJ i ys H p
 by_cases hlt:i<n
 ·obtain ⟨hg,hy⟩:=h1 hlt;refine .inr ⟨hg,Pv (i+1),fun zs H' p'=>⟨n - (i+1),by lia,rfl,hlt,p'⟩,fun x H' y=>?_⟩;obtain ⟨q,rfl,hq,rfl⟩:=hy x H' y;exact hs i ys H q hlt p hq
 ·have e:i=n:=by lia
  subst e;exact .inl ⟨h2 (A0f _),hd ys H p⟩
theorem Cv (ha:bR K H a xs) (hb:bR K H b ys) (hl:xs.length=ys.length) :
  (i<xs.length->(Js K a b).go i H/\∀ v H',(Js K a b).J8 i H v H'->∃ p,v=.ref p/\H p=none/\H'=upd H p (.tup [xs.getD i .non,ys.getD i .non]))/\(xs.length<=i->(Js K a b).stop i H):=by
 refine 0x4F;rw [e3,qT,qT,e4 xs ha,e5 ys hb];rfl
theorem Cw (ha:bT K H a xs) (hb:bT K H b ys) (hl:xs.length=ys.length) :
  (i<xs.length->(Jt K a b).go i H/\∀ v H',(Jt K a b).J8 i H v H'->∃ p,v=.ref p/\H p=none/\H'=upd H p (.tup [xs.getD i .non,ys.getD i .non]))/\(xs.length<=i->(Jt K a b).stop i H):=by
 refine 0x4F;rw [e3,qT,qT,e4 xs ha,e5 ys hb];rfl
theorem qe {es:List Expr}{k:Nat}{t:Zc} (hc:X.calm=true) (h:PGs X es t) (hK:X.K=K:=by rfl)
  (hn:(assignEach es X.env).length=n:=by rfl) (hst:(assignEach es X.env).findIdx? (·.1)=none:=by rfl):PG X (.Tuple es k pos) (Zd K n t):=hK ▸ lq hc h hn hst
def nH:Nat:=2 ^ 9000
theorem Ju (h:n<nH):n.log2<9000:=by
 by_cases h0:n=0
 ·subst h0;decide
 ·exact (Nat.log2_lt h0).mpr h
theorem Cy {i:Int} (h:i.natAbs<nH):Builtin.Int.intBits i<=2 ^ 20:=by
 have e:(2:Nat) ^ 20=1048576:=by decide
 have:=Ju h;unfold Builtin.Int.intBits
 split <;> lia
theorem qg:nu X (binaryOp .FloorDiv) (rI (fun _ j=>j≠0/\j.natAbs<nH) fun i j=>.int (i.fdiv j)):=opI fun _ _ _ _ _ _ _ hc q=>floordiv_int hc.1 q (.inl (PyProof.noPylong_of_log2 (Ju hc.2)))
theorem jF:nu X (binaryOp .Mult) (rI (fun i j=>i.natAbs<nH/\j.natAbs<nH) fun i j=>.int (i * j)):=opI fun _ _ _ _ _ _ _ hc q=>mul_int q (IntMulOk.of_bits (Cy hc.1) (Cy hc.2))
def qj (n:Nat) (l:List Nat):List Nat:=(List.replicate n l).flatten
theorem Cz (l:Array Nat):∀ (n:Nat) (acc:Array Nat),((List.replicate n l).foldl (·++·) acc).toList=acc.toList++qj n l.toList
 | 0,acc=>by simp [qj]
 | n+1,acc=>by
  rw [A3x,A1t,Cz l n];simp [qj,A3x]
theorem W4 (n:Nat) (l:List Nat):(qj n l).length=n * l.length:=by
 unfold qj
 induction n with
 | zero=>simp
 | succ n ih=>rw [A3x,List.flatten_cons,iT,ih,Nat.succ_mul];lia
theorem Gd:nu X (binaryOp .Mult) (fun x y H Q=>∃ z n,x=.str z/\y=.int n/\0<=n/\n<=1000/\z.length<=1000/\Q (.str (n6 (qj n.toNat z.cps.toList))) H):=by
 intro pins s σ H x y v u Q I rx ry h;obtain ⟨z,n,rfl,rfl,h0,h1,hz,q⟩:=h;obtain ⟨t,rfl⟩:=rx;obtain ⟨t',rfl⟩:=ry;have hl:z.length * n.toNat<=1000000:=A0M (Nat.mul_le_mul hz (show n.toNat<=1000 by lia)) 0x7
 have hsl:z.length * n.toNat<=sizeLine:=A0M hl 0x7;refine PySem.P.mul_str (by rw [A0s 0x2,A0s 0x2];rfl) (fun hn _=>?_) (fun _ _=>by unfold Builtin.Str.tooLong;simp;lia) ?_
 ·have:(1000:Int)<=(2 ^ 63 - 1) / n:=Int.le_ediv_of_mul_le 0x2 0x2;lia
 ·by_cases hn:n<1
  ·rw [A0i hn];have e:n.toNat=0:=by lia
   refine ⟨by decide,.str _,H,I.tok _,⟨_,rfl⟩,?_⟩;have e2:n6 (qj n.toNat z.cps.toList)=Str.empty:=by rw [e];rfl
   rw [<- e2];exact q
  ·rw [A0e hn]
   by_cases hc:(n==1||z.length==0)=true
   ·rw [A0i hc];refine ⟨.str z,H,I,⟨t,rfl⟩,?_⟩;have e2:n6 (qj n.toNat z.cps.toList)=z:=by
     rcases Bool.or_eq_true_iff.mp hc with e | e
     ·have e':n=1:=by simpa using e
      subst e';simp [qj,nG]
     ·have e':z.cps.toList=[]:=by
       have:z.length=0:=by simpa using e
       simp only [Str.length] at this
       simpa using this
      have:∀ k,qj k ([]:List Nat)=[]:=fun k=>by simp [qj]
      rw [e',this,<- e',nG]
    rw [<- e2];exact q
   ·rw [A0e hc];have e2:(⟨(List.replicate n.toNat z.cps).foldl (·++·) #[]⟩:Str)=n6 (qj n.toNat z.cps.toList):=qb (by
     show ((List.replicate n.toNat z.cps).foldl (·++·) #[]).toList=_
     rw [Cz];simp)
    rw [e2];refine ⟨?_,.str _,H,I.tok _,⟨_,rfl⟩,q⟩;rw [jE,W4];have:z.cps.toList.length=z.length:=by simp [Str.length]
    rw [this,Nat.mul_comm];exact hsl
mutual
inductive cO (H:Hp):V->PyData->Prop
 | non:cO H .non .none
 | bl (b:_):cO H (.bl b) (.bool b)
 | int (i:_):cO H (.int i) (.int i)
 | str (x:_):cO H (.str x) (.str x)
 | lst {p xs ds:_}:H p=some (.lst xs)->dJ H xs ds->cO H (.ref p) (.list ds)
 | tup {p xs ds:_}:H p=some 0x3E->dJ H xs ds->cO H (.ref p) (.tuple ds)
inductive dJ (H:Hp):List V->List PyData->Prop
 | nil:dJ H [] []
 | cons {v vs d ds:_}:cO H v d->dJ H vs ds->dJ H (v::vs) (d::ds)
end
mutual
theorem cO.same {H H':Hp} (s:Same H H'):∀ {v:V}{d:PyData},cO H v d->cO H' v d
 | _,_,.non=>.non
 | _,_,.bl b=>.bl b
 | _,_,.int i=>.int i
 | _,_,.str x=>.str x
 | _,_,.lst h r=>.lst (s _ _ h) (dJ.same s r)
 | _,_,.tup h r=>.tup (s _ _ h) (dJ.same s r)
theorem dJ.same {H H':Hp} (s:Same H H'):∀ {vs:List V}{ds:List PyData},dJ H vs ds->dJ H' vs ds
 | _,_,.nil=>.nil
 | _,_,.cons h r=>.cons (cO.same s h) (dJ.same s r)
end
mutual
theorem cO.reads (I:Inv X pins σ H s):∀ {v:V}{d:PyData}{u:Value},cO H v d->RelV v u->∃ as,Reads s.heap u d as
 | _,_,_,.non,r=>by cases r;exact ⟨_,.none⟩
 | _,_,_,.bl b,r=>by cases r;exact ⟨_,.bool b⟩
 | _,_,_,.int i,r=>by obtain ⟨t,rfl⟩:=r;exact ⟨_,.int i t⟩
 | _,_,_,.str x,r=>by obtain ⟨t,rfl⟩:=r;exact ⟨_,.str x t⟩
 | _,_,_,.lst h q,r=>by
  cases r;obtain ⟨_,its,n,rv,e⟩:=(I.hok _ _ h);obtain ⟨as,ra⟩:=dJ.reads I q rv;exact ⟨_,.list e rfl rfl (by simpa using ra)⟩
 | _,_,_,.tup h q,r=>by
  cases r;obtain ⟨_,its,rv,o,e,c,n,dd⟩:=(I.hok _ _ h);obtain ⟨as,ra⟩:=dJ.reads I q rv;exact ⟨_,.tuple e c dd (by simpa using ra)⟩
theorem dJ.reads (I:Inv X pins σ H s):∀ {vs:List V}{ds:List PyData}{us:List Value},dJ H vs ds->Vals vs us->∃ as,ReadsAll s.heap us ds as
 | _,_,_,.nil,r=>by cases r;exact ⟨_,.nil⟩
 | _,_,_,.cons h q,r=>by
  cases r with
  | cons r1 r2 =>
   obtain ⟨as,ra⟩:=cO.reads I h r1;obtain ⟨bs,rb⟩:=dJ.reads I q r2;exact ⟨_,.cons ra rb⟩
end
inductive ZJ (x y:V) (H:Hp) (Q:VK):Prop
 | mk (dx dy:PySem.PyData) (_:cO H x dx) (_:cO H y dy) (_:dx.canLay0=true) (_:dy.canLay0=true) (_:dx.depth<=8) (_:Q (.bl (PyData.eqv dx dy)) H):ZJ x y H Q
inductive rNeD (x y:V) (H:Hp) (Q:VK):Prop
 | mk (dx dy:PySem.PyData) (_:cO H x dx) (_:cO H y dy) (_:dx.canLay0=true) (_:dy.canLay0=true) (_:dx.depth<=8) (_:Q (.bl (!PyData.eqv dx dy)) H):rNeD x y H Q
theorem ZK (hu:X.A.units+64<cLine):nu X (compareOp .Eq) ZJ:=by
 intro pins s σ H x y v u Q I rx ry h;obtain ⟨dx,dy,h1,h2,c1,c2,dp,q⟩:=h;obtain ⟨as,ra⟩:=h1.reads I rx;obtain ⟨bs,rb⟩:=h2.reads I ry;exact SeqAt.compareEq_reads ra rb c1 c2 0x2 ⟨.bl _,H,I,rfl,q⟩
theorem Qy (hu:X.A.units+64<cLine):nu X (compareOp .NotEq) rNeD:=by
 intro pins s σ H x y v u Q I rx ry h;obtain ⟨dx,dy,h1,h2,c1,c2,dp,q⟩:=h;obtain ⟨as,ra⟩:=h1.reads I rx;obtain ⟨bs,rb⟩:=h2.reads I ry;exact SeqAt.compareNe_reads ra rb c1 c2 0x2 ⟨.bl _,H,I,rfl,q⟩
open PySem.W PySem.Builtin.ObjectAttr PySem.Builtin.Getset_descriptor
structure XC (K:PySem.W.Frag) (D:Addr):Prop where
 ga:findIn K (.ref D) "__getattribute__"=some (some (.builtin "BaseException.__getattribute__"))
 gh:findIn K (.ref D) "__getattr__"=some none
 cl:(clsIn K D).isSome=true
 ca:findIn K (.ref D) "__class__"=some (some (.builtin "object.__class__"))
 gs:specialIn K (.builtin "object.__class__") "__get__"=some (some (.builtin "getset_descriptor.__get__"))
 tk:takesIn K (.builtin "object.__class__")=some true
 ob:mroIn K D (.type "object")=some true
 be:mroIn K D (.type "BaseException")=some true
section
variable {x:Addr}
end
structure Fly (B h0 h:Heap) (outer:List Env) (H':Hp) (ea:Addr) (C a0:Value):Prop where
 fl:Heap.FlyingW B outer ea C a0 h
 tr:∀ b o,H' b=some o->∃ u,B.get? b=some u
 old:∀ b o,h0.get? b=some o->b∉frs outer->∃ u,B.get? b=some u
section
variable {cd:Value}{E:XK}
end
section
variable {k:Nat}{pX:List V}{ds:List Value}{E:St->XK}{m:Str}{p:Pos}{o:Expr}{es:List Expr}{t:TA}
end
section
variable {Pa:List 0x22}{xe:Value->Shared->Prop}{ea:Addr}
end
section
variable {κ:Type} [DecidableEq κ]
def bJ (kvs:List (κ×V)) (k:κ):Option V:=(kvs.find? fun kv=>decide (kv.1=k)).map (·.2)
def putK (kvs:List (κ×V)) (k:κ) (v:V):List (κ×V) :=
 if (kvs.any fun kv=>decide (kv.1=k))=true then kvs.map (fun kv=>if kv.1=k then (kv.1,v) else kv) else kvs++[(k,v)]
def jk (kvs:List (κ×V)) (k:κ):List (κ×V):=kvs.filter fun kv=>decide (kv.1≠k)
theorem fu {p:κ×V}{r:List (κ×V)}{k:κ} (e:p.1=k):bJ (p::r) k=some p.2:=by simp [bJ,A2o,e]
theorem eN {p:κ×V}{r:List (κ×V)}{k:κ} (e:¬ p.1=k):bJ (p::r) k=bJ r k:=by simp [bJ,A2o,e]
theorem lX (k:κ):∀ kvs:List (κ×V),(kvs.any fun kv=>decide (kv.1=k))=(bJ kvs k).isSome
 | []=>rfl
 | p::r=>by
  rw [A2t]
  by_cases e:p.1=k
  ·simp only [fu e,A0j e,Bool.true_or,Option.isSome_some]
  ·rw [eN e,A0s e,Bool.false_or];exact lX k r
theorem CG (k j:κ) (y:V):∀ kvs:List (κ×V),bJ (kvs.map fun kv=>if kv.1=k then (kv.1,y) else kv) j=(bJ kvs j).map fun x=>if j=k then y else x
 | []=>rfl
 | p::r=>by
  have ih:=CG k j y r;rw [A0g]
  by_cases h:p.1=k
  ·rw [A0i h]
   by_cases e:p.1=j
   ·rw [fu (p:=(p.1,y)) e,fu e,A4q,A0i (e.symm.trans h)]
   ·rw [eN (p:=(p.1,y)) e,eN e,ih]
  ·rw [A0e h]
   by_cases e:p.1=j
   ·rw [fu (p:=p) e,fu e,A4q,A0e (fun z=>h (e.trans z))]
   ·rw [eN (p:=p) e,eN e,ih]
theorem xM (k j:κ) (y:V):∀ kvs:List (κ×V),bJ kvs k=none->bJ (kvs++[(k,y)]) j=if j=k then some y else bJ kvs j
 | [],_=>by
  by_cases e:k=j
  ·rw [A0i e.symm];exact fu (p:=(k,y)) e
  ·rw [A0e (fun z=>e z.symm)];exact eN (p:=(k,y)) e
 | p::r,hn=>by
  rw [A2f];have hk:¬ p.1=k:=fun z=>by rw [fu z] at hn;cases hn
  rw [eN hk] at hn;have ih:=xM k j y r hn
  by_cases e:p.1=j
  ·rw [fu e,fu e,A0e (fun z=>hk (e.trans z))]
  ·rw [eN e,eN e,ih]
theorem bK (kvs:List (κ×V)) (k j:κ) (y:V):bJ (putK kvs k y) j=if j=k then some y else bJ kvs j:=by
 unfold putK
 by_cases a:(kvs.any fun kv=>decide (kv.1=k))=true
 ·rw [A0i a,CG];rw [lX] at a
  by_cases e:j=k
  ·obtain ⟨x,hx⟩:=A2N.mp a;rw [A0i e,e,hx,A4q,A0i rfl]
  ·rw [A0e e];cases bJ kvs j with
   | none=>rfl
   | some x=>rw [A4q,A0e e]
 ·rw [A0e a];refine xM k j y kvs ?_;rw [lX] at a;cases q:bJ kvs k with
  | none=>rfl
  | some x=>rw [q] at a;exact (a rfl).elim
theorem cV (kvs:List (κ×V)) (k:κ) (v:V):(putK kvs k v).length<=kvs.length+1:=by
 unfold putK
 split
 ·rw [cg];lia
 ·rw [iT,pN,A4r];lia
theorem Qz {kvs:List (κ×V)}{k:κ} (v:V) (h:bJ kvs k=none):putK kvs k v=kvs++[(k,v)]:=by
 unfold putK;rw [lX,h];exact A0e 0x7
theorem jA.iW {o:Option V}{u:Option Value} (r:jA o u):o.isSome=u.isSome:=by
 cases o with
 | none=>cases u with
  | none=>rfl
  | some _=>exact (show False from r).elim
 | some _=>cases u with
  | none=>exact (show False from r).elim
  | some _=>rfl
theorem jA.getD {o:Option V}{u:Option Value}{d:V}{d':Value} (r:jA o u) (rd:RelV d d'):RelV (o.getD d) (u.getD d'):=by
 cases o with
 | none=>cases u with
  | none=>exact rd
  | some _=>exact (show False from r).elim
 | some _=>cases u with
  | none=>exact (show False from r).elim
  | some _=>exact r
theorem KV.val {kvs:List (κ×V)}{vs:List (κ×Value)} (r:KV kvs vs) (k:κ):jA (bJ kvs k) (valueAt vs k):=by
 unfold KV at r
 induction r with
 | nil=>exact True.intro
 | @cons p q ps qs h t ih =>
  obtain ⟨h1,h2⟩:=h
  by_cases e:p.1=k
  ·have e':q.1=k:=h1.symm.trans e;have b:valueAt (q::qs) k=some q.2:=by simp [valueAt,A2o,e']
   rw [fu e,b];exact h2
  ·have e':¬ q.1=k:=fun z=>e (h1.trans z);have b:valueAt (q::qs) k=valueAt qs k:=by simp [valueAt,A2o,e']
   rw [eN e,b];exact ih
theorem KV.any {kvs:List (κ×V)}{vs:List (κ×Value)} (r:KV kvs vs) (k:κ):(kvs.any fun kv=>decide (kv.1=k))=vs.any fun kv=>decide (kv.1=k):=by
 unfold KV at r
 induction r with
 | nil=>rfl
 | cons h t ih=>rw [A2t,A2t,ih,h.1]
theorem KV.repl {kvs:List (κ×V)}{vs:List (κ×Value)} (r:KV kvs vs) (k:κ)  (ry:RelV y u) :
  KV (kvs.map fun kv=>if kv.1=k then (kv.1,y) else kv) (vs.map fun kv=>if kv.1=k then (kv.1,u) else kv):=by
 unfold KV at r ⊢
 induction r with
 | nil=>exact .nil
 | @cons p q ps qs h t ih =>
  rw [A0g,A0g];refine .cons ?_ ih;obtain ⟨h1,h2⟩:=h
  by_cases e:p.1=k
  ·rw [A0i e,A0i (h1.symm.trans e)];exact ⟨h1,ry⟩
  ·rw [A0e e,A0e (fun z=>e (h1.trans z))];exact ⟨h1,h2⟩
theorem KV.put {kvs:List (κ×V)}{vs:List (κ×Value)} (r:KV kvs vs) (k:κ)  (ry:RelV y u):KV (putK kvs k y) (stored vs k u):=by
 unfold putK stored;rw [r.any k]
 by_cases e:(vs.any fun kv=>decide (kv.1=k))=true
 ·rw [A0i e,A0i e];exact r.repl k ry
 ·rw [A0e e,A0e e];exact Paired.snoc r ⟨rfl,ry⟩
theorem KV.drop {kvs:List (κ×V)}{vs:List (κ×Value)} (r:KV kvs vs) (k:κ):KV (jk kvs k) (without vs k):=by
 unfold KV at r ⊢;unfold jk without
 induction r with
 | nil=>exact .nil
 | @cons p q ps qs h t ih =>
  obtain ⟨h1,h2⟩:=h;rw [List.filter_cons,List.filter_cons]
  by_cases e:p.1=k
  ·have a:¬ decide (p.1≠k)=true:=by simp [e]
   have b:¬ decide (q.1≠k)=true:=by simp [h1.symm.trans e]
   rw [A0e a,A0e b];exact ih
  ·have e':¬ q.1=k:=fun z=>e (h1.trans z);have a:decide (p.1≠k)=true:=by simp [e]
   have b:decide (q.1≠k)=true:=by simp [e']
   rw [A0i a,A0i b];exact .cons ⟨h1,h2⟩ ih
theorem KV.length {kvs:List (κ×V)}{vs:List (κ×Value)} (r:KV kvs vs):kvs.length=vs.length:=A4h r
theorem CJ (kvs:List (κ×V)) (k:κ):(jk kvs k).length<=kvs.length:=A0K _ _
end
theorem oW {k:Key} (r:RelV (kV k) u):(bV P w).is k u=true:=by
 cases k with
 | inl i=>obtain ⟨t,e⟩:=(show ∃ t,u=Value.int i t from r);subst e;exact Br P w i t
 | inr x=>obtain ⟨t,e⟩:=(show ∃ t,u=Value.str x t from r);subst e;exact Bs P w x t
theorem xO:∀ {ks:List Key}{us:List Value},Vals (ks.map kV) us->ItemsAre (bV P w) ks us
 | [],_,r=>by rw [A3U] at r;cases r;exact .nil
 | k::ks,_,r=>by
  rw [A0g] at r;cases r with
  | cons h t=>exact .cons (oW h) (xO t)
abbrev KT (H:Hp):List (List Key×V)->List (List Key×Addr×Value)->Prop:=Paired fun p q=>p.1=q.1/\H q.2.1=some (.tup (p.1.map kV))/\RelV p.2 q.2.2
theorem KT.val {kvs:List (List Key×V)}{xs:List (List Key×Addr×Value)} (r:KT H kvs xs) (k:List Key):jA (bJ kvs k) ((atKey xs k).map (·.2)):=by
 induction r with
 | nil=>exact True.intro
 | @cons p q ps qs h t ih =>
  obtain ⟨h1,_,h2⟩:=h
  by_cases e:p.1=k
  ·have e':q.1=k:=h1.symm.trans e;have b:atKey (q::qs) k=some q.2:=by simp [atKey,A2o,e']
   rw [fu e,b];exact h2
  ·have e':¬ q.1=k:=fun z=>e (h1.trans z);have b:atKey (q::qs) k=atKey qs k:=by simp [atKey,A2o,e']
   rw [eN e,b];exact ih
theorem KT.repl {kvs:List (List Key×V)}{xs:List (List Key×Addr×Value)} (r:KT H kvs xs) (k:List Key)  (ry:RelV y u) :
  KT H (kvs.map fun kv=>if kv.1=k then (kv.1,y) else kv) (xs.map (putAt k u)):=by
 induction r with
 | nil=>exact .nil
 | @cons p q ps qs h t ih =>
  rw [A0g,A0g];refine .cons ?_ ih;obtain ⟨h1,h2,h3⟩:=h;unfold putAt
  by_cases e:p.1=k
  ·rw [A0i e,A0i (h1.symm.trans e)];exact ⟨h1,h2,ry⟩
  ·rw [A0e e,A0e (fun z=>e (h1.trans z))];exact ⟨h1,h2,h3⟩
theorem KT.put {kvs:List (List Key×V)}{xs:List (List Key×Addr×Value)} (r:KT H kvs xs) (k:List Key)  (hb:H b=some (.tup (k.map kV))) (ry:RelV y u) :
  KT H (putK kvs k y) (storedH xs k b u):=by
 have e:(kvs.any fun kv=>decide (kv.1=k))=(atKey xs k).isSome:=by
  rw [lX,(r.val k).iW,A4Z]
 unfold putK storedH;rw [e]
 by_cases q:(atKey xs k).isSome=true
 ·rw [A0i q,A0i q];exact r.repl k ry
 ·rw [A0e q,A0e q];exact Paired.snoc r ⟨rfl,hb,ry⟩
theorem KT.keeps {kvs:List (List Key×V)}{xs:List (List Key×Addr×Value)} (r:KT H kvs xs) (ht:∀ b ys,H b=some (.tup ys)->H' b=some (.tup ys)):KT H' kvs xs :=
 Paired.Oz r fun _ _ z=>⟨z.1,ht _ _ z.2.1,z.2.2⟩
theorem Yp {u:HO} (ok:nZ P w H h) (e:Rd H a u):cM P w H h a u:=e.ok ok
theorem uQ (ok:nZ P w H h) (e:Rd H a 0x24):kvs.length<=sizeLine/\(a==sysModules)=false/\∃ vs,KV kvs vs/\h.DictOf (bV P w) a vs :=
 show cM P w H h a 0x24 from Yp ok e
theorem oX (ok:nZ P w H h) (e:H a=some 0x24):kvs.length<=sizeLine/\(a==sysModules)=false/\∃ vs,KV kvs vs/\h.DictOf (bV P w) a vs:=uQ ok (.inl e)
theorem rF {ks:List Key} (ok:nZ P w H h) (e:H a=some (.tup (ks.map kV))):(tupleKind (bV P w)).is h ks a:=by
 obtain ⟨_,its,r,o,h1,h2,n,h3⟩:=(show cM P w H h a (.tup (ks.map kV)) from ok a _ e)
 exact ⟨o,its.toArray,n,h1,h2,h3,by simpa using xO r⟩
theorem uR {kvs:List (List Key×V)} (ok:nZ P w H h) (e:Rd H a (.dT kvs)):kvs.length<=sizeLine/\(a==sysModules)=false /\
  ∃ xs,KT H kvs xs/\h.DictOfH (tupleKind (bV P w)) a xs:=by
 obtain ⟨z,y,xs,r,o,es,ep,h1,h2,h3,h4,h5⟩:=(show cM P w H h a (.dT kvs) from Yp ok e)
 refine ⟨z,y,xs,r,o,es,ep,h1,h2,h3,h4,fun x hx=>?_,h5⟩;have all:∀ {l:List (List Key×V)}{m:List (List Key×Addr×Value)},KT H l m->∀ x∈m,(tupleKind (bV P w)).is h x.1 x.2.1:=by
  intro l m q
  induction q with
  | nil=>intro x hx;exact nomatch hx
  | @cons p q ps qs hq t ih =>
   intro x hx;rcases List.mem_cons.mp hx with e | hx
   ·subst e;exact rF ok (by rw [<- hq.1];exact hq.2.1)
   ·exact ih x hx
 exact all r x hx
theorem a1z {kvs:List (List Key×V)} (ok:nZ P w H h) (e:H a=some (.dT kvs)):kvs.length<=sizeLine/\(a==sysModules)=false /\
  ∃ xs,KT H kvs xs/\h.DictOfH (tupleKind (bV P w)) a xs:=uR ok (.inl e)
def fQ (H:Hp) (a:Addr) (y:V) (r:Option V):Prop :=
 (∃ kvs k,Rd H a 0x24/\y=kV k/\r=bJ kvs k)\/∃ kvs k b,Rd H a (.dT kvs)/\y=.ref b/\H b=some (.tup (k.map kV))/\r=bJ kvs k
def iR (H:Hp) (a:Addr) (y v:V) (H':Hp):Prop :=
 (∃ kvs k,H a=some 0x24/\y=kV k/\kvs.length<sizeLine/\H'=upd H a (.dK (putK kvs k v))) \/
 ∃ kvs k b,H a=some (.dT kvs)/\y=.ref b/\H b=some (.tup (k.map kV))/\kvs.length<sizeLine/\H'=upd H a (.dT (putK kvs k v))
theorem fQ.k {k:Key} (e:H a=some 0x24):fQ H a (kV k) (bJ kvs k):=.inl ⟨kvs,k,.inl e,rfl,rfl⟩
theorem iR.k {k:Key} (e:H a=some 0x24) (hl:kvs.length<sizeLine):iR H a (kV k) v (upd H a (.dK (putK kvs k v))):=.inl ⟨kvs,k,e,rfl,hl,rfl⟩
section
variable {r:Value}{o:Option V}
theorem Inv.big (I:Inv X pins σ H s):sysModules<s.heap.objs.size:=by
 have h:mainGlobals<s.heap.objs.size:=(I.mod.glob.keeps I.bk).lt;exact A5k 0x7 h
theorem xP (hu:A.units+1<cLine) (I:Inv X pins σ H s) (g:fQ H a y (some v)) (ry:RelV y u) (h:∀ w' s',Inv X pins σ H s'->RelV v w'->Q w' s') :
  wpAny 0x9 A (getItem (.ref a) u) Q E s:=by
 rcases g with ⟨kvs,k,e,ey,l⟩ | ⟨kvs,k,b,e,ey,eb,l⟩
 ·subst ey;obtain ⟨z,hd,vs,rel,dd⟩:=uQ I.hok e;obtain ⟨w',hw,bG⟩:=jA.some_of (v:=v) (o:=valueAt vs k) (by rw [l];exact rel.val k);exact wpAny_getItem_of (oW ry) dd.mapOf hw (h w' _ (I.tok _) bG)
 ·subst ey;cases (show u=Value.ref b from ry)
  obtain ⟨z,hd,xs,rel,dd⟩:=uR I.hok e;obtain ⟨w',hw,bG⟩:=jA.some_of (v:=v) (o:=(atKey xs k).map (·.2)) (by rw [l];exact rel.val k);obtain ⟨p,hp,hp2⟩:=A0w.mp hw;refine wpAny_getItem_heap (A3c hu) (rF I.hok eb) dd hp ?_;rw [hp2];exact h w' _ (I.tok _) bG
theorem d_in (hu:A.units+1<cLine) (I:Inv X pins σ H s) (g:fQ H a y o) (ry:RelV y u) (h:∀ s',Inv X pins σ H s'->Q (.bool o.isSome) s') :
  wpAny 0x9 A (compareOp .In u (.ref a)) Q E s:=by
 rcases g with ⟨kvs,k,e,ey,l⟩ | ⟨kvs,k,b,e,ey,eb,l⟩
 ·subst ey;obtain ⟨z,hd,vs,rel,dd⟩:=uQ I.hok e;refine wpAny_in_of (oW ry) hd dd.mapOf ?_;rw [<- (rel.val k).iW,<- l];exact h _ (I.tok _)
 ·subst ey;cases (show u=Value.ref b from ry)
  obtain ⟨z,hd,xs,rel,dd⟩:=uR I.hok e;refine wpAny_in_heap (A3c hu) (rF I.hok eb) hd dd ?_;have q:=(rel.val k).iW;rw [A4Z] at q;rw [<- q,<- l];exact h _ (I.tok _)
theorem W5 (hu:A.units+1<cLine) (I:Inv X pins σ H s) (g:fQ H a y o) (ry:RelV y u) (h:∀ s',Inv X pins σ H s'->Q (.bool (!o.isSome)) s') :
  wpAny 0x9 A (compareOp .NotIn u (.ref a)) Q E s:=by
 rcases g with ⟨kvs,k,e,ey,l⟩ | ⟨kvs,k,b,e,ey,eb,l⟩
 ·subst ey;obtain ⟨z,hd,vs,rel,dd⟩:=uQ I.hok e;refine wpAny_notIn_of (oW ry) hd dd.mapOf ?_;rw [<- (rel.val k).iW,<- l];exact h _ (I.tok _)
 ·subst ey;cases (show u=Value.ref b from ry)
  obtain ⟨z,hd,xs,rel,dd⟩:=uR I.hok e;refine wpAny_notIn_heap (A3c hu) (rF I.hok eb) hd dd ?_;have q:=(rel.val k).iW;rw [A4Z] at q;rw [<- q,<- l];exact h _ (I.tok _)
theorem kJ {ob:HO} (I:Inv X pins σ H s) (mu:Mut (H a)) (hs:Heap.SameBut a s.heap h') (he:∃ q,h'.get? a=some q) (new:cM X.prog X.w (upd H a ob) h' a ob) :
  Inv X pins σ (upd H a ob) { s with heap:=h',toks:=t' } :=
 I.write (x:=a) (e:=a) mu (.inl rfl) (fun b q hb z=>(hs.2 b hb).trans z) he new
theorem uT {vs:List (Key×Value)} (z:kvs.length<=sizeLine) (hd:(a==sysModules)=false) (rel:KV kvs vs) (dd:h'.DictOf (bV P w) a vs) :
  cM P w H' h' a 0x24:=⟨z,hd,vs,rel,dd⟩
theorem xQ {Q:Unit->Shared->Prop} (hu:A.units+1<cLine) (I:Inv X pins σ H s) (g:iR H a y v H') (ry:RelV y u) (rv:RelV v r) (h:∀ s',Inv X pins σ H' s'->Q () s') :
  wpAny 0x9 A (setItem (.ref a) u r) Q E s:=by
 rcases g with ⟨kvs,k,e,ey,l,eH⟩ | ⟨kvs,k,b,e,ey,eb,l,eH⟩
 ·subst ey eH;obtain ⟨z,hd,vs,rel,dd⟩:=oX I.hok e;have hz:vs.length<=sizeLine:=by rw [<- rel.length];exact z
  have hl:(putK kvs k v).length<=sizeLine:=by have:=cV kvs k v;lia
  refine wpAny_setItem_pairs (hsz:=hz) (oW ry) dd fun h' Fb hs=>h _ ?_;have he:∃ q,h'.get? a=some q:=let ⟨q,_,_,hq,_⟩:=Fb;⟨q,hq⟩
  exact kJ I 0x56 hs he (uT hl hd (rel.put k rv) Fb)
 ·subst ey eH;cases (show u=Value.ref b from ry)
  obtain ⟨z,hd,xs,rel,dd⟩:=a1z I.hok e;have hz:xs.length<=sizeLine:=by rw [<- A4h rel];exact z
  have hl:(putK kvs k v).length<=sizeLine:=by have:=cV kvs k v;lia
  refine wpAny_setItem_heap (hsz:=hz) (A3c hu) (rF I.hok eb) dd fun h' Fb hs=>h _ ?_;obtain ⟨q,es,ep,hq,h2,h3,h4,_,h5⟩:=Fb;refine kJ I 0x56 hs ⟨q,hq⟩ ⟨hl,hd,_,(rel.put k eb rv).keeps fun c ys ec=>?_,q,es,ep,hq,h2,h3,h4,h5⟩;rw [ak (aK ec e (fun z=>nomatch z))]
  exact ec
end
section
variable {k:Key}
theorem Mt {Q:Unit->Shared->Prop} (I:Inv X pins σ H s) (e:H a=some 0x24) (ry:RelV (kV k) u) (l:(bJ kvs k).isSome=true) (h:∀ s',Inv X pins σ (upd H a (.dK (jk kvs k))) s'->Q () s') :
  wpAny 0x9 A (delItem (.ref a) u) Q E s:=by
 obtain ⟨z,hd,vs,rel,dd⟩:=oX I.hok e;refine wpAny_delItem_slot dd.typeIs 0x7 PySem.F.slot_dict_delitem
  (A3d PySem.F.slot_dict_delitem dd.typeIs PySem.F.entry_dict_delitem (PySem.F.args_dict_delitem_2 _ _) (meets_dict_delitem_pairs (bV X.prog X.w) a (oW ry)) ⟨vs,dd,by rw [<- rel.length];exact z,by rw [<- (rel.val k).iW];exact l,fun h' Fb hs=>h _ ?_⟩)
 have he:∃ q,h'.get? a=some q:=let ⟨q,_,_,hq,_⟩:=Fb;⟨q,hq⟩
 exact kJ I 0x56 hs he (uT (A0M (CJ kvs k) z) hd (rel.drop k) Fb)
theorem a1A {more:List Value} (I:Inv X pins σ H s) (e:H a=some 0x24) (ry:RelV (kV k) u) (l:bJ kvs k=some v) (hm:more=[]\/∃ x,more=[x])
  (h:∀ w' s',Inv X pins σ (upd H a (.dK (jk kvs k))) s'->RelV v w'->Q w' s'):wpAny 0x9 A (call (.builtin "dict.pop") (.ref a::u::more)) Q E s:=by
 obtain ⟨z,hd,vs,rel,dd⟩:=oX I.hok e;obtain ⟨w',hw,bG⟩:=jA.some_of (v:=v) (o:=valueAt vs k) (by rw [<- l];exact rel.val k);have hp:(keyPart u).isSome=true:=by
  cases k with
  | inl i=>obtain ⟨t,q⟩:=(show ∃ t,u=Value.int i t from ry);subst q;rfl
  | inr x=>obtain ⟨t,q⟩:=(show ∃ t,u=Value.str x t from ry);subst q;rfl
 have ha:argsOk "dict.pop" ⟨.ref a::u::more,[]⟩:=by
  rcases hm with q | ⟨x,q⟩
  ·subst q;exact PySem.F.args_dict_pop_2 _ _
  ·subst q;exact PySem.F.args_dict_pop_3 _ _ _
 refine A3d PySem.F.slot_dict_pop dd.typeIs PySem.F.entry_dict_pop ha (meets_dict_pop_there (bV X.prog X.w) a (oW ry) more hm hp)
  ⟨vs,w',dd,by rw [<- rel.length];exact z,hw,fun h' Fb hs=>h w' _ ?_ bG⟩
 have he:∃ q,h'.get? a=some q:=let ⟨q,_,_,hq,_⟩:=Fb;⟨q,hq⟩
 exact kJ I 0x56 hs he (uT (A0M (CJ kvs k) z) hd (rel.drop k) Fb)
end
def NoSl (i:Expr):Prop:=∀ ov iv,subscripted i false ov iv=operate [ov,iv] (getItem ov iv)
theorem W6 {slice:Expr}{id:String}
  (hl:typeLookup (.type T) "__getitem__"=pure (some (.builtin id))) (hs:NoSl slice)
  (h:wpAny 0xC A (eval value env) (fun o s₁=>wpAny 0xC A (eval slice env) (fun i s₂=>s₂.TypeIs o T/\wpAny 0xC A (getItem o i) Q E s₂) E s₁) E s) :
  wpAny 0xC A (eval (.Subscript value slice pos) env) Q E s:=by
 refine Subscript_ (A1d h (fun o s₁ h₁=>A1d h₁ (fun i s₂ h₂=>?_) fun _ _ x=>x) fun _ _ x=>x);obtain ⟨hT,h₂⟩:=h₂;unfold subscriptTail;refine A0a ?_;rw [getitemInPython_of_ne hT.not_modules];refine A0a (wpAny_specialOf hT hl ?_);have fin:wpAny 0xC A (subscripted slice false o i) (fun r s₃=>wpAny 0xC A (letTemporaryGo value o r >>= fun _=>pure r) Q E s₃) E s₂:=by
  rw [hs o i];exact wpAny_operating (A1d h₂ (fun r s₃ h₃=>A0a (wpAny_letTemporaryGo (A0d h₃))) fun _ _ x=>x)
 first
  | exact A0d (A0a fin)
  | exact A0a (A0d (A0a fin))
  | exact A0a fin
theorem CN {o:Option V} (I:Inv X pins σ H s) (g:fQ H a y o):s.TypeIs (.ref a) "dict":=by
 rcases g with ⟨kvs,k,e,_,_⟩ | ⟨kvs,k,b,e,_,_,_⟩
 ·obtain ⟨_,_,vs,_,dd⟩:=uQ I.hok e;exact dd.typeIs
 ·obtain ⟨_,_,xs,_,dd⟩:=uR I.hok e;exact dd.typeIs
inductive Jv (Q:VK) (x y:V) (H2:Hp):Prop
 | mk (a:Addr) (v:V) (_:x=.ref a) (_:fQ H2 a y (some v)) (_:Q v H2):Jv Q x y H2
def a1B (td ty:TE):TE:=fun σ H Q=>td σ H fun x H1=>ty σ H1 fun y H2=>Jv Q x y H2
inductive QB (Q:VK) (y x:V) (H2:Hp):Prop
 | mk (a:Addr) (o:Option V) (_:x=.ref a) (_:fQ H2 a y o) (_:Q (.bl o.isSome) H2):QB Q y x H2
def tDIn (ty td:TE):TE:=fun σ H Q=>ty σ H fun y H1=>td σ H1 fun x H2=>QB Q y x H2
inductive xR (Q:VK) (y x:V) (H2:Hp):Prop
 | mk (a:Addr) (o:Option V) (_:x=.ref a) (_:fQ H2 a y o) (_:Q (.bl (!o.isSome)) H2):xR Q y x H2
def W7 (ty td:TE):TE:=fun σ H Q=>ty σ H fun y H1=>td σ H1 fun x H2=>xR Q y x H2
inductive Jw (D:Ends) (σ:L2.St) (v x y:V) (H3:Hp):Prop
 | mk (a:Addr) (H4:Hp) (_:x=.ref a) (_:iR H3 a y v H4) (_:D.nx σ H4):Jw D σ v x y H3
def a1C (td ty tv:TE):TS:=fun D σ H=>tv σ H fun v H1=>td σ H1 fun x H2=>ty σ H2 fun y H3=>Jw D σ v x y H3
inductive Jx (tv:TE) (rd:V->V->Hp->VK->Prop) (D:Ends) (σ:L2.St) (x y:V) (H2:Hp):Prop
 | mk (a:Addr) (v:V) (_:x=.ref a) (_:fQ H2 a y (some v)) (_:tv σ H2 fun y2 H3=>rd v y2 H3 fun z H4=>∃ H5,iR H4 a y z H5/\D.nx σ H5):Jx tv rd D σ x y H2
def a1D (td ty tv:TE) (rd:V->V->Hp->VK->Prop):TS:=fun D σ H=>td σ H fun x H1=>ty σ H1 fun y H2=>Jx tv rd D σ x y H2
inductive Jy (D:Ends) (σ:L2.St) (x y:V) (H2:Hp):Prop
 | mk (a:Addr) (kvs:List 0x2B) (k:L2.Key) (_:x=.ref a) (_:H2 a=some 0x24) (_:y=kV k) (_:(bJ kvs k).isSome=true) (_:D.nx σ (upd H2 a (.dK (jk kvs k)))):Jy D σ x y H2
def a1E (td ty:TE):TS:=fun D σ H=>td σ H fun x H1=>ty σ H1 fun y H2=>Jy D σ x y H2
section
variable {o i:Expr}{tpos:Pos}
theorem bf (hu:X.A.units+1<cLine) (ho:PE X o td) (hi:PE X i ty) (hs:NoSl i):PE X (.Subscript o i pos) (a1B td ty):=by
 intro pins s σ H Q I h;refine W6 PySem.F.slot_dict_getitem.lookup hs (cL (ho pins s σ H _ I h) fun u s1 ⟨x,H1,I1,rx,q1⟩=>cL (hi pins s1 σ H1 _ I1 q1) fun iv s2 zq=>?_);obtain ⟨y,H2,I2,ry,a,v,ex,g,q2⟩:=zq;subst ex;obtain rfl:u=Value.ref a:=rx;exact ⟨CN I2 g,xP hu I2 g ry fun w' s3 I3 bG=>⟨v,H2,I3,bG,q2⟩⟩
theorem Ge (hu:X.A.units+1<cLine) (hi:PE X i ty) (ho:PE X o td):PC X .In i o (tDIn ty td):=by
 intro pins s σ H Q I h;refine cL (hi pins s σ H _ I h) fun iv s1 ⟨y,H1,I1,ry,q1⟩=>cL (ho pins s1 σ H1 _ I1 q1) fun u s2 zq=>?_;obtain ⟨x,H2,I2,rx,a,ov,ex,g,q2⟩:=zq;subst ex;obtain rfl:u=Value.ref a:=rx;exact d_in hu I2 g ry fun s3 I3=>⟨.bl ov.isSome,H2,I3,rfl,q2⟩
theorem Mu (hu:X.A.units+1<cLine) (hi:PE X i ty) (ho:PE X o td):PC X .NotIn i o (W7 ty td):=by
 intro pins s σ H Q I h;refine cL (hi pins s σ H _ I h) fun iv s1 ⟨y,H1,I1,ry,q1⟩=>cL (ho pins s1 σ H1 _ I1 q1) fun u s2 zq=>?_;obtain ⟨x,H2,I2,rx,a,ov,ex,g,q2⟩:=zq;subst ex;obtain rfl:u=Value.ref a:=rx;exact W5 hu I2 g ry fun s3 I3=>⟨.bl (!ov.isSome),H2,I3,rfl,q2⟩
theorem eO (hu:X.A.units+1<cLine) (ho:PE X o td) (hi:PE X i ty) (hv:PE X value tv) (hs:swapsWith value (some (.Subscript o i pos')) pos.line X.env=pure false) :
  PS X (.Assign [.Subscript o i pos'] value pos) (a1C td ty tv):=by
 intro pins s σ H D I h;refine wpAny_Assign_Subscript (cL (hv pins s σ H _ I h) fun r s1 ⟨v,H1,I1,rv,q1⟩=>cL (ho pins s1 σ H1 _ I1 q1) fun u s2 ⟨x,H2,I2,rx,q2⟩=>cL (hi pins s2 σ H2 _ I2 q2) fun iv s3 ⟨y,H3,I3,ry,a,H4,ex,g,q3⟩=>?_) hs;subst ex;obtain rfl:u=Value.ref a:=rx;exact xQ hu I3 g ry rv fun s4 I4=>⟨σ,H4,I4,q3⟩
theorem oh {op:Operator}{rd:V->V->Hp->VK->Prop} (hu:X.A.units+1<cLine) (ho:PE X o td) (hi:PE X i ty) (hv:PE X value tv) (hop:Zn X op rd)
  (ha:∀ ov iv new,augStore i ov iv new=(do holding [new,ov,iv] (setItem ov iv new);release [new,ov,iv] [];pure .next)):PS X (.AugAssign (.Subscript o i tpos) op value pos) (a1D td ty tv rd):=by
 intro pins s σ H D I h;refine wpAny_AugAssign_SubscriptAny (cL (ho pins s σ H _ I h) fun u s1 ⟨x,H1,I1,rx,q1⟩=>cL (hi pins s1 σ H1 _ I1 q1) fun iv s2 ⟨y,H2,I2,ry,a,v,ex,g,q2⟩=>?_) ha;subst ex;obtain rfl:u=Value.ref a:=rx;refine xP hu I2 g ry fun w' s3 I3 bG=>cL (hv pins s3 σ H2 _ I3 q2) fun w2 s4 ⟨y2,H3,I4,ry2,q3⟩=>cL (hop pins s4 σ H3 v y2 w' w2 _ I4 bG ry2 q3) fun w3 s5 zq=>?_;obtain ⟨z,H4,I5,rz,H5,g5,q4⟩:=zq;exact xQ hu I5 g5 ry rz fun s6 I6=>⟨σ,H5,I6,q4⟩
theorem ql (ho:PE X o td) (hi:PE X i ty):PS X (.Delete [.Subscript o i tpos] pos) (a1E td ty):=by
 intro pins s σ H D I h;refine wpAny_Delete (wpAny_deleteEach_cons (wpAny_delete_Subscript (cL (ho pins s σ H _ I h) fun u s1 ⟨x,H1,I1,rx,q1⟩=>cL (hi pins s1 σ H1 _ I1 q1) fun iv s2 zq=>?_)));obtain ⟨y,H2,I2,ry,a,kvs,k,ex,e,ey,l,q2⟩:=zq;subst ex ey;obtain rfl:u=Value.ref a:=rx;exact Mt I2 e ry l fun s3 I3=>wpAny_deleteEach_nil ⟨σ,_,I3,q2⟩
end
theorem CP (h:Heap) (hb:sysModules<h.objs.size):cM P w H (h.push { cls:=.type "dict",data:=.dict #[] }) h.objs.size (.dK []) :=
 ⟨A0Z _,A1H.mpr (A0k (A0y hb)),[],.nil,Heap.DictOf.new h⟩
def Gf:TE:=fun _ H Q=>∀ p,H p=none->Q (.ref p) (upd H p (.dK []))
theorem jm:PE X (.Dict [] [] pos) Gf:=fun pins s σ H Q I h =>
 wpAny_Dict_empty ⟨.ref s.heap.objs.size,_,I.laid (a:=s.heap.objs.size) (o:=.dK []) (t':=s.toks) (fun _ _ q=>A0b _ q) (A0f _) (CP s.heap I.big),rfl,h _ 0x48⟩
def pF:List (TE×TE)->St->Hp->(List (V×V)->Hp->Prop)->Prop
 | [],_,H,Q=>Q [] H
 | (tk,tv)::r,σ,H,Q=>tk σ H fun x H1=>tv σ H1 fun y H2=>pF r σ H2 fun ps H3=>Q ((x,y)::ps) H3
abbrev VV:List (V×V)->List (Value×Value)->Prop:=Paired fun p q=>RelV p.1 q.1/\RelV p.2 q.2
def PPs (X:Cx) (pos:Pos) (keys:List (Option Expr)) (values:List Expr) (Ot:List (TE×TE)):Prop :=
 ∀ (pins:List 0x22) (s:Shared) (σ:St) (H:Hp) (Q:List (V×V)->Hp->Prop),Inv X pins σ H s->pF Ot σ H Q ->
  wpAny 0x9 X.A (evalPairs (pairTrees keys values X.env pos)) (fun vs s'=>∃ ps H',Inv X pins σ H' s'/\VV ps vs/\Q ps H') X.xe s
theorem Jz:PPs X pos [] [] []:=fun pins s σ H Q I h=>pairTrees_nil_walk ⟨[],H,I,.nil,h⟩
theorem iD {k v:Expr}{ks:List (Option Expr)}{vs:List Expr}{tk:TE} (hk:PE X k tk) (hv:PE X v tv) (hr:PPs X pos ks vs Ot) :
  PPs X pos (some k::ks) (v::vs) ((tk,tv)::Ot):=fun pins s σ H Q I h =>
 pairTrees_cons_walk (cL (hk pins s σ H _ I h) fun u s1 ⟨x,H1,I1,rx,q1⟩=>cL (hv pins s1 σ H1 _ I1 q1) fun w2 s2 ⟨y,H2,I2,ry,q2⟩ =>
  cL (hr pins s2 σ H2 _ I2 q2) fun ws s3 ⟨ps,H3,I3,rel,q3⟩=>⟨(x,y)::ps,H3,I3,.cons ⟨rx,ry⟩ rel,q3⟩)
def fB (kvs more:List 0x61):List 0x61:=more.foldl (fun acc kv=>putK acc kv.1 kv.2) kvs
theorem KV.merge:∀ {more:List 0x61}{rs:List (Key×Value)}{kvs:List 0x61}{vs:List (Key×Value)},KV more rs->KV kvs vs->KV (fB kvs more) (merged vs rs):=by
 intro more rs kvs vs r;unfold KV at r
 induction r generalizing kvs vs with
 | nil=>intro q;exact q
 | @cons p q ps qs h t ih =>
  intro r0;have e:KV (putK kvs p.1 p.2) (stored vs q.1 q.2):=by
   have:=r0.put p.1 h.2;rw [<- h.1];exact this
  exact ih e
theorem lC:∀ (more kvs:List 0x61),(fB kvs more).length<=kvs.length+more.length
 | [],kvs=>by show kvs.length<=kvs.length+0;lia
 | p::r,kvs=>by
  have h1:=lC r (putK kvs p.1 p.2);have h2:=cV kvs p.1 p.2
  show (fB (putK kvs p.1 p.2) r).length<=_
  rw [pN];lia
theorem uU {P:Program}{w:World}:∀ {kvs:List 0x61}{ws:List (Value×Value)},VV (kvs.map fun kv=>(kV kv.1,kv.2)) ws->∃ rs,Carries (bV P w) ws rs/\KV kvs rs
 | [],_,r=>by rw [A3U] at r;cases r;exact ⟨[],True.intro,.nil⟩
 | p::kvs,_,r=>by
  rw [A0g] at r;cases r with
  | @cons a b as bs h t =>
   obtain ⟨rs,c,q⟩:=uU (P:=P) (w:=w) t;obtain ⟨b1,b2⟩:=b;exact ⟨(p.1,b2)::rs,⟨oW h.1,rfl,c⟩,.cons ⟨rfl,h.2⟩ q⟩
def oY (Ot:List (TE×TE)):TE:=fun σ H Q=>∀ p,H p=none->pF Ot σ (upd H p (.dK [])) fun ps H2=>H2 p=some (.dK [])/\∃ kvs:List 0x61,ps=kvs.map (fun kv=>(kV kv.1,kv.2))/\kvs.length<=15/\Q (.ref p) (upd H2 p (.dK (fB [] kvs)))
theorem JC {keys:List (Option Expr)}{values:List Expr} (h:PPs X pos keys values Ot) (hall:keys.all (·.isSome)=true) (hl:keys.length=values.length) (h0:keys≠[])
  (h15:keys.length<=15):PE X (.Dict keys values pos) (oY Ot):=by
 intro pins s σ H Q I q;have hn:=I.hok.fresh (A0f s.heap.objs.size);have I1:=I.laid (a:=s.heap.objs.size) (o:=.dK []) (h':=s.heap.push { cls:=.type "dict",data:=.dict #[] }) (t':=s.toks) (fun _ _ q=>A0b _ q) (A0f _) (CP s.heap I.big);refine wpAny_Dict_walk (knd:=bV X.prog X.w) hall hl h0 h15 (cL (h pins _ σ _ _ I1 (q _ hn)) fun ws s2 zq=>?_);obtain ⟨ps,H2,I2,rel,e,kvs,ep,lk,q2⟩:=zq;subst ep;obtain ⟨rs,c,rk⟩:=uU (P:=X.prog) (w:=X.w) rel;obtain ⟨z,hd,vs0,r0,dd⟩:=oX I2.hok e;cases r0;refine ⟨rs,c,dd,fun h' Fb hs=>⟨.ref s.heap.objs.size,_,?_,rfl,q2⟩⟩;have hz:(fB [] kvs).length<=sizeLine:=by
  have h1:=lC kvs [];rw [A4r] at h1;rw [A1e];lia
 have he:∃ q,h'.get? s.heap.objs.size=some q:=let ⟨q,_,_,hq,_⟩:=Fb;⟨q,hq⟩
 exact kJ I2 0x56 hs he (uT hz hd (rk.merge .nil) Fb)
structure M1 (X:Cx) (o:Expr) (m:Str) (apos:Pos) (e:Expr) (cpos:Pos):Prop where
 base:attributeBase o m X.env (eval o X.env)=eval o X.env
 few:((backTo cpos (starEach [e] X.env)).all (fun x=>!x.1)&&(backToKw cpos (keywordEach [] X.env)).all (fun x=>x.1.isSome)
  &&decide (([e]:List Expr).length+([]:List Keyword).length+(if ([]:List Keyword).isEmpty then 0 else 1)<30))=true
 line:(apos.endLine==cpos.line)=true
 trees:backTo cpos (starEach [e] X.env)=[0x53]
structure M2 (X:Cx) (o:Expr) (m:Str) (apos:Pos) (e f:Expr) (cpos:Pos):Prop where
 base:attributeBase o m X.env (eval o X.env)=eval o X.env
 few:((backTo cpos (starEach [e,f] X.env)).all (fun x=>!x.1)&&(backToKw cpos (keywordEach [] X.env)).all (fun x=>x.1.isSome)
  &&decide (([e,f]:List Expr).length+([]:List Keyword).length+(if ([]:List Keyword).isEmpty then 0 else 1)<30))=true
 line:(apos.endLine==cpos.line)=true
 trees:backTo cpos (starEach [e,f] X.env)=[0x53,(false,eval f X.env)]
def IsD (H:Hp) (a:Addr):Prop:=(∃ kvs,Rd H a 0x24)\/∃ kvs,Rd H a (.dT kvs)
theorem Gg (I:Inv X pins σ H s) (d:IsD H a) :
  s.TypeIs (.ref a) "dict"/\(∀ b,Value.ref a=.ref b->∃ ob,s.heap.get? b=some ob/\ob.dict=none)/\(a==sysModules)=false:=by
 rcases d with ⟨kvs,e⟩ | ⟨kvs,e⟩
 ·obtain ⟨_,hd,vs,_,dd⟩:=uQ I.hok e;refine ⟨dd.typeIs,fun b q=>?_,hd⟩;cases q;obtain ⟨ob,_,_,h1,h2,_⟩:=dd;exact ⟨ob,h1,h2.2.1⟩
 ·obtain ⟨_,hd,xs,_,dd⟩:=uR I.hok e;refine ⟨dd.typeIs,fun b q=>?_,hd⟩;cases q;obtain ⟨ob,_,_,h1,h2,_⟩:=dd;exact ⟨ob,h1,h2.2.1⟩
section
variable {d:V}{r:Value}{o:Option V}
theorem ZL (hu:A.units+1<cLine) (I:Inv X pins σ H s) (g:fQ H a y o) (ry:RelV y u) (rd:RelV d r) (h:∀ w' s',Inv X pins σ H s'->RelV (o.getD d) w'->Q w' s') :
  wpAny 0x9 A (call (.builtin "dict.get") [.ref a,u,r]) Q E s:=by
 rcases g with ⟨kvs,k,e,ey,l⟩ | ⟨kvs,k,b,e,ey,eb,l⟩
 ·subst ey;obtain ⟨z,hd,vs,rel,dd⟩:=uQ I.hok e;refine A3d A4a dd.typeIs PySem.F.entry_dict_get (PySem.F.args_dict_get_3 _ _ _) (meets_dict_get_default (bV X.prog X.w) a (oW ry) hd r) ⟨_,dd.mapOf,h _ _ (I.tok _) ?_⟩;rw [l];exact (rel.val k).getD rd
 ·subst ey;cases (show u=Value.ref b from ry)
  obtain ⟨z,hd,xs,rel,dd⟩:=uR I.hok e;refine A3d A4a dd.typeIs PySem.F.entry_dict_get (PySem.F.args_dict_get_3 _ _ _) (meetsH_dict_get_default (tupleKind (bV X.prog X.w)) a b hd r) ⟨A3c hu,k,xs,rF I.hok eb,dd,h _ _ (I.tok _) ?_⟩;rw [l];exact (rel.val k).getD rd
end
inductive CQ (ty tx:TE) (σ:L2.St) (Q:VK) (x:V) (H1:Hp):Prop
 | mk (a:Addr) (_:x=.ref a) (_:IsD H1 a) (_:ty σ H1 fun y H2=>tx σ H2 fun z H3=>∃ o,fQ H3 a y o/\Q (o.getD z) H3):CQ ty tx σ Q x H1
def ZM (td ty tx:TE):TE:=fun σ H Q=>td σ H fun x H1=>CQ ty tx σ Q x H1
inductive CT (ty:TE) (σ:L2.St) (Q:VK) (x:V) (H1:Hp):Prop
 | mk (a:Addr) (_:x=.ref a) (_:IsD H1 a) (_:ty σ H1 fun y H2=>∃ kvs k v,H2 a=some 0x24/\y=kV k/\bJ kvs k=some v/\Q v (upd H2 a (.dK (jk kvs k)))):CT ty σ Q x H1
def ZP (td ty:TE):TE:=fun σ H Q=>td σ H fun x H1=>CT ty σ Q x H1
section
variable {o f:Expr}{tx:TE}
theorem QC (hu:X.A.units+1<cLine) (ho:PE X o td) (he:PE X e ty) (hf:PE X f tx) (m:M2 X o "get" apos e f cpos):PE X (.Call (.Attribute o "get" apos) [e,f] [] cpos) (ZM td ty tx):=by
 intro pins s σ H Q I h;refine A5a m.base m.few m.line A1W A4a PySem.F.type_dict_get (cL (ho pins s σ H _ I h) fun u s1 zq=>?_);obtain ⟨x,H1,I1,rx,a,ex,d,q1⟩:=zq;subst ex;obtain rfl:u=Value.ref a:=rx;obtain ⟨t1,t2,_⟩:=Gg I1 d;refine ⟨t1,t2,?_⟩;rw [m.trees];refine A1w rfl (A3n (A2u (cL (he pins s1 σ H1 _ I1 q1) fun iv s2 ⟨y,H2,I2,ry,q2⟩ =>
  A2u (cL (hf pins s2 σ H2 _ I2 q2) fun fv s3 ⟨z,H3,I3,rz,ov,g,q3⟩=>A3S ?_))))
 exact ZL hu I3 g ry rz fun w' s4 I4 bG=>⟨_,H3,I4,bG,q3⟩
theorem qm (ho:PE X o td) (he:PE X e ty) (m:M1 X o "pop" apos e cpos):PE X (.Call (.Attribute o "pop" apos) [e] [] cpos) (ZP td ty):=by
 intro pins s σ H Q I h;refine A5a m.base m.few m.line A1W PySem.F.slot_dict_pop PySem.F.type_dict_pop (cL (ho pins s σ H _ I h) fun u s1 zq=>?_);obtain ⟨x,H1,I1,rx,a,ex,d,q1⟩:=zq;subst ex;obtain rfl:u=Value.ref a:=rx;obtain ⟨t1,t2,_⟩:=Gg I1 d;refine ⟨t1,t2,?_⟩;rw [m.trees];refine A1w rfl (A3n (A2u (cL (he pins s1 σ H1 _ I1 q1) fun iv s2 ⟨y,H2,I2,ry,kvs,k,v,ea,ey,l,q2⟩=>A3S ?_)));subst ey;exact a1A I2 ea ry l (.inl rfl) fun w' s3 I3 bG=>⟨v,_,I3,bG,q2⟩
end
section
variable {a b:Expr}{ta:TA}{p:Pos}
end
def gJ (P:Params):List DictEntry->List (Str×V)->Prop
 | [],[]=>True
 | e::r,(k,v)::q=>((∃ t,e.key=.str k t)/\e.hash=PyData.keyHash P k/\RelV v e.val)/\gJ P r q
 | _,_=>False
theorem gJ.lit {P:Params}:∀ {es:List DictEntry}{kvs:List (Str×V)},gJ P es kvs->KeysLit P es
 | [],[],_=>trivial
 | e::r,(k,v)::q,⟨⟨⟨t,h1⟩,h2,_⟩,h⟩=>⟨⟨k,t,h1,h2⟩,h.lit⟩
theorem gJ.rel {P:Params} (x:Str):∀ {es:List DictEntry}{kvs:List (Str×V)},gJ P es kvs->jA (kvs.lookup x) ((es.find? fun e=>Value.isStrOf x e.key).map (·.val))
 | [],[],_=>trivial
 | e::r,(k,v)::q,⟨⟨⟨t,h1⟩,h2,h3⟩,h⟩=>by
  have hk:Value.isStrOf x e.key=(k==x):=by rw [h1];rfl
  by_cases hx:x=k
  ·subst hx;have:Value.isStrOf x e.key=true:=by rw [hk];simp
   rw [A2o,this,A1b];simp only [A2W];exact h3
  ·have h4:Value.isStrOf x e.key=false:=by rw [hk];simpa using fun z:k=x=>hx z.symm
   have h5:(x==k)=false:=by simpa using hx
   rw [A2o,h4,A1b,h5];exact h.rel x
structure KD (K:PySem.W.Frag) (P:Params) (a:Addr) (kvs:List (Str×V)):Prop where
 ex:∃ es n,K.lookup a=some ⟨.type "dict",none,.dict es n,#[]⟩/\gJ P es.toList kvs
 lo:(a==sysModules)=false
theorem KD.map {kvs:List (Str×V)} (d:KD K w.params a kvs)  (X:K.In h):∃ f,h.MapOf 0x2E a f/\∀ x,jA (kvs.lookup x) (f x):=by
 obtain ⟨es,n,hl,he⟩:=d.ex;refine ⟨_,mapOf_K X hl he.lit,fun x=>?_⟩;obtain ⟨l⟩:=es;have:=he.rel x;unfold findBy;rw [List.find?_toArray];exact this
inductive Yq (K:W.Frag) (P:Params) (neg:Bool) (x y:V) (H:Hp) (Q:VK):Prop
 | mk (z:Str) (a:Addr) (kvs:List (Prod Str V)) (_:x=.str z) (_:y=.ref a) (_:KD K P a kvs) (_:Q (.bl (neg != (kvs.lookup z).isSome)) H):Yq K P neg x y H Q
theorem JD:nu X (compareOp .In) (Yq X.K X.w.params false):=by
 intro pins s σ H x y v u Q I rx ry h;obtain ⟨z,a,kvs,rfl,rfl,d,q⟩:=h;obtain ⟨t,rfl⟩:=rx;cases ry;obtain ⟨f,hm,hr⟩:=d.map (prog:=X.prog) I.oU;refine wpAny_in_of (A4e X.prog X.w z t) d.lo hm ?_;rw [<- (hr z).iW];exact ⟨.bl _,H,I.tok _,rfl,by simpa using q⟩
inductive Yr (K:W.Frag) (P:Params) (x y:V) (H:Hp) (Q:VK):Prop
 | mk (a:Addr) (kvs:List (Prod Str V)) (z:Str) (v:V) (_:x=.ref a) (_:y=.str z) (_:KD K P a kvs) (_:kvs.lookup z=some v) (_:Q v H):Yr K P x y H Q
theorem JF:IxR X (Yr X.K X.w.params):=by
 intro value slice pins s σ H x y v u Q I rx ry h hs;obtain ⟨a,kvs,z,w',rfl,rfl,d,hl,q⟩:=h;cases rx;obtain ⟨t,rfl⟩:=ry;obtain ⟨f,hm,hr⟩:=d.map (prog:=X.prog) I.oU;obtain ⟨u',hu,ru⟩:=jA.some_of (v:=w') (o:=f z) (by rw [<- hl];exact hr z);exact tail_any hm.typeIs slot_dict_getitem.lookup (wpAny_getItem_of (A4e X.prog X.w z t) hm hu ⟨w',H,I.tok _,ru,q⟩) hs
end L2
namespace HT
open PySem PySem.Spec PyProof.Rows
theorem qp {t:Addr}{items:Array Value}{lo:Option Int} (ht:IsTup s.heap t items) (hs:s.heap.IsSliceOf sl vl vu .none) (pl:IsPart vl lo) (pu:IsPart vu hi)
  (hw:eV items.size 0 lo=0/\eV items.size items.size hi=items.size) (h:Q (.ref t) s):wpAny 0xC A (getItem (.ref t) (.ref sl)) Q E s:=by
 obtain ⟨os,hos,hcs,hds⟩:=id hs;have hTs:s.TypeIs (.ref sl) "slice":=⟨os,hos,hcs⟩;unfold getItem
 try with_reducible refine A1S ?_
 first | refine A0a (A0d ?_) | skip
 refine A0a (wpAny_sequenceKey ht.typeIs 0x7 ?_);refine A0a (A1c (name:=Str.ofString "__getitem__") ht.typeIs A1r
  (A1a A1r ht.typeIs entry_tuple_getitem ?_ (args_tuple_getitem _ _)))
 show wpAny _ _ (Builtin.Tuple.tupleItemsOf (.ref t) >>= _) _ _ s
 refine A0a (tupleItemsOf_ ht ?_);refine A0a (A4w hTs ?_);rw [A0i 0x7];refine A0a (lV hs pl pu ?_);have hyes:0x20=true:=by
  rw [hw.1,hw.2];simp
 show wpAny _ _ (if 0x20=true then _ else _) _ _ s
 rw [A0i hyes];unfold Builtin.Tuple.tupleIsExact;refine A0a (A0a (A4w ht.typeIs (A0d ?_)));rw [A0i 0x7];exact A0a (A2Z (A0d ⟨_,rfl,A0d h⟩))
end HT
namespace L2
open PySem PySem.Spec PyProof.Rows PySem.W
theorem QD {lo:Option Int} (h:HT.eV xs.length 0 lo=0/\HT.eV xs.length xs.length hi=xs.length):gw xs lo hi=xs:=by
 unfold gw;rw [h.1,h.2];simp
inductive rSlW (K:W.Frag) (x:V) (lo hi:Option Int) (H:Hp) (Q:VK):Prop
 | mk (a:Addr) (xs:List V) (_:x=.ref a) (_:bR K H a xs) (_:∀ p H',(bR K H a (gw xs lo hi)/\p=a/\H'=H)\/(H p=none/\H'=upd H p (.tup (gw xs lo hi)))->Q (.ref p) H'):rSlW K x lo hi H Q
theorem tQ:SlR X (rSlW X.K):=by
 intro pins s σ H x v vl vu lo hi sl Q I rx hs pl pu h;obtain ⟨a,xs,rfl,hx,q⟩:=h
 by_cases hw:HT.eV xs.length 0 lo=0/\HT.eV xs.length xs.length hi=xs.length
 ·cases rx;obtain ⟨its,r,ht,hz⟩:=I.tuple hx;have hlen:its.toArray.size=xs.length:=by rw [A0r];exact r.length.symm
  refine ⟨"tuple",_,A1r.lookup,ht.typeIs,?_⟩;exact HT.qp ht hs pl pu (by rw [hlen];exact hw) ⟨.ref a,H,I,rfl,q a H (.inl ⟨by rw [QD hw];exact hx,rfl,rfl⟩)⟩
 ·exact Zt pins s σ H _ v vl vu lo hi sl Q I rx hs pl pu ⟨a,xs,rfl,hx,hw,fun p hp=>q p _ (.inr ⟨hp,rfl⟩)⟩
theorem mO {zs:List V} (h:(bR K H a zs/\p=a/\H'=H)\/(H p=none/\H'=upd H p (.tup zs))):bR K H' p zs/\Same H H':=by
 rcases h with ⟨h,rfl,rfl⟩ | ⟨h,rfl⟩
 ·exact ⟨h,Same.refl _⟩
 ·refine ⟨bR.of ao,fun b u q=>?_⟩;rw [ak (aq q h)];exact q
theorem z7:∀ {ss:List Str}{us:List Value},Vals (ss.map V.str) us->StrsAre us ss
 | [],_,r=>by rw [A3U] at r;cases r;exact .nil
 | x::ss,_,r=>by
  rw [A0g] at r;cases r with
  | cons r1 r2 =>
   obtain ⟨t,rfl⟩:=r1;exact .cons x t (z7 r2)
theorem qt:∀ {ss:List Str}{us:List Value},StrsAre us ss->Vals (ss.map V.str) us
 | _,_,.nil=>.nil
 | _,_,.cons y t r=>.cons ⟨t,rfl⟩ (qt r)
inductive QF (K:W.Frag) (xs:List V) (H:Hp) (Q:VK):Prop
 | mk (p:Addr) (ss:List Str) (_:xs=[.ref p]) (_:bT K H p (ss.map V.str)) (_:ss.length<64) (_:∀ l ss',H l=none->ss'.Perm ss->sortedS ss'=true->Q (.ref l) (upd H l (.lst (ss'.map V.str)))):QF K xs H Q
theorem fU:gZ X (.builtin "sorted") (QF X.K):=by
 intro pins s σ H xs us Q I r h;obtain ⟨p,ss,rfl,hq,hl,q⟩:=h;obtain ⟨u,rfl,ru⟩:=vals1 r;cases ru;obtain ⟨its,rv,pl,hz⟩:=I.list hq;have hlen:=rv.length;rw [cg] at hlen;refine sorted_strs pl.isList (z7 rv) 0x2 fun out ss' h1 h2 h3=>?_;obtain ⟨e,he⟩:=sortedAll_at s.heap its out;have hle:ss'.length<64:=by rw [h2.length_eq];exact hl
 have new:cM X.prog X.w (upd H 0x12 (.lst (ss'.map V.str))) (sortedAll s.heap its out) 0x12 (.lst (ss'.map V.str)) :=
  ⟨by rw [cg];exact A0M (A2i hle) 0x7,out.toList,e,qt h1,by rw [he]⟩
 exact ⟨.ref 0x12,_,I.laid (t':=s.toks) (fun b o q=>sortedAll_old q) (A2b _) new,rfl,q _ ss' (I.hok.fresh (A2b _)) h2 h3⟩
section
variable {o:Obj}
theorem Inv.freeze (I:Inv X pins σ H s) (e:H a=some 0x24):∃ o,Inv X pins σ (upd H a 0x63) s/\∀ o u,X.H₀ a≠some (.gM o u):=by
 obtain ⟨z,hd,vs,rel,dd⟩:=oX I.hok e;obtain ⟨o,es,ep,ho,r⟩:=id dd;refine ⟨o,kJ (t':=s.toks) I 0x56 (Heap.SameBut.refl a s.heap) ⟨o,ho⟩ ⟨ho,z,hd,vs,rel,dd⟩,fun o' u q=>?_⟩;have:=I.base.uz a o' u q;rw [e] at this;cases this
theorem Inv.thaw (I:Inv X pins σ H s) (e:H a=some 0x63) (n:∀ o u,X.H₀ a≠some (.gM o u)):Inv X pins σ (upd H a 0x24) s:=by
 have nn:∀ {b},H b=none->b≠a:=fun q h=>by rw [h,e] at q;cases q
 have nt:∀ {b xs},H b=some 0x3E->b≠a:=fun q h=>by rw [h,e] at q;cases q
 have no:∀ {b y},H b=some (.own y)->b≠a:=fun q h=>by rw [h,e] at q;cases q
 refine ⟨I.ok,I.os,I.bare,⟨I.base.keep,I.base.slot,fun b ob q hb hx=>?_,I.base.there,fun b xs q=>?_,fun b ob u q=>?_,fun b ps q=>?_⟩,I.loc,I.cell,?_,fun x c q=>?_,fun p hp=>?_,fun b u q=>?_,I.len⟩
 ·have z:=I.base.free b ob q hb hx;rw [ak (nn z)];exact z
 ·have z:=I.base.tups b xs q;rw [ak (nt z)];exact z
 ·by_cases h:b=a
  ·subst h;exact absurd q (n ob u)
  ·rw [ak h];exact I.base.uz b ob u q
 ·obtain ⟨more,z⟩:=I.base.yI b ps q;exact ⟨more,by rw [ak (fun h=>by rw [h,e] at z;cases z)];exact z⟩
 ·rw [ak (nn I.free)];exact I.free
 ·rw [ak (nn (I.jZ x c q))];exact I.jZ x c q
 ·obtain ⟨q1,q2,q3⟩:=I.pin p hp;exact ⟨q1,by rw [ak (nn q2)];exact q2,q3⟩
 ·by_cases h:b=a
  ·subst h;rw [ao] at q;cases q;obtain ⟨_,z⟩:=I.hok _ _ e;exact z.stay (fun _ _ _ q=>q) (fun c q=>by rw [ak (no q)];exact q) fun c xs q=>by rw [ak (nt q)];exact q
  ·rw [ak h] at q;exact (I.hok b u q).stay (fun _ _ _ q=>q) (fun c q=>by rw [ak (no q)];exact q) fun c xs q=>by rw [ak (nt q)];exact q
inductive ZQ (t:TE) (σ:L2.St) (H:Hp) (Q:VK):Prop
 | mk (a:Addr) (kvs:List (Prod L2.Key V)) (_:H a=some 0x24) (_:∀ o,t σ (upd H a 0x63) fun v H'=>H' a=some 0x63/\Q v (upd H' a 0x24)):ZQ t σ H Q
theorem pG {t:TE} (he:PE X e t):PE X e (ZQ t):=by
 intro pins s σ H Q I ⟨a,kvs,ea,h⟩;obtain ⟨o,I1,n⟩:=I.freeze ea;exact A1d (he pins s σ _ _ I1 (h o)) (fun v s' ⟨x,H',I',r,e',q⟩=>⟨x,_,I'.thaw e' n,r,q⟩) fun _ _ y=>y
def Itd (a:Addr) (o:Obj) (kvs:List 0x61):It:=⟨fun i H=>H a=some 0x63/\i<kvs.length,fun i H v H'=>H'=H/\∃ kv,kvs[i]?=some kv/\v=kV kv.1,fun i H=>H a=some 0x63/\kvs.length<=i⟩
theorem QG {k:Key} (h:(bV P w).is k u=true):RelV (kV k) u:=by
 rcases dN (show uy k u=true from h) with ⟨i,t,rfl,rfl⟩ | ⟨x,t,rfl,rfl⟩
 ·exact ⟨t,rfl⟩
 ·exact ⟨t,rfl⟩
theorem KV.at {κ:Type}:∀ {kvs:List (κ×V)}{vs:List (κ×Value)},KV kvs vs->∀ {i:Nat}{kv:κ×V},kvs[i]?=some kv->∃ u,vs[i]?=some (kv.1,u)/\RelV kv.2 u:=by
 intro kvs vs r;unfold KV at r
 induction r with
 | nil=>intro i kv h;simp at h
 | @cons p q ps qs h t ih =>
  intro i kv hi;cases i with
  | zero =>
   simp only [List.getElem?_cons_zero,Option.some.injEq] at hi;subst hi;obtain ⟨q1,q2⟩:=q;obtain ⟨h1,h2⟩:=h;simp only at h1;subst h1;exact ⟨q2,rfl,h2⟩
  | succ j =>
   simp only [List.getElem?_cons_succ] at hi ⊢;exact ih hi
theorem rG (I:Inv X pins σ H s) (e:H a=some 0x63) {es:Array DictEntry} (hd:o.data=.dict es ep):(a==sysModules)=false/\∃ vs,KV kvs vs/\s.heap.DictAt (bV X.prog X.w) a vs ep:=by
 obtain ⟨ho,z,hs,vs,rel,o',es',ep',ho',r⟩:=I.hok _ _ e;rw [ho] at ho';cases ho';obtain ⟨r1,r2,r3⟩:=r;rw [hd] at r2;injection r2 with q1 q2;subst q1 q2;exact ⟨hs,vs,rel,o,es,ho,r1,hd,r3⟩
theorem Mv (it:Addr) {es:Array DictEntry} (hd:o.data=.dict es ep) :
  Turn P w K tg (Itd a o kvs) [it] it (fun i h=>h.IsKeyIter it a i kvs.length ep) where
 mem:=by simp
 obj:=fun i h st b hb=>by
  have e:b=it:=by simpa using hb
  subst e;obtain ⟨ob,e,c,d⟩:=st;exact ⟨ob,e,fun v z=>by rw [d] at z;cases z⟩
 keep:=fun i h h' st k=>by
  obtain ⟨ob,e,r⟩:=st;exact ⟨ob,k it 0xA ob e,r⟩
 item:=by
  intro X hP hw hK hc i pins s σ H E I hf st hg;subst hP hw hK;obtain ⟨f0,f1,f2,f3,f4,f5⟩:=hf it 0xA;obtain ⟨hg1,hg2⟩:=hg;obtain ⟨hs,vs,rel,dat⟩:=rG I hg1 hd;have hl:kvs.length=vs.length:=rel.length;obtain ⟨u,hu,ru⟩:=rel.at (ju hg2);rw [hl] at st;refine wpAny_pyNext_dict_item st dat hu fun key h' hkey hit' hsb=>?_;have I1:Inv X pins σ H { s with heap:=h' }:=I.turned (t':=s.toks) (fun b ob hb e=>hsb.extBut b ob hb e) f0 f1 f3 f4 f5;obtain ⟨ob,e,cc,d⟩:=id hit';refine ⟨_,rfl,J9 (s:={ s with heap:=h' }) e cc d 0x7 ⟨kV (kvs[i]).1,H,I1,QG hkey,⟨rfl,_,ju hg2,rfl⟩,?_,fun b hb=>(hf b hb).1⟩⟩;rw [hl];exact hit'
 done:=by
  intro X hP hw hK hc i pins s σ H E I hf st hg;subst hP hw hK;obtain ⟨f0,f1,f2,f3,f4,f5⟩:=hf it 0xA;obtain ⟨hg1,hg2⟩:=hg;obtain ⟨hs,vs,rel,dat⟩:=rG I hg1 hd;have hl:kvs.length=vs.length:=rel.length;rw [hl] at st hg2;exact wpAny_pyNext_dict_end (I.ok.hd hc) st dat (A2e hg2) fun h' eb=>⟨rfl,I.turned (t':=s.toks) (fun b ob hb e=>eb b ob hb e) f0 f1 f3 f4 f5⟩
 self:=fun A i s Q E st h=>wpAny_pyIter_keyiter st h
inductive JG (R:It->Hp->Prop) (x:V) (H1:Hp):Prop
 | mk (a:Addr) (o:Obj) (kvs:List 0x2B) (_:x=.ref a) (_:H1 a=some 0x63) (_:R (Itd a o kvs) H1):JG R x H1
def Ys (tl:TE):TI:=fun σ H R=>tl σ H fun x H1=>JG R x H1
theorem tR {l:Expr} (hl:PE X l tl):PI X tg l (Ys tl):=by
 intro pins s σ H R I h;refine cL (hl pins s σ H _ I h) fun v s1 zq=>?_;obtain ⟨x,H1,I1,r1,a,o,kvs,ex,ea,q⟩:=zq;subst ex;cases r1;obtain ⟨ho,z,hs,vs,rel,o',es,ep,ho',hx,hdd,r⟩:=id (I1.hok _ _ ea);rw [ho] at ho';cases ho';have dat:s1.heap.DictAt (bV X.prog X.w) a vs ep:=⟨o,es,ho,hx,hdd,r⟩;have hlen:kvs.length=vs.length:=rel.length;refine wpAny_pyIter_dict hs dat ?_;refine ⟨s1.heap.objs.size,[s1.heap.objs.size],_,_,H1,rfl,I1.kept (t':=s1.toks) fun b o e=>A0b _ e,Mv _ hdd,⟨_,A0n _ rfl,rfl,by rw [hlen];rfl⟩,fun b hb=>?_,q⟩;have e:b=s1.heap.objs.size:=by simpa using hb
 subst e;exact I1.uG (A0f _) (I1.hok.fresh (A0f _))
theorem xT {o:Obj}{k:Nat}{Q:VK} (Pv:Nat->List V->Hp->Prop) (hl:∀ i ys H,Pv i ys H->H a=some 0x63) (h0:Pv 0 [] (upd H1 D (.lst []))) (hD:∀ i ys H,Pv i ys H->H D=some (.lst ys))
  (hs:∀ i ys H kv,kvs[i]?=some kv->Pv i ys H->Cj D σ k ix g tt te (kV kv.1) ys H (Pv (i+1))) (hd:∀ ys H,Pv kvs.length ys H->Q (.ref D) H):pD (Itd a o kvs) D σ k ix g tt te Q H1 :=
 yW (n:=kvs.length) (item:=fun i=>match kvs[i]? with | some kv=>kV kv.1 | none=>.non) Pv (fun i ys H p=>⟨fun h=>⟨⟨hl i ys H p,h⟩,fun v H' y=>by
  obtain ⟨e,kv,hc,rfl⟩:=y;exact ⟨e,by rw [hc]⟩⟩,fun h=>⟨hl i ys H p,h⟩⟩) h0 hD (fun i ys H h p=>by
   have e:kvs[i]?=some kvs[i]:=ju h;simp only [e];exact hs i ys H _ e p) hd
end
end L2
namespace PySem
theorem lY:entryFor table "dict_itemiterator.__iter__"=some Builtin.«dict_keyiterator.__iter__» :=
 A4P (id':="dict_keyiterator.__iter__") (by kernel_rfl) rfl 0x6 (by kernel_rfl)
end PySem
namespace L2
open PySem PySem.Spec PyProof.Rows PySem.W
def Yt (a:Addr) (o:Obj) (kvs:List 0x61):It:=⟨fun i H=>H a=some 0x63/\i<kvs.length,fun i H v H'=>∃ p kv,kvs[i]?=some kv/\v=.ref p/\H p=none/\H'=upd H p (.tup [kV kv.1,kv.2]),fun i H=>H a=some 0x63/\kvs.length<=i⟩
section
variable {o:Obj}
theorem Gh (it:Addr) {es:Array DictEntry} (hd:o.data=.dict es ep) :
  Turn P w K (.Tuple elts x1 tp) (Yt a o kvs) [it] it (fun i h=>∃ ok ov,IsItemIter h it a i kvs.length ep ok ov) where
 mem:=by simp
 obj:=fun i h ⟨ok,ov,st⟩ b hb=>by
  have e:b=it:=by simpa using hb
  subst e;exact ⟨_,st,fun v z=>by cases z⟩
 keep:=fun i h h' ⟨ok,ov,st⟩ k=>⟨ok,ov,k it 0xA _ st⟩
 item:=by
  intro X hP hw hK hc i pins s σ H E I hf ⟨ok,ov,st⟩ hg;subst hP hw hK;obtain ⟨hg1,hg2⟩:=hg;obtain ⟨hs,vs,rel,dat⟩:=rG I hg1 hd;have hl:kvs.length=vs.length:=rel.length;obtain ⟨u,hu,ru⟩:=rel.at (ju hg2);rw [hl] at st;refine wpAny_pyNext_items_item st dat hu fun key h' hkey ho hT hsz hk=>⟨_,rfl,wpAny_letOwnedTupleGo_items ho fun h2 he2 sb=>?_⟩;have hilt:it<s.heap.objs.size:=A0q st;have hT2:=sb.extBut _ _ (A3a hilt) hT;have kk:∀ b ob,b∉[it]->s.heap.get? b=some ob->h2.get? b=some ob:=fun b ob hb q=>by
   have hb':b≠it:=by simpa using hb
   exact sb.extBut _ _ hb' (hk b ob hb' q)
  refine ⟨.ref s.heap.objs.size,upd H s.heap.objs.size (.tup [kV (kvs[i]).1,(kvs[i]).2]),I.Jr (t':=s.toks) hf kk (A0f _) ⟨wZ 0xA |> A2i,[key,u],.cons (QG hkey) (.cons ru .nil),⟨_,hT2,rfl,_,rfl⟩⟩,rfl,⟨_,kvs[i],ju hg2,rfl,I.fresh,rfl⟩,?_,fun b hb=>?_⟩
  ·rw [hl];exact ⟨_,_,he2⟩
  ·have e:b=it:=by simpa using hb
   subst e;rw [ak (A0y hilt)];exact (hf _ 0xA).1
 done:=by
  intro X hP hw hK hc i pins s σ H E I hf ⟨ok,ov,st⟩ hg;subst hP hw hK;obtain ⟨f0,f1,f2,f3,f4,f5⟩:=hf it 0xA;obtain ⟨hg1,hg2⟩:=hg;obtain ⟨hs,vs,rel,dat⟩:=rG I hg1 hd;have hl:kvs.length=vs.length:=rel.length;rw [hl] at st hg2;exact wpAny_pyNext_items_end (I.ok.hd hc) st dat (A2e hg2) fun h' eb=>⟨rfl,I.turned (t':=s.toks) (fun b ob hb e=>eb b ob hb e) f0 f1 f3 f4 f5⟩
 self:=fun A i s Q E ⟨ok,ov,st⟩ h=>by
  have hT:s.TypeIs (.ref it) "dict_itemiterator":=⟨_,st,rfl⟩;refine A3W hT A3G (A1a A3G hT PySem.lY ?_ (PySem.F.args_dict_itemiterator_iter_1 _))
  show wpAny _ _ (ret (.ref it)) _ _ s
  exact A0d ⟨_,rfl, "dict_itemiterator",_,hT,PySem.F.slot_dict_itemiterator_next.lookup,h⟩
inductive CV (R:It->Hp->Prop) (x:V) (H1:Hp):Prop
 | mk (a:Addr) (o:Obj) (kvs:List 0x2B) (_:x=.ref a) (_:H1 a=some 0x63) (_:R (Yt a o kvs) H1):CV R x H1
def ZR (tl:TE):TI:=fun σ H R=>tl σ H fun x H1=>CV R x H1
theorem uV {l:Expr} (hl:PE X l tl) (hbase:attributeBase l "items" X.env (eval l X.env)=eval l X.env:=by rfl) (hline:(apos.endLine==cpos.line)=true:=by rfl) :
  PI X (.Tuple elts x1 tp) (.Call (.Attribute l "items" apos) [] [] cpos) (ZR tl):=by
 intro pins s σ H R I h;refine A2V hbase hline (cL (hl pins s σ H _ I h) fun v s1 zq=>?_);obtain ⟨x,H1,I1,r1,a,o,kvs,ex,ea,q⟩:=zq;subst ex;cases r1;obtain ⟨ho,z,hs,vs,rel,o',es,ep,ho',hx,hdd,r⟩:=id (I1.hok _ _ ea);rw [ho] at ho';cases ho';have dat:s1.heap.DictAt (bV X.prog X.w) a vs ep:=⟨o,es,ho,hx,hdd,r⟩;have hT:s1.TypeIs (.ref a) "dict":=dat.dictOf.typeIs;refine ⟨"dict", "dict.items",A1W,PySem.F.slot_dict_items,PySem.F.type_dict_items,hT,(fun b e=>by injection e with e;subst e;exact ⟨o,ho,hx.2.1⟩),?_⟩;refine A1w rfl (A3w ?_);refine A3d PySem.F.slot_dict_items hT PySem.F.entry_dict_items (PySem.F.args_dict_items_1 _) (meets_dict_items (bV X.prog X.w) a hs) ⟨⟨vs,dat.dictOf⟩,?_⟩;have hlen:kvs.length=vs.length:=rel.length;have hne:a≠s1.heap.objs.size:=A0y dat.lt_size;have I2:Inv X pins σ H1 { s1 with heap:=s1.heap.push { cls:=.type "dict_items",data:=.fields #[.ref a] } }:=I1.kept (t':=s1.toks) fun b o e=>A0b _ e;have ZS:(s1.heap.push { cls:=.type "dict_items",data:=.fields #[.ref a] }).DictAt (bV X.prog X.w) a vs ep:=dat.at' fun o e=>A0b _ e
 show wpAny _ _ (pyIter (.ref s1.heap.objs.size)) _ _ _
 refine wpAny_pyIter_items (s:={ s1 with heap:=s1.heap.push { cls:=.type "dict_items",data:=.fields #[.ref a] } }) ⟨_,A0n _ rfl,rfl,rfl⟩ ZS ?_;refine ⟨_,[_],_,_,H1,rfl,I2.kept (t':=s1.toks) fun b o e=>A0b _ e,Gh _ hdd,⟨_,_,by rw [hlen];exact A0n _ rfl⟩,fun b hb=>?_,q⟩;have e:=A0c.mp hb;subst e;exact I2.uG (A0f _) (I2.hok.fresh (A0f _))
theorem sY (h:H a=some 0x63):(i<kvs.length->(Yt a o kvs).go i H/\∀ v H',(Yt a o kvs).J8 i H v H'->∃ p,v=.ref p/\H p=none/\H'=upd H p (.tup [(kvs.map fun kv=>kV kv.1).getD i .non,(kvs.map fun kv=>kv.2).getD i .non]))/\(kvs.length<=i->(Yt a o kvs).stop i H):=by
 refine ⟨fun hi=>⟨⟨h,hi⟩,fun v H' ⟨p,kv,e1,e2,e3,e4⟩=>⟨p,e2,e3,?_⟩⟩,fun hi=>⟨h,hi⟩⟩;rw [e4,qT,qT,jY,jY,e1];rfl
end
end L2
namespace M
open PySem L2
def top (i:Nat):Stmt:=PySem.Challenge.pw_manrent_k14_land_charters_judged.main.body.getD i (.Pass ⟨0,0,0,0⟩)
abbrev QH:Stmt:=inClass (top 22) 0
abbrev Gi:Stmt:=inClass (top 22) 1
abbrev qu:Stmt:=inClass (top 22) 2
abbrev z9:Stmt:=inClass (top 22) 3
abbrev QJ:Stmt:=inClass (top 22) 4
abbrev ZV:Stmt:=inClass (top 22) 5
abbrev uW:Stmt:=inClass (top 22) 6
abbrev uX:Stmt:=inClass (top 22) 7
abbrev Gj:Stmt:=inClass (top 22) 8
abbrev JH:Stmt:=inClass (top 22) 9
abbrev za:Stmt:=inClass (top 22) 10
abbrev JK:Stmt:=inClass (top 22) 11
abbrev Gk:Stmt:=inClass (top 22) 12
abbrev uY:Stmt:=inClass (top 22) 13
abbrev zc:Stmt:=inClass (top 22) 14
abbrev QK:Stmt:=inClass (top 22) 15
abbrev Gm:Stmt:=inClass (top 22) 16
abbrev QL:Stmt:=inClass (top 22) 17
abbrev Gn:Stmt:=inClass (top 22) 18
abbrev ZW:Stmt:=inClass (top 22) 19
theorem aP (h:H p=none) (o:HO):Same H (upd H p o):=fun b u q=>by rw [ak (aq q h)];exact q
theorem bL (s:Same H H2) (h:H l=none):Same H (upd H2 l o):=fun b u q=>by rw [ak (aq q h)];exact s b u q
theorem small (h:n<=1000000):n<=sizeLine:=A0M h 0x7
theorem bU (h:n<1000000):n<sizeLine:=A0p h 0x7
theorem u1 {k:Nat} (r:cP k A):A.units+1<cLine:=by have:=r.un;lia
structure cW (K:PySem.W.Frag) (C:Addr):Prop where
 cl:Cls K C
 n1:dW K C "lord_of"
 n2:dW K C "holder_of"
 n3:dW K C "own_of"
 n4:dW K C "service_of"
 n5:dW K C "breadth_of"
abbrev F5 (a1 a2 a3 a4 a5:Addr):List (Str×V):=[("lord_of",.ref a1),("holder_of",.ref a2),("own_of",.ref a3),("service_of",.ref a4),("breadth_of",.ref a5)]
structure bZ (C:Addr) (H:Hp) (x dx a1 a2 a3 a4 a5:Addr) (lo ho ow se br:List 0x61):Prop where
 o:H x=some (.ins C dx (F5 a1 a2 a3 a4 a5))
 l1:H a1=some (.dK lo)
 l2:H a2=some (.dK ho)
 l3:H a3=some (.dK ow)
 l4:H a4=some (.dK se)
 l5:H a5=some (.dK br)
theorem bZ.same {x a1 a2 a3 a4 a5:Addr}{se br:List 0x61} (k:bZ C H x dx a1 a2 a3 a4 a5 lo ho ow se br) (s:Same H H'):bZ C H' x dx a1 a2 a3 a4 a5 lo ho ow se br:=⟨s _ _ k.o,s _ _ k.l1,s _ _ k.l2,s _ _ k.l3,s _ _ k.l4,s _ _ k.l5⟩
structure Gp (a1 a2 a3 a4 a5:Addr):Prop where
 n12:a1≠a2
 n13:a1≠a3
 n14:a1≠a4
 n15:a1≠a5
 n23:a2≠a3
 n24:a2≠a4
 n25:a2≠a5
 n34:a3≠a4
 n35:a3≠a5
 n45:a4≠a5
inductive Ch (lo:List 0x61):Str->List Str->Prop
 | crown {e:Str}:bJ lo 0x2D=some .non->Ch lo e [e]
 | up {e p:Str}{l:List Str}:bJ lo 0x2D=some (.str p)->Ch lo p l->Ch lo e (e::l)
theorem gQ {e:Str} (h:H a=some 0x24) (hv:bJ kvs 0x2D=some v):fQ H a (V.str e) (some v):=by
 have:=fQ.k (k:=.inr e) h;rw [hv] at this;exact this
inductive mQ (C:Addr) (vs:List V) (H:Hp) (Q:VK) (cD:XK):Prop
 | mk (x dx a1 a2 a3 a4 a5:Addr) (lo ho ow se br:List 0x2B) (e:Str) (_:vs=[.ref x,.str e]) (_:bZ C H x dx a1 a2 a3 a4 a5 lo ho ow se br) (_:Q (.bl (bJ lo 0x2D).isSome) H):mQ C vs H Q cD
inductive iG (C:Addr) (vs:List V) (H:Hp) (Q:VK) (cD:XK):Prop
 | mk (x dx a1 a2 a3 a4 a5:Addr) (lo ho ow se br:List 0x2B) (e:Str) (_:vs=[.ref x,.str e]) (_:bZ C H x dx a1 a2 a3 a4 a5 lo ho ow se br) (_:(bJ lo 0x2D).isSome=true) (_:Q .non H):iG C vs H Q cD
inductive uZ (C:Addr) (vs:List V) (H:Hp) (Q:VK) (cD:XK):Prop
 | mk (x dx a1 a2 a3 a4 a5:Addr) (lo ho ow se br:List 0x2B) (e:Str) (v:V) (_:vs=[.ref x,.str e]) (_:bZ C H x dx a1 a2 a3 a4 a5 lo ho ow se br) (_:(bJ lo 0x2D).isSome=true) (_:bJ ho 0x2D=some v) (_:Q v H):uZ C vs H Q cD
inductive Gq (C:Addr) (vs:List V) (H:Hp) (Q:VK) (cD:XK):Prop
 | mk (x dx a1 a2 a3 a4 a5:Addr) (lo ho ow se br:List 0x2B) (e:Str) (v:V) (_:vs=[.ref x,.str e]) (_:bZ C H x dx a1 a2 a3 a4 a5 lo ho ow se br) (_:(bJ lo 0x2D).isSome=true) (_:bJ lo 0x2D=some v) (_:Q v H):Gq C vs H Q cD
inductive JM (C:Addr) (vs:List V) (H:Hp) (Q:VK) (cD:XK):Prop
 | mk (x dx a1 a2 a3 a4 a5:Addr) (lo ho ow se br:List 0x2B) (e:Str) (v:V) (_:vs=[.ref x,.str e]) (_:bZ C H x dx a1 a2 a3 a4 a5 lo ho ow se br) (_:(bJ lo 0x2D).isSome=true) (_:bJ ow 0x2D=some v) (_:Q v H):JM C vs H Q cD
inductive rH (C:Addr) (vs:List V) (H:Hp) (Q:VK) (cD:XK):Prop
 | mk (x dx a1 a2 a3 a4 a5:Addr) (lo ho ow se br:List 0x2B) (e:Str) (v:V) (_:vs=[.ref x,.str e]) (_:bZ C H x dx a1 a2 a3 a4 a5 lo ho ow se br) (_:(bJ lo 0x2D).isSome=true) (_:bJ br 0x2D=some v) (_:Q v H):rH C vs H Q cD
inductive rJ (C:Addr) (vs:List V) (H:Hp) (Q:VK) (cD:XK):Prop
 | mk (x dx a1 a2 a3 a4 a5:Addr) (lo ho ow se br:List 0x2B) (e:Str) (v:V) (_:vs=[.ref x,.str e]) (_:bZ C H x dx a1 a2 a3 a4 a5 lo ho ow se br) (_:(bJ lo 0x2D).isSome=true) (_:bJ se 0x2D=some v) (_:Q v H):rJ C vs H Q cD
inductive zf (C:Addr) (vs:List V) (H:Hp) (Q:VK) (cD:XK):Prop
 | mk (x dx a1 a2 a3 a4 a5:Addr) (lo ho ow se br:List 0x2B) (e:Str) (l:List Str) (_:vs=[.ref x,.str e]) (_:bZ C H x dx a1 a2 a3 a4 a5 lo ho ow se br) (_:(bJ lo 0x2D).isSome=true) (_:Ch lo e l) (_:l.length<=1000) (_:∀ r H',Same H H'->H r=none->H' r=some (.lst (l.map V.str))->Q (.ref r) H'):zf C vs H Q cD
inductive qw (C:Addr) (vs:List V) (H:Hp) (Q:VK) (cD:XK):Prop
 | mk (x dx a1 a2 a3 a4 a5:Addr) (lo ho ow se br:List 0x2B) (e man:Str) (_:vs=[.ref x,.str e,.str man]) (_:bZ C H x dx a1 a2 a3 a4 a5 lo ho ow se br) (_:ho.length<=900) (_:Q .non (upd H a2 (.dK (putK ho 0x2D (.str man))))):qw C vs H Q cD
def rK (H:Hp) (a1 a2 a3 a4 a5:Addr) (lo ho ow se br:List 0x61) (n:Str) (lord holder:Str) (acres:Int) (t:Addr):Hp :=
 upd (upd (upd (upd (upd H a1 (.dK (putK lo 0x28 (.str lord)))) a2 (.dK (putK ho 0x28 (.str holder)))) a3 (.dK (putK ow 0x28 (.int acres)))) a4 (.dK (putK se 0x28 (.ref t)))) a5 (.dK (putK br 0x28 (.int acres)))
inductive JN (C:Addr) (vs:List V) (H:Hp) (Q:VK) (cD:XK):Prop
 | mk (x dx a1 a2 a3 a4 a5:Addr) (lo ho ow se br:List 0x2B) (n lord holder:Str) (acres:Int) (t:Addr) (_:vs=[.ref x,.str n,.str lord,.str holder,.int acres,.ref t]) (_:bZ C H x dx a1 a2 a3 a4 a5 lo ho ow se br) (_:Gp a1 a2 a3 a4 a5) (_:lo.length<=900) (_:ho.length<=900) (_:ow.length<=900) (_:se.length<=900) (_:br.length<=900) (_:Q .non (rK H a1 a2 a3 a4 a5 lo ho ow se br n lord holder acres t)):JN C vs H Q cD
section
theorem W8:aQ A5G A5G (aJ Gi):=0x0
theorem QM (T:cW K C) (F:fK K "there" "Land.there" Gi f fd):aL P w K mg base bN 1 f fd A5G (mQ C):=by
 refine F.ok W8 0x1 0x3;obtain ⟨x,dx,a1,a2,a3,a4,a5,lo,ho,ow,se,br,e,rfl,L,k⟩:=h;refine ⟨_,aG (aZ (Ft (Ge (u1 hr) 0x11 0xD) 0x16)),?_⟩;exact ⟨_,rfl,_,rfl,x,C,dx,_,_,rfl,L.o,T.cl,T.n1,rfl,a1,_,rfl,fQ.k (k:=.inr e) L.l1,k⟩
theorem QS:aQ A5G A5G (aJ Gn):=0x0
theorem Mw (T:cW K C) (F:fK K "check_there" "Land.check_there" Gn f fd)  (G1:aL P w K mg base bN 1 g1 d1 A5G (mQ C)) (m1:Meth K C "there" g1) (b1:Binds K d1 A5G []):aL P w K mg base bN 2 f fd A5G (iG C):=by
 refine F.ok QS 0x1 0x3;obtain ⟨x,dx,a1,a2,a3,a4,a5,lo,ho,ow,se,br,e,rfl,L,he,k⟩:=h;refine ⟨_,aG (bQ (gO (dU (bW 0x3A T.cl m1 G1 hr b1 .nil aY 0x33))) cB aX),?_⟩;refine ⟨_,rfl,x,dx,_,rfl,L.o,rfl,_,rfl,x,dx,a1,a2,a3,a4,a5,lo,ho,ow,se,br,e,rfl,L,_,rfl,?_⟩;rw [he];exact cu k
theorem QT:aQ A5G A5G (aJ z9):=0x0
theorem Mx (T:cW K C) (F:fK K "holder" "Land.holder" z9 f fd)  (G1:aL P w K mg base bN 2 g1 d1 A5G (iG C)) (m1:Meth K C "check_there" g1) (b1:Binds K d1 A5G []):aL P w K mg base bN 3 f fd A5G (uZ C):=by
 refine F.ok QT 0x1 0x3;obtain ⟨x,dx,a1,a2,a3,a4,a5,lo,ho,ow,se,br,e,v,rfl,L,he,hv,k⟩:=h;refine 0x1B;refine 0x13;exact ⟨_,rfl,x,C,dx,_,_,rfl,L.o,T.cl,T.n2,rfl,_,rfl,_,v,rfl,gQ L.l2 hv,k⟩
theorem ZX:aQ A5G A5G (aJ QJ):=0x0
theorem W9 (T:cW K C) (F:fK K "lord" "Land.lord" QJ f fd)  (G1:aL P w K mg base bN 2 g1 d1 A5G (iG C)) (m1:Meth K C "check_there" g1) (b1:Binds K d1 A5G []):aL P w K mg base bN 3 f fd A5G (Gq C):=by
 refine F.ok ZX 0x1 0x3;obtain ⟨x,dx,a1,a2,a3,a4,a5,lo,ho,ow,se,br,e,v,rfl,L,he,hv,k⟩:=h;refine 0x1B;refine 0x13;exact ⟨_,rfl,x,C,dx,_,_,rfl,L.o,T.cl,T.n1,rfl,_,rfl,_,v,rfl,gQ L.l1 hv,k⟩
theorem a1F:aQ A5G A5G (aJ ZV):=0x0
theorem a0a (T:cW K C) (F:fK K "own" "Land.own" ZV f fd)  (G1:aL P w K mg base bN 2 g1 d1 A5G (iG C)) (m1:Meth K C "check_there" g1) (b1:Binds K d1 A5G []):aL P w K mg base bN 3 f fd A5G (JM C):=by
 refine F.ok a1F 0x1 0x3;obtain ⟨x,dx,a1,a2,a3,a4,a5,lo,ho,ow,se,br,e,v,rfl,L,he,hv,k⟩:=h;refine 0x1B;refine 0x13;exact ⟨_,rfl,x,C,dx,_,_,rfl,L.o,T.cl,T.n3,rfl,_,rfl,_,v,rfl,gQ L.l3 hv,k⟩
theorem Mz:aQ A5G A5G (aJ uW):=0x0
theorem Gr (T:cW K C) (F:fK K "breadth" "Land.breadth" uW f fd)  (G1:aL P w K mg base bN 2 g1 d1 A5G (iG C)) (m1:Meth K C "check_there" g1) (b1:Binds K d1 A5G []):aL P w K mg base bN 3 f fd A5G (rH C):=by
 refine F.ok Mz 0x1 0x3;obtain ⟨x,dx,a1,a2,a3,a4,a5,lo,ho,ow,se,br,e,v,rfl,L,he,hv,k⟩:=h;refine 0x1B;refine 0x13;exact ⟨_,rfl,x,C,dx,_,_,rfl,L.o,T.cl,T.n5,rfl,_,rfl,_,v,rfl,gQ L.l5 hv,k⟩
theorem MF:aQ A5G A5G (aJ uX):=0x0
theorem Gs (T:cW K C) (F:fK K "service" "Land.service" uX f fd)  (G1:aL P w K mg base bN 2 g1 d1 A5G (iG C)) (m1:Meth K C "check_there" g1) (b1:Binds K d1 A5G []):aL P w K mg base bN 3 f fd A5G (rJ C):=by
 refine F.ok MF 0x1 0x3;obtain ⟨x,dx,a1,a2,a3,a4,a5,lo,ho,ow,se,br,e,v,rfl,L,he,hv,k⟩:=h;refine 0x1B;refine 0x13;exact ⟨_,rfl,x,C,dx,_,_,rfl,L.o,T.cl,T.n4,rfl,_,rfl,_,v,rfl,gQ L.l4 hv,k⟩
theorem zj:aQ ["self", "estate", "row"] A5G (aJ Gj):=0x0
theorem QV (T:cW K C) (F:fK K "chain" "Land.chain" Gj f fd)  (G1:aL P w K mg base bN 2 g1 d1 A5G (iG C)) (m1:Meth K C "check_there" g1) (b1:Binds K d1 A5G []):aL P w K mg base bN 3 f fd A5G (zf C):=by
 refine F.ok zj 0x1 0x3;obtain ⟨x,dx,a1,a2,a3,a4,a5,lo,ho,ow,se,br,e,l,rfl,L,he,hc,hl,k⟩:=h;refine ⟨_,au (bO (bW 0x3A T.cl m1 G1 hr b1 .nil aY 0x33))
  (au (aU (i:=2) zj.nd rfl 0x8 (eG aC))
  (au (lO A0W (aV Vw 0x11 Fq (bH _))
   (au (bO (jj A0H A0T A0U dR (pv 2) 0x33))
   (aG (aU (i:=1) zj.nd rfl 0x8 (bf (u1 hr) 0xD 0x11 0x5)))))
  (aG (aZ (pv 2))))),?_⟩
 refine 0x13;refine ⟨small 0xA,fun r hr0=>?_⟩;refine ⟨fun m σ Hx=>∃ (l0 l1:List Str) (cur:V),m=l1.length/\l=l0++l1/\σ=[some (.ref x),some cur,some (.ref r)]/\Same H Hx/\Hx r=some (.lst (l0.map V.str))/\((cur=.non/\l1=[])\/∃ y,cur=.str y/\Ch lo y l1),
  ⟨_,[],l,.str e,rfl,rfl,rfl,aP hr0 _,ao,.inr ⟨e,rfl,hc⟩⟩,?_⟩
 rintro m σ Hx ⟨l0,l1,cur,rfl,hl0,rfl,sx,rx,hcur⟩;have Lx:=L.same sx;rcases hcur with ⟨rfl,rfl⟩ | ⟨y,rfl,hy⟩
 ·refine ⟨_,rfl,rfl,_,rfl,cu ?_⟩;rw [A1s] at hl0;subst hl0;exact ⟨_,rfl,k r Hx sx hr0 rx⟩
 ·refine ⟨_,rfl,rfl,_,rfl,dB ?_⟩;have step:∀ (l2:List Str) (nx:V),l1=y::l2->bJ lo (.inr y)=some nx->((nx=.non/\l2=[])\/∃ z,nx=.str z/\Ch lo z l2)->_:=fun l2 nx e1 e2 e3=>(⟨e1,e2,e3⟩:l1=y::l2/\bJ lo (.inr y)=some nx/\((nx=.non/\l2=[])\/∃ z,nx=.str z/\Ch lo z l2));obtain ⟨l2,nx,e1,e2,e3⟩:∃ l2 nx,l1=y::l2/\bJ lo (.inr y)=some nx/\((nx=.non/\l2=[])\/∃ z,nx=.str z/\Ch lo z l2):=by
   cases hy with
   | crown h=>exact ⟨[],.non,rfl,h,.inl ⟨rfl,rfl⟩⟩
   | up h hc=>exact ⟨_,_,rfl,h,.inr ⟨_,rfl,hc⟩⟩
  subst e1;refine ⟨fun σ' H'=>∃ (l0' l1':List Str) (cur:V),l1'.length<(y::l2).length/\l=l0'++l1'/\σ'=[some (.ref x),some cur,some (.ref r)]/\Same H H'/\H' r=some (.lst (l0'.map V.str))/\((cur=.non/\l1'=[])\/∃ y,cur=.str y/\Ch lo y l1'),
   fun σ' H' ⟨l0',l1',cur,q1,q⟩=>⟨_,q1,l0',l1',cur,rfl,q⟩,?_⟩
  have hll:l0.length+(l2.length+1)=l.length:=by rw [hl0,iT,pN]
  refine ⟨_,rfl,.inl ⟨rfl,_,bT.of rx⟩,_,rfl,r,_,_,rfl,rfl,rx,(by rw [cg];exact bU 0x2),?_⟩;have s2:=bL sx hr0 (o:=.lst (l0.map V.str++[V.str y]));refine ⟨_,rfl,x,C,dx,_,_,rfl,s2 _ _ L.o,T.cl,T.n1,rfl,_,rfl,_,nx,rfl,gQ (s2 _ _ L.l1) e2,?_⟩;exact ⟨l0++[y],l2,nx,by simp,by rw [hl0];simp,rfl,s2,by rw [ao,jP];rfl,e3⟩
theorem QW:aQ ["self", "estate", "man"] ["self", "estate", "man"] (aJ zc):=0x0
theorem MJ (T:cW K C) (F:fK K "convey" "Land.convey" zc f fd):aL P w K mg base bN 1 f fd ["self", "estate", "man"] (qw C):=by
 refine F.ok QW 0x1 0x3;obtain ⟨x,dx,a1,a2,a3,a4,a5,lo,ho,ow,se,br,e,man,rfl,L,hl,k⟩:=h;refine ⟨_,aG (eO (u1 hr) 0xD 0x11 (pv 2) rfl),?_⟩;exact ⟨_,rfl,_,rfl,x,C,dx,_,_,rfl,L.o,T.cl,T.n2,rfl,_,rfl,a2,_,rfl,iR.k (k:=.inr e) L.l2 (bU 0x2),k⟩
theorem a1G:aQ A5K A5K (aJ ZW):=0x0
theorem a0b (T:cW K C) (F:fK K "add_estate" "Land.add_estate" ZW f fd):aL P w K mg base bN 1 f fd A5K (JN C):=by
 refine F.ok a1G 0x1 0x3;obtain ⟨x,dx,a1,a2,a3,a4,a5,lo,ho,ow,se,br,n,lord,holder,acres,t,rfl,L,ap,e1,e2,e3,e4,e5,k⟩:=h;refine ⟨_,au (eO (u1 hr) 0xD 0x11 (pv 2) rfl) (au (eO (u1 hr) 0xD 0x11 (pv 3) rfl) (au (eO (u1 hr) 0xD 0x11 (pv 4) rfl)
  (au (eO (u1 hr) 0xD 0x11 (pv 5) rfl) (aG (eO (u1 hr) 0xD 0x11 (pv 4) rfl))))),?_⟩
 have x1:=aK L.o L.l1 0xE;have x2:=aK L.o L.l2 0xE;have x3:=aK L.o L.l3 0xE;have x4:=aK L.o L.l4 0xE;refine ⟨_,rfl,_,rfl,x,C,dx,_,_,rfl,L.o,T.cl,T.n1,rfl,_,rfl,a1,_,rfl,iR.k (k:=.inr n) L.l1 (bU 0x2),?_⟩;refine ⟨_,rfl,_,rfl,x,C,dx,_,_,rfl,by rw [ak x1];exact L.o,T.cl,T.n2,rfl,_,rfl,a2,_,rfl,iR.k (k:=.inr n) (by rw [ak (A0k ap.n12)];exact L.l2) (bU 0x2),?_⟩;refine ⟨_,rfl,_,rfl,x,C,dx,_,_,rfl,by rw [ak x2,ak x1];exact L.o,T.cl,T.n3,rfl,_,rfl,a3,_,rfl,iR.k (k:=.inr n) (by rw [ak (A0k ap.n23),ak (A0k ap.n13)];exact L.l3) (bU 0x2),?_⟩;refine ⟨_,rfl,_,rfl,x,C,dx,_,_,rfl,by rw [ak x3,ak x2,ak x1];exact L.o,T.cl,T.n4,rfl,_,rfl,a4,_,rfl,iR.k (k:=.inr n) (by rw [ak (A0k ap.n34),ak (A0k ap.n24),ak (A0k ap.n14)];exact L.l4) (bU 0x2),?_⟩;exact ⟨_,rfl,_,rfl,x,C,dx,_,_,rfl,by rw [ak x4,ak x3,ak x2,ak x1];exact L.o,T.cl,T.n5,rfl,_,rfl,a5,_,rfl,iR.k (k:=.inr n) (by rw [ak (A0k ap.n45),ak (A0k ap.n35),ak (A0k ap.n25),ak (A0k ap.n15)];exact L.l5) (bU 0x2),k⟩
open PyProof.Rows
def jw (kv:Key×V):Str:=match kv.1 with
 | .inr s=>s
 | .inl _=>""
def TK (kvs:List 0x61):Prop:=∀ kv∈kvs,kV kv.1=V.str (jw kv)
def TV (kvs:List 0x61):Prop:=∀ kv∈kvs,kv.2=.non\/∃ s,kv.2=.str s
theorem jN {p:Key×V->Bool}{kv:Key×V} (h:kvs[i]?=some kv):((kvs.take (i+1)).filter p).map (fun kv=>V.str (jw kv))=((kvs.take i).filter p).map (fun kv=>V.str (jw kv))++(if p kv=true then [V.str (jw kv)] else []):=by
 rw [A1o,h,A3e,jP]
 congr 1
 cases e:p kv <;> simp [e]
theorem v7 {p:Key×V->Bool} (h:kvs.length<=n):(((kvs.take i).filter p).map (fun kv=>V.str (jw kv))).length<=n:=by
 rw [cg];have:=A0K p (kvs.take i);rw [A0G] at this;lia
theorem strs_map (l:List 0x61):l.map (fun kv=>V.str (jw kv))=(l.map jw).map V.str:=by rw [A0R];rfl
theorem jc {y:Str}:decide (V.str x=V.str y)=decide (x=y):=A4f.mpr ⟨fun e=>by injection e,fun e=>by rw [e]⟩
inductive rM (C:Addr) (vs:List V) (H:Hp) (Q:VK) (cD:XK):Prop
 | mk (x dx a1 a2 a3 a4 a5:Addr) (lo ho ow se br:List (Prod L2.Key V)) (_:vs=[.ref x]) (_:bZ C H x dx a1 a2 a3 a4 a5 lo ho ow se br) (_:TK lo) (_:lo.length<64) (_:∀ r ss H',Same H H'->H r=none->H' r=some 0x49->ss.Perm ((lo.filter fun kv=>!decide (jw kv="")).map jw)->sortedS ss=true->Q (.ref r) H'):rM C vs H Q cD
inductive Gu (C:Addr) (vs:List V) (H:Hp) (Q:VK) (cD:XK):Prop
 | mk (x dx a1 a2 a3 a4 a5:Addr) (lo ho ow se br:List (Prod L2.Key V)) (man:Str) (_:vs=[.ref x,.str man]) (_:bZ C H x dx a1 a2 a3 a4 a5 lo ho ow se br) (_:TK ho) (_:TV ho) (_:ho.length<64) (_:∀ r ss H',Same H H'->H r=none->H' r=some 0x49->ss.Perm ((ho.filter fun kv=>decide (kv.2=.str man)).map jw)->sortedS ss=true->Q (.ref r) H'):Gu C vs H Q cD
inductive tU (C:Addr) (vs:List V) (H:Hp) (Q:VK) (cD:XK):Prop
 | mk (x dx a1 a2 a3 a4 a5:Addr) (lo ho ow se br:List (Prod L2.Key V)) (e:Str) (_:vs=[.ref x,.str e]) (_:bZ C H x dx a1 a2 a3 a4 a5 lo ho ow se br) (_:(bJ lo 0x2D).isSome=true) (_:TK lo) (_:TV lo) (_:lo.length<64) (_:∀ r ss H',Same H H'->H r=none->H' r=some 0x49->ss.Perm ((lo.filter fun kv=>decide (kv.2=.str e)).map jw)->sortedS ss=true->Q (.ref r) H'):tU C vs H Q cD
theorem a1H:aQ A5S A5S (aJ qu):=0x0
def scE1:Scope:={ kind:=.function,names:=[(".0",.local),("name",.local),("CROWN",.globalImplicit)],isGenerator:=false,isCoroutine:=false }
theorem csE1:fO A5S (aJ qu) scE1 ["name"] [] []:=0xB
theorem ndE1:((["name"]:List Str)++([]:List Str)).Nodup:=by decide +kernel
theorem lZ {Hz:Hp}{o:Obj} (h:H a=some 0x24) (s:Same (upd H a 0x63) Hz):Same H (upd Hz a 0x24):=fun b u q=>by
 by_cases e:b=a
 ·subst e;rw [h] at q;cases q;exact ao
 ·rw [ak e];exact s b u (by rw [ak e];exact q)
theorem Gv (T:cW K C) {tc:Tok} (mC:mg "CROWN"=some (.str "" tc)) (ms:mg "sorted"=none) (F:fK K "estates" "Land.estates" qu f fd):aL P w K mg base bN 1 f fd A5S (rM C):=by
 refine F.ok a1H 0x1 0x3;obtain ⟨x,dx,a1,a2,a3,a4,a5,lo,ho,ow,se,br,rfl,L,tk,hl,k⟩:=h;refine ⟨_,aG (aZ (bF fU rfl ms fZ (aj (pG (gW rfl csE1 (tR 0xD) (fun s H fp C'=>⟨bD (i:=0) ndE1 rfl 0x8,mJ (aV oV 0x3A 0x36 (bH _)),pv 0⟩))) aC))),?_⟩;have nx:=aK L.o L.l1 0xE;refine ⟨a1,lo,L.l1,fun o=>⟨_,rfl,x,C,dx,_,_,rfl,by rw [ak nx];exact L.o,T.cl,T.n1,rfl,a1,o,lo,rfl,ao,fun D hD=>?_⟩⟩;have nD:a1≠D:=aq (show (upd H a1 (.gM o (.dK lo))) a1=some (.gM o (.dK lo)) from ao) hD
 have QX:H D=none:=by rw [ak (A0k nD)] at hD;exact hD
 refine xT (o:=o) (fun i ys Hz=>ys=((lo.take i).filter fun kv=>!decide (jw kv="")).map (fun kv=>V.str (jw kv))/\Same (upd H a1 (.gM o (.dK lo))) Hz/\Hz D=some (.lst ys)) (fun i ys Hz h=>h.2.1 _ _ ao) ⟨rfl,aP hD _,ao⟩ (fun i ys Hz h=>h.2.2) ?_ ?_
 ·rintro i ys Hz kv hkv ⟨rfl,sz,jW⟩;rw [tk kv (wD hkv)];refine ⟨Kp.set rfl (Kp.refl _),?_⟩;refine ⟨_,rfl,rfl,_,rfl,?_⟩;rw [jc];refine iQ 0x54 0x54
  ·refine ⟨_,rfl,jW,A0X (v7 (A2i hl)) 0x7,?_,bL sz hD,ao⟩;rw [jN hkv,A0i c]
  ·refine ⟨?_,sz,jW⟩;rw [jN hkv,A0e c,A1s]
 ·rintro ys Hz ⟨rfl,sz,jW⟩;rw [A1h] at jW;refine ⟨sz _ _ ao,?_⟩;have s2:=lZ L.l1 sz;have hDt:(upd Hz a1 (.dK lo)) D=some (.lst (((lo.filter fun kv=>!decide (jw kv="")).map jw).map V.str)):=by rw [ak (A0k nD),jW,strs_map]
  refine ⟨D,_,rfl,bT.of hDt,?_,fun l ss hl0 hp hs=>?_⟩
  ·rw [cg];exact A0X (A0K _ _) hl
  ·exact k l ss _ (bL s2 (s2.free hl0)) (s2.free hl0) ao hp hs
theorem a0c:aQ A5Z A5Z (aJ JH):=0x0
def a1I:Scope:={ kind:=.function,names:=[(".0",.local),("name",.local),("holder",.local),("man",.free)],isGenerator:=false,isCoroutine:=false }
theorem a1J:fO A5Z (aJ JH) a1I ["name", "holder"] ["man"] [1]:=0xB
theorem Yu:((["name", "holder"]:List Str)++(["man"]:List Str)).Nodup:=by decide +kernel
theorem zm {α:Type}{g:Key×V->α}{d:α}{kv:Key×V} (h:kvs[i]?=some kv):(kvs.map g).getD i d=g kv:=by rw [qT,jY,h];rfl
theorem Wa (T:cW K C) (ms:mg "sorted"=none) (F:fK K "held" "Land.held" JH f fd):aL P w K mg base bN 1 f fd A5Z (Gu C):=by
 refine F.ok a0c 0x1 0x3;obtain ⟨x,dx,a1,a2,a3,a4,a5,lo,ho,ow,se,br,man,rfl,L,tk,tv,hl,k⟩:=h;refine ⟨_,aG (aZ (bF fU rfl ms fZ (aj (pG (gW rfl a1J (uV 0xD) (fun s H fp C'=>⟨qe (K:=K) (n:=2) rfl (bM (bD (i:=0) Yu rfl 0x8) (bM (bD (i:=1) Yu rfl 0x8) gj)),mJ (aV dO 0x11 (pv 2) (bH _)),pv 0⟩))) aC))),?_⟩;have nx:=aK L.o L.l2 0xE;refine ⟨a2,ho,L.l2,fun o=>⟨_,rfl,x,C,dx,_,_,rfl,by rw [ak nx];exact L.o,T.cl,T.n2,rfl,a2,o,ho,rfl,ao,fun D hD=>?_⟩⟩;have nD:a2≠D:=aq (show (upd H a2 (.gM o (.dK ho))) a2=some (.gM o (.dK ho)) from ao) hD
 refine qd (n:=ho.length) (fx:=fun i=>(ho.map fun kv=>kV kv.1).getD i .non) (fy:=fun i=>(ho.map fun kv=>kv.2).getD i .non) (fun i ys Hz=>ys=((ho.take i).filter fun kv=>decide (kv.2=.str man)).map (fun kv=>V.str (jw kv))/\Same (upd H a2 (.gM o (.dK ho))) Hz/\Hz D=some (.lst ys))
  (fun i ys Hz h=>sY (h.2.1 _ _ ao)) ⟨rfl,aP hD _,ao⟩ (fun i ys Hz h=>h.2.2) ?_ ?_
 ·rintro i ys Hz p hi ⟨rfl,sz,jW⟩ hp;have hkv:ho[i]?=some ho[i]:=ju hi;rw [zm hkv,zm hkv];have hm:=A0N hi;rw [tk _ hm];have npD:D≠p:=aq jW hp;have sp:=aP hp (.tup [V.str (jw ho[i]),(ho[i]).2]);refine ⟨p,_,rfl,bR.of ao,rfl,_,_,rfl,_,_,rfl,rfl,Kp.set rfl (Kp.set rfl (Kp.refl _)),?_⟩;have hsc:Pr (ho[i]).2 (V.str man)=true:=by
   rcases tv _ hm with e | ⟨z,e⟩ <;> rw [e] <;> rfl
  refine ⟨_,rfl,_,rfl,hsc,_,rfl,?_⟩;refine iQ 0x54 0x54
  ·refine ⟨_,rfl,sp _ _ jW,A0X (v7 (A2i hl)) 0x7,?_,bL (sz.trans sp) hD,ao⟩;rw [jN hkv,A0i c]
  ·refine ⟨?_,sz.trans sp,sp _ _ jW⟩;rw [jN hkv,A0e c,A1s]
 ·rintro ys Hz ⟨rfl,sz,jW⟩;rw [A1h] at jW;refine ⟨sz _ _ ao,?_⟩;have s2:=lZ L.l2 sz;have hDt:(upd Hz a2 (.dK ho)) D=some (.lst (((ho.filter fun kv=>decide (kv.2=.str man)).map jw).map V.str)):=by rw [ak (A0k nD),jW,strs_map]
  refine ⟨D,_,rfl,bT.of hDt,?_,fun l ss hl0 hp hs=>?_⟩
  ·rw [cg];exact A0X (A0K _ _) hl
  ·exact k l ss _ (bL s2 (s2.free hl0)) (s2.free hl0) ao hp hs
theorem scUn:aQ A5G A5G (aJ za):=0x0
def a1K:Scope:={ kind:=.function,names:=[(".0",.local),("name",.local),("lord",.local),("estate",.free)],isGenerator:=false,isCoroutine:=false }
theorem a1L:fO A5G (aJ za) a1K ["name", "lord"] ["estate"] [1]:=0xB
theorem Yv:((["name", "lord"]:List Str)++(["estate"]:List Str)).Nodup:=by decide +kernel
theorem QZ (T:cW K C) (ms:mg "sorted"=none) (F:fK K "under" "Land.under" za f fd)  (G1:aL P w K mg base bN 2 g1 d1 A5G (iG C)) (m1:Meth K C "check_there" g1) (b1:Binds K d1 A5G []):aL P w K mg base bN 3 f fd A5G (tU C):=by
 refine F.ok scUn 0x1 0x3;obtain ⟨x,dx,a1,a2,a3,a4,a5,lo,ho,ow,se,br,man,rfl,L,he,tk,tv,hl,k⟩:=h;refine ⟨_,au (bO (bW 0x3A T.cl m1 G1 hr b1 .nil aY 0x33)) (aG (aZ (bF fU rfl ms fZ (aj (pG (gW rfl a1L (uV 0xD) (fun s H fp C'=>⟨qe (K:=K) (n:=2) rfl (bM (bD (i:=0) Yv rfl 0x8) (bM (bD (i:=1) Yv rfl 0x8) gj)),mJ (aV dO 0x11 (pv 2) (bH _)),pv 0⟩))) aC)))),?_⟩;refine ⟨_,rfl,x,dx,_,rfl,L.o,rfl,_,rfl,x,dx,a1,a2,a3,a4,a5,lo,ho,ow,se,br,man,rfl,L,he,?_⟩;have nx:=aK L.o L.l1 0xE;refine ⟨a1,lo,L.l1,fun o=>⟨_,rfl,x,C,dx,_,_,rfl,by rw [ak nx];exact L.o,T.cl,T.n1,rfl,a1,o,lo,rfl,ao,fun D hD=>?_⟩⟩;have nD:a1≠D:=aq (show (upd H a1 (.gM o (.dK lo))) a1=some (.gM o (.dK lo)) from ao) hD
 refine qd (n:=lo.length) (fx:=fun i=>(lo.map fun kv=>kV kv.1).getD i .non) (fy:=fun i=>(lo.map fun kv=>kv.2).getD i .non) (fun i ys Hz=>ys=((lo.take i).filter fun kv=>decide (kv.2=.str man)).map (fun kv=>V.str (jw kv))/\Same (upd H a1 (.gM o (.dK lo))) Hz/\Hz D=some (.lst ys))
  (fun i ys Hz h=>sY (h.2.1 _ _ ao)) ⟨rfl,aP hD _,ao⟩ (fun i ys Hz h=>h.2.2) ?_ ?_
 ·rintro i ys Hz p hi ⟨rfl,sz,jW⟩ hp;have hkv:lo[i]?=some lo[i]:=ju hi;rw [zm hkv,zm hkv];have hm:=A0N hi;rw [tk _ hm];have npD:D≠p:=aq jW hp;have sp:=aP hp (.tup [V.str (jw lo[i]),(lo[i]).2]);refine ⟨p,_,rfl,bR.of ao,rfl,_,_,rfl,_,_,rfl,rfl,Kp.set rfl (Kp.set rfl (Kp.refl _)),?_⟩;have hsc:Pr (lo[i]).2 (V.str man)=true:=by
   rcases tv _ hm with e | ⟨z,e⟩ <;> rw [e] <;> rfl
  refine ⟨_,rfl,_,rfl,hsc,_,rfl,?_⟩;refine iQ 0x54 0x54
  ·refine ⟨_,rfl,sp _ _ jW,A0X (v7 (A2i hl)) 0x7,?_,bL (sz.trans sp) hD,ao⟩;rw [jN hkv,A0i c]
  ·refine ⟨?_,sz.trans sp,sp _ _ jW⟩;rw [jN hkv,A0e c,A1s]
 ·rintro ys Hz ⟨rfl,sz,jW⟩;rw [A1h] at jW;refine ⟨sz _ _ ao,?_⟩;have s2:=lZ L.l1 sz;have hDt:(upd Hz a1 (.dK lo)) D=some (.lst (((lo.filter fun kv=>decide (kv.2=.str man)).map jw).map V.str)):=by rw [ak (A0k nD),jW,strs_map]
  refine ⟨D,_,rfl,bT.of hDt,?_,fun l ss hl0 hp hs=>?_⟩
  ·rw [cg];exact A0X (A0K _ _) hl
  ·exact k l ss _ (bL s2 (s2.free hl0)) (s2.free hl0) ao hp hs
inductive tV (C:Addr) (vs:List V) (H:Hp) (Q:VK) (cD:XK):Prop
 | mk (x dx a1 a2 a3 a4 a5:Addr) (lo ho ow se br:List 0x2B) (e n man:Str) (acres service own:Int) (_:vs=[.ref x,.str e,.str n,.str man,.int acres,.int service]) (_:bZ C H x dx a1 a2 a3 a4 a5 lo ho ow se br) (_:Gp a1 a2 a3 a4 a5) (_:bJ ow 0x2D=some (.int own)) (_:lo.length<=900) (_:ho.length<=900) (_:ow.length<=800) (_:se.length<=900) (_:br.length<=900) (_:∀ t,H t=none->Q .non (rK (upd (upd H a3 (.dK 0x14)) t (.tup [.int service,.int 1])) a1 a2 a3 a4 a5 lo ho 0x14 se br n e man acres t)):tV C vs H Q cD
def moved (lo:List 0x61) (ss:List Str) (p:Str):List 0x61:=ss.foldl (fun acc n=>putK acc 0x28 (.str p)) lo
theorem v8 (lo:List 0x61) (ss:List Str) (n p:Str):moved lo (ss++[n]) p=putK (moved lo ss p) 0x28 (.str p):=by
 unfold moved;rw [List.foldl_append];rfl
theorem xU (lo:List 0x61) (p:Str) (ss:List Str):(moved lo ss p).length<=lo.length+ss.length:=by
 unfold moved
 induction ss generalizing lo with
 | nil=>exact A0f _
 | cons n r ih =>
  rw [A1t,pN];have h1:=ih (putK lo 0x28 (.str p));have h2:=cV lo 0x28 (.str p);lia
inductive zp (C:Addr) (vs:List V) (H:Hp) (Q:VK) (cD:XK):Prop
 | mk (x dx a1 a2 a3 a4 a5:Addr) (lo ho ow se br:List (Prod L2.Key V)) (e p:Str) (own1 zu:Int) (_:vs=[.ref x,.str e]) (_:bZ C H x dx a1 a2 a3 a4 a5 lo ho ow se br) (_:Gp a1 a2 a3 a4 a5) (_:bJ lo 0x2D=some (.str p)) (_:bJ ow 0x2D=some (.int own1)) (_:bJ ow (.inr p)=some (.int zu)) (_:(bJ ho 0x2D).isSome=true) (_:(bJ se 0x2D).isSome=true) (_:(bJ br 0x2D).isSome=true) (_:TK lo) (_:TV lo) (_:lo.length<64) (_:ow.length<=800) (_:∀ ss H',ss.Perm ((lo.filter fun kv=>decide (kv.2=.str e)).map jw)->(bJ (moved lo ss p) 0x2D).isSome=true->bZ C H' x dx a1 a2 a3 a4 a5 (jk (moved lo ss p) 0x2D) (jk ho 0x2D) (jk (putK ow (.inr p) (.int (zu+own1))) 0x2D) (jk se 0x2D) (jk br 0x2D)->(∀ c o,c≠a1->c≠a2->c≠a3->c≠a4->c≠a5->H c=some o->H' c=some o)->Q .non H'):zp C vs H Q cD
theorem Gw {k:Key}{p:Str} (h:(bJ lo k).isSome=true):∀ ss:List Str,(bJ (moved lo ss p) k).isSome=true:=by
 intro ss;unfold moved
 induction ss generalizing lo with
 | nil=>exact h
 | cons n r ih =>
  rw [A1t];refine ih ?_;rw [bK]
  by_cases q:k=.inr n
  ·rw [A0i q];rfl
  ·rw [A0e q];exact h
theorem Wb:aQ A5Q A5Q (aJ Gk):=0x0
theorem R0 (T:cW K C) (F:fK K "grant" "Land.grant" Gk f fd)  (G1:aL P w K mg base bN 1 g1 d1 A5K (JN C)) (m1:Meth K C "add_estate" g1) (b1:Binds K d1 A5K []) :
  aL P w K mg base bN 2 f fd A5Q (tV C):=by
 refine F.ok Wb 0x1 0x3;obtain ⟨x,dx,a1,a2,a3,a4,a5,lo,ho,ow,se,br,e,n,man,acres,service,own,rfl,L,ap,hn,e1,e2,e3,e4,e5,k⟩:=h;refine ⟨_,au (oh (u1 hr) 0xD 0x11 (pv 4) yN (fun _ _ _=>rfl))
  (aG (bO (bW 0x3A T.cl m1 G1 hr b1 .nil aY (aj (pv 2) (aj 0x11 (aj (pv 3) (aj (pv 4) (aj (cN (aj (pv 5) (aj aA aC))) aC)))))))),?_⟩
 refine ⟨_,rfl,x,C,dx,_,_,rfl,L.o,T.cl,T.n3,rfl,_,rfl,a3,_,rfl,gQ L.l3 hn,_,rfl,_,_,rfl,rfl,_,iR.k (k:=.inr e) L.l3 (bU 0x2),?_⟩;have L1:bZ C (upd H a3 (.dK 0x14)) x dx a1 a2 a3 a4 a5 lo ho 0x14 se br :=
  ⟨by rw [ak (aK L.o L.l3 0xE)];exact L.o,by rw [ak ap.n13];exact L.l1,by rw [ak ap.n23];exact L.l2,ao,by rw [ak (A0k ap.n34)];exact L.l4,by rw [ak (A0k ap.n35)];exact L.l5⟩
 refine ⟨_,rfl,x,dx,_,rfl,L1.o,rfl,_,rfl,_,rfl,_,rfl,_,rfl,_,rfl,small 0xA,fun t ht=>?_⟩;have nt:t≠a3:=fun q=>by rw [q,ao] at ht;cases ht
 have ht0:H t=none:=by rw [ak nt] at ht;exact ht
 have hl:=cV ow 0x2D (.int (own - acres));exact ⟨x,dx,a1,a2,a3,a4,a5,lo,ho,_,se,br,n,e,man,acres,t,rfl,L1.same (aP ht _),ap,e1,e2,by lia,e4,e5,k t ht0⟩
theorem Gx:aQ ["self", "estate", "lord", "name"] A5G (aJ QK):=0x0
theorem Wc (T:cW K C) (F:fK K "fall_back" "Land.fall_back" QK f fd)  (G1:aL P w K mg base bN 3 g1 d1 A5G (tU C)) (m1:Meth K C "under" g1) (b1:Binds K d1 A5G []) :
  aL P w K mg base bN 4 f fd A5G (zp C):=by
 refine F.ok Gx 0x1 0x3;obtain ⟨x,dx,a1,a2,a3,a4,a5,lo,ho,ow,se,br,e,p,own1,zu,rfl,L,ap,hlo,ho1,ho2,hh,hse,hbr,tk,tv,hl,how,k⟩:=h;refine ⟨_,au (aU (i:=2) Gx.nd rfl 0x8 (bf (u1 hr) 0xD 0x11 0x5))
  (au (oh (u1 hr) 0xD (pv 2) (bf (u1 hr) 0xD 0x11 0x5) PN (fun _ _ _=>rfl))
  (au (iz A0W rfl (gH (bW 0x3A T.cl m1 G1 hr b1 .nil aY 0x33)) (bD (i:=3) Gx.nd rfl 0x8) (aG (eO (u1 hr) 0xD (pv 3) (pv 2) rfl)))
  (au (ql 0xD 0x11) (au (ql 0xD 0x11) (au (ql 0xD 0x11) (au (ql 0xD 0x11) (aG (ql 0xD 0x11)))))))),?_⟩
 refine ⟨_,rfl,x,C,dx,_,_,rfl,L.o,T.cl,T.n1,rfl,_,rfl,_,_,rfl,gQ L.l1 hlo,?_⟩;refine ⟨_,rfl,x,C,dx,_,_,rfl,L.o,T.cl,T.n3,rfl,_,rfl,a3,_,rfl,gQ L.l3 ho2,_,rfl,x,C,dx,_,_,rfl,L.o,T.cl,T.n3,rfl,_,rfl,_,_,rfl,gQ L.l3 ho1,_,_,rfl,rfl,_,iR.k (k:=.inr p) L.l3 (bU 0x2),?_⟩;have L1:bZ C (upd H a3 (.dK (putK ow (.inr p) (.int (zu+own1))))) x dx a1 a2 a3 a4 a5 lo ho (putK ow (.inr p) (.int (zu+own1))) se br :=
  ⟨by rw [ak (aK L.o L.l3 0xE)];exact L.o,by rw [ak ap.n13];exact L.l1,by rw [ak ap.n23];exact L.l2,ao,by rw [ak (A0k ap.n34)];exact L.l4,by rw [ak (A0k ap.n35)];exact L.l5⟩
 have fr1:∀ c o,c≠a3->H c=some o->(upd H a3 (.dK (putK ow (.inr p) (.int (zu+own1))))) c=some o:=fun c o hc q=>by rw [ak hc];exact q
 have hown:(bJ (putK ow (.inr p) (.int (zu+own1))) 0x2D).isSome=true:=by
  rw [bK]
  by_cases q:(Sum.inr e:Key)=.inr p
  ·rw [A0i q];rfl
  ·rw [A0e q,ho1];rfl
 generalize upd H a3 (.dK (putK ow (.inr p) (.int (zu+own1))))=H1 at L1 fr1 ⊢;generalize putK ow (.inr p) (.int (zu+own1))=ow1 at L1 hown k ⊢;refine ⟨_,rfl,x,dx,_,rfl,L1.o,rfl,_,rfl,x,dx,a1,a2,a3,a4,a5,lo,ho,ow1,se,br,e,rfl,L1,by rw [hlo];rfl,tk,tv,hl,fun r ss H2 s2 hr0 hr2 hp hs=>?_⟩;have hsl:ss.length<=lo.length:=by
  rw [hp.length_eq,cg];exact A0K _ _
 have L2:=L1.same s2;refine ⟨r,rfl,⟨_,bT.of hr2⟩,iB (K:=K) (a:=r) (xs:=ss.map V.str) (fun i σ Hx=>(∃ u3,σ=[some (.ref x),some (.str e),some (.str p),u3])/\Hx r=some 0x49/\bZ C Hx x dx a1 a2 a3 a4 a5 (moved lo (ss.take i) p) ho ow1 se br/\∀ c o,c≠a1->H1 c=some o->Hx c=some o)
  ⟨⟨none,rfl⟩,hr2,L2,fun c o _ q=>s2 c o q⟩ (fun i σ Hx _ h=>bT.of h.2.1) ?_ ?_⟩
 ·rintro i v σ Hx hv ⟨⟨u3,rfl⟩,rx,Lx,fx⟩;rw [jY] at hv;obtain ⟨n,hn,rfl⟩:=A0w.mp hv;have hml:=xU lo p (ss.take i);rw [A0G] at hml;refine ⟨_,rfl,_,rfl,x,C,dx,_,_,rfl,Lx.o,T.cl,T.n1,rfl,_,rfl,a1,_,rfl,iR.k (k:=.inr n) Lx.l1 (bU 0x2),?_⟩;have em:moved lo (ss.take (i+1)) p=putK (moved lo (ss.take i) p) 0x28 (.str p):=by rw [A1o,hn];exact v8 _ _ _ _
  refine ⟨⟨_,rfl⟩,by rw [ak (aK rx Lx.l1 0xE)];exact rx,⟨by rw [ak (aK Lx.o Lx.l1 0xE)];exact Lx.o,by rw [em];exact ao,by rw [ak (A0k ap.n12)];exact Lx.l2,by rw [ak (A0k ap.n13)];exact Lx.l3,by rw [ak (A0k ap.n14)];exact Lx.l4,by rw [ak (A0k ap.n15)];exact Lx.l5⟩,fun c o hc q=>by rw [ak hc];exact fx c o hc q⟩
 ·rintro σ Hx ⟨⟨u3,rfl⟩,rx,Lx,fx⟩;rw [cg,A1h] at Lx;have hmv:=Gw (p:=p) (show (bJ lo 0x2D).isSome=true by rw [hlo];rfl) ss
  have x1:=aK Lx.o Lx.l1 0xE;have x2:=aK Lx.o Lx.l2 0xE;have x3:=aK Lx.o Lx.l3 0xE;have x4:=aK Lx.o Lx.l4 0xE;have x5:=aK Lx.o Lx.l5 0xE;refine ⟨_,rfl,x,C,dx,_,_,rfl,Lx.o,T.cl,T.n1,rfl,_,rfl,a1,_,.inr e,rfl,Lx.l1,rfl,hmv,?_⟩;refine ⟨_,rfl,x,C,dx,_,_,rfl,by rw [ak x1];exact Lx.o,T.cl,T.n2,rfl,_,rfl,a2,_,.inr e,rfl,by rw [ak (A0k ap.n12)];exact Lx.l2,rfl,hh,?_⟩;refine ⟨_,rfl,x,C,dx,_,_,rfl,by rw [ak x2,ak x1];exact Lx.o,T.cl,T.n3,rfl,_,rfl,a3,_,.inr e,rfl,by rw [ak (A0k ap.n23),ak (A0k ap.n13)];exact Lx.l3,rfl,hown,?_⟩;refine ⟨_,rfl,x,C,dx,_,_,rfl,by rw [ak x3,ak x2,ak x1];exact Lx.o,T.cl,T.n4,rfl,_,rfl,a4,_,.inr e,rfl,by rw [ak (A0k ap.n34),ak (A0k ap.n24),ak (A0k ap.n14)];exact Lx.l4,rfl,hse,?_⟩;refine ⟨_,rfl,x,C,dx,_,_,rfl,by rw [ak x4,ak x3,ak x2,ak x1];exact Lx.o,T.cl,T.n5,rfl,_,rfl,a5,_,.inr e,rfl,by rw [ak (A0k ap.n45),ak (A0k ap.n35),ak (A0k ap.n25),ak (A0k ap.n15)];exact Lx.l5,rfl,hbr,?_⟩;refine k ss _ hp hmv ⟨?_,?_,?_,?_,?_,ao⟩ fun c o c1 c2 c3 c4 c5 q=>?_
  ·rw [ak x5,ak x4,ak x3,ak x2,ak x1];exact Lx.o
  ·rw [ak ap.n15,ak ap.n14,ak ap.n13,ak ap.n12,ao]
  ·rw [ak ap.n25,ak ap.n24,ak ap.n23,ao]
  ·rw [ak ap.n35,ak ap.n34,ao]
  ·rw [ak ap.n45,ao]
  ·rw [ak c5,ak c4,ak c3,ak c2,ak c1];exact fx c o c1 (fr1 c o c3 q)
end
abbrev a0d:Stmt:=top 20
abbrev R5:Stmt:=top 18
abbrev Gy:Stmt:=top 19
abbrev Ra:Stmt:=top 48
abbrev CW:Stmt:=top 49
abbrev a0e:Stmt:=top 50
def wB (v:Int):Prop:=0<=v/\v<1000003
theorem zx {fs:List Int}{v:Int} (h:∀ x∈fs,wB x) (hv:wB v):∀ x∈fs++[v],wB x:=fun x hx=>by
 rcases A0v.mp hx with z | z
 ·exact h x z
 ·rw [A0c.mp z];exact hv
theorem tW (fs:List Int) (v:Int):fs.map V.int++[V.int v]=(fs++[v]).map V.int:=by simp
inductive Gz (K:W.Frag) (vs:List V) (H:Hp) (Q:VK) (cD:XK):Prop
 | mk (a:Addr) (ns:List Int) (many:Int) (_:vs=[.ref a,.int many]) (_:bT K H a (ns.map V.int)) (_:ns.length<=63) (_:0<=many) (_:many<=100000) (_:∀ (r:Addr) (H':Hp) (fs:List Int),Same H H'->H r=none->H' r=some (.lst (fs.map V.int))->(fs.length:Int)=many->(∀ v∈fs,wB v)->Q (.ref r) H'):Gz K vs H Q cD
theorem lD:aQ ["_law_script", "_law_many", "_law_feed_here", "_law_salt", "_law_cell", "_law_rest", "_law_k"] ["_law_script", "_law_many"] (aJ Ra):=0x0
theorem Wf (F:fK K "_law_feed" "_law_feed" Ra f fd) (mr:mg "range"=none) (ml:mg "len"=none):aL P w K mg base bN 1 f fd ["_law_script", "_law_many"] (Gz K):=by
 refine F.ok lD 0x1 0x3;obtain ⟨a,ns,many,rfl,hS,h63,hm0,hm1,k⟩:=h;refine ⟨_,au (aU (i:=2) lD.nd rfl 0x8 (eG aC))
  (au (aU (i:=3) lD.nd rfl 0x8 aA)
  (au (iz A0W rfl (gH (dY jC 0x3A fj (cA aA))) (bD (i:=4) lD.nd rfl 0x8)
   (au (aU (i:=3) lD.nd rfl 0x8 (aR bY (aR dH (aR dH (aR lA (pv 3) aA) (aR bY (pv 4) aA)) aA) aA))
   (au (aU (i:=5) lD.nd rfl 0x8 (aR pB (pv 4) (aR Zj aA aA)))
   (au (bQ (aV pR (pv 5) aA (bH _))
     (aG (bO (jj A0H A0T A0U dR (pv 2) (aj (aR bY (pv 4) aA) aC)))) aX)
   (aG (iz A0W rfl (lQ rfl mr (aj aA aC)) (bD (i:=6) lD.nd rfl 0x8)
    (aG (bQ (aV Pz (pv 5) aA (bH _))
     (au (bO (jj A0H A0T A0U dR (pv 2) (aj (aR bY (pv 5) aA) aC)))
     (aG (aU (i:=5) lD.nd rfl 0x8 (aR jB (pv 5) aA)))) aX))))))))
  (au (iz A0W rfl (lQ rfl mr (aj (aR pB 0x11 (bF dI rfl ml A1y 0x3D)) aC)) (bD (i:=6) lD.nd rfl 0x8)
   (au (aU (i:=3) lD.nd rfl 0x8 (aR bY (aR dH (aR dH (aR dH (aR lA (aR lA (pv 3) (pv 3)) (pv 3)) (aR lA aA (pv 3))) (aR lA aA (pv 6))) aA) aA))
   (aG (bO (jj A0H A0T A0U dR (pv 2) (aj (aR bY (aR jB (pv 3) aA) aA) aC))))))
  (aG (aZ (dY jC (pv 2) fj (cA 0x11))))))),?_⟩
 refine ⟨small 0xA,fun l hl=>?_⟩;have s1:Same H (upd H l (.lst [])):=aP hl _;refine ⟨_,rfl,_,rfl,a,_,rfl,s1.seq hS,fun p hp=>?_⟩;have npl:p≠l:=fun e=>by rw [e,ao] at hp;cases hp
 have hp0:H p=none:=by rw [ak npl] at hp;exact hp
 refine ⟨p,rfl,⟨_,bT.of ao⟩,iB (K:=K) (a:=p) (xs:=gw (ns.map V.int) none (some 63)) (fun i σ H2=>∃ (fs:List Int) (salt:Int) (c r k:Option V),σ=[some (.ref a),some (.int many),some (.ref l),some (.int salt),c,r,k]/\Same H H2 /\
   H2 p=some (.lst (gw (ns.map V.int) none (some 63)))/\H2 l=some (.lst (fs.map V.int))/\fs.length<=61 * i/\(∀ v∈fs,wB v)/\0<=salt/\salt<2147483647)
  ⟨[],29,none,none,none,rfl,bL s1 hp0,ao,by rw [ak (A0k npl),ao];rfl,A0Z _,(fun v hv=>nomatch hv),by decide,by decide⟩ (fun i σ H2 _ ⟨_,_,_,_,_,_,_,hq,_⟩=>bT.of hq) ?_ ?_⟩
 ·rintro i y σ H2 hi ⟨fs,salt,c,r,kk,rfl,s2,hq,hL,hlen,hok,z0,z1⟩;have hil:i<(gw (ns.map V.int) none (some 63)).length:=(A0l.mp hi).1;have hcl:=kI (ns.map V.int) none (some 63);rw [cg] at hcl;obtain ⟨cell,rfl⟩:∃ z,y=V.int z:=by
   have hm:y∈gw (ns.map V.int) none (some 63):=wD hi;have hm2:y∈ns.map V.int:=A3o (A2l hm);obtain ⟨z,_,rfl⟩:=A0m.mp hm2;exact ⟨z,rfl⟩
  refine ⟨_,rfl,_,_,rfl,rfl,.inl ⟨by lia,by lia⟩,_,rfl,_,_,rfl,rfl,(by show (0:Int)<2147483629;decide),_,_,rfl,rfl,_,_,rfl,rfl,_,_,rfl,rfl,(by show (0:Int)<2147483647;decide),?_⟩
  refine ⟨_,rfl,_,_,rfl,rfl,⟨by decide,by decide,by decide⟩,_,_,rfl,rfl,?_⟩;have z0':0<=(salt * 69621+cell % 2147483629+11) % 2147483647:=A0Q _ 0x7;have z1':(salt * 69621+cell % 2147483629+11) % 2147483647<2147483647:=A0J _ 0x7;refine ⟨_,rfl,_,_,rfl,rfl,_,rfl,?_⟩;refine iQ 0x54 0x54
  ·refine ⟨_,rfl,.inl ⟨rfl,_,bT.of hL⟩,_,rfl,_,_,rfl,rfl,(by show (0:Int)<1000003;decide),l,_,_,rfl,rfl,hL,(by rw [cg];exact bU 0x2),?_⟩
   have hgs:∃ gs:List Int,(upd H2 l (.lst (fs.map V.int++[V.int (cell % 1000003)]))) l=some (.lst (gs.map V.int))/\gs.length<=61 * i+1/\∀ v∈gs,wB v :=
    ⟨fs++[cell % 1000003],by rw [ao,tW],by rw [iT,A0t];lia,zx hok ⟨A0Q _ 0x7,A0J _ 0x7⟩⟩
   have s3:Same H (upd H2 l (.lst (fs.map V.int++[V.int (cell % 1000003)]))):=bL s2 hl;have hq3:(upd H2 l (.lst (fs.map V.int++[V.int (cell % 1000003)]))) p=some (.lst (gw (ns.map V.int) none (some 63))):=by rw [ak npl];exact hq
   generalize upd H2 l (.lst (fs.map V.int++[V.int (cell % 1000003)]))=H3 at hgs s3 hq3;obtain ⟨gs,hL3,hg1,hg2⟩:=hgs;refine ⟨60,rfl,by decide,by decide,lU (lo:=0) (n:=60) (fun j σ H4=>∃ (hs:List Int) (rest nJ:Int) (k:Option V),σ=[some (.ref a),some (.int many),some (.ref l),some (.int nJ),some (.int cell),some (.int rest),k]/\0<=nJ/\nJ<2147483647/\Same H H4 /\
    H4 p=some (.lst (gw (ns.map V.int) none (some 63)))/\H4 l=some (.lst (hs.map V.int))/\hs.length<=61 * i+1+j/\(∀ v∈hs,wB v)) ⟨gs,_,_,kk,rfl,z0',z1',s3,hq3,hL3,hg1,hg2⟩ ?_ ?_⟩
   ·rintro j σ H4 hj ⟨hs,rest,nJ,k',rfl,x0,x1,s4,Wg,Fd,hh1,MK⟩;refine ⟨_,rfl,_,_,rfl,rfl,_,rfl,?_⟩;refine iQ 0x54 0x54
    ·refine ⟨_,rfl,.inl ⟨rfl,_,bT.of Fd⟩,_,rfl,_,_,rfl,rfl,(by show (0:Int)<1009;decide),l,_,_,rfl,rfl,Fd,(by rw [cg];exact bU 0x2),?_⟩
     refine ⟨_,rfl,_,_,rfl,rfl,⟨by decide,by decide⟩,?_⟩;exact ⟨hs++[rest % 1009],_,_,_,rfl,x0,x1,bL s4 hl,by rw [ak npl];exact Wg,by rw [ao,tW],by rw [iT,A0t];lia,
      zx MK ⟨A0Q _ 0x7,by have:=A0J rest (show (0:Int)<1009 by decide);lia⟩⟩
    ·exact ⟨hs,_,_,_,rfl,x0,x1,s4,Wg,Fd,by lia,MK⟩
   ·rintro σ H4 ⟨hs,rest,nJ,k',rfl,x0,x1,s4,Wg,Fd,hh1,MK⟩;exact ⟨hs,_,_,_,_,rfl,s4,Wg,Fd,by lia,MK,x0,x1⟩
  ·obtain ⟨gs,hL3,hg1,hg2⟩:∃ gs:List Int,H2 l=some (.lst (gs.map V.int))/\gs.length<=61 * i+1/\∀ v∈gs,wB v:=⟨fs,hL,by lia,hok⟩;refine ⟨60,rfl,by decide,by decide,lU (lo:=0) (n:=60) (fun j σ H4=>∃ (hs:List Int) (rest nJ:Int) (k:Option V),σ=[some (.ref a),some (.int many),some (.ref l),some (.int nJ),some (.int cell),some (.int rest),k]/\0<=nJ/\nJ<2147483647/\Same H H4 /\
    H4 p=some (.lst (gw (ns.map V.int) none (some 63)))/\H4 l=some (.lst (hs.map V.int))/\hs.length<=61 * i+1+j/\(∀ v∈hs,wB v)) ⟨gs,_,_,kk,rfl,z0',z1',s2,hq,hL3,hg1,hg2⟩ ?_ ?_⟩
   ·rintro j σ H4 hj ⟨hs,rest,nJ,k',rfl,x0,x1,s4,Wg,Fd,hh1,MK⟩;refine ⟨_,rfl,_,_,rfl,rfl,_,rfl,?_⟩;refine iQ 0x54 0x54
    ·refine ⟨_,rfl,.inl ⟨rfl,_,bT.of Fd⟩,_,rfl,_,_,rfl,rfl,(by show (0:Int)<1009;decide),l,_,_,rfl,rfl,Fd,(by rw [cg];exact bU 0x2),?_⟩
     refine ⟨_,rfl,_,_,rfl,rfl,⟨by decide,by decide⟩,?_⟩;exact ⟨hs++[rest % 1009],_,_,_,rfl,x0,x1,bL s4 hl,by rw [ak npl];exact Wg,by rw [ao,tW],by rw [iT,A0t];lia,
      zx MK ⟨A0Q _ 0x7,by have:=A0J rest (show (0:Int)<1009 by decide);lia⟩⟩
    ·exact ⟨hs,_,_,_,rfl,x0,x1,s4,Wg,Fd,by lia,MK⟩
   ·rintro σ H4 ⟨hs,rest,nJ,k',rfl,x0,x1,s4,Wg,Fd,hh1,MK⟩;exact ⟨hs,_,_,_,_,rfl,s4,Wg,Fd,by lia,MK,x0,x1⟩
 ·rintro σ H2 ⟨fs,salt,c,r,kk,rfl,s2,hq,hL,hlen,hok,z0,z1⟩;have hcl:=kI (ns.map V.int) none (some 63);rw [cg] at hcl;refine ⟨_,rfl,_,rfl,l,_,rfl,.inl (bT.of hL),_,_,rfl,rfl,many - (fs.length:Int),(by rw [cg]),by lia,by lia,?_⟩;refine lU (lo:=0) (n:=(many - (fs.length:Int)).toNat) (fun j σ H4=>∃ (hs:List Int) (salt:Int) (k:Option V),σ=[some (.ref a),some (.int many),some (.ref l),some (.int salt),c,r,k]/\Same H H4 /\
    H4 l=some (.lst (hs.map V.int))/\hs.length=fs.length+j/\(∀ v∈hs,wB v)/\0<=salt/\salt<2147483647) ⟨fs,salt,kk,rfl,s2,hL,rfl,hok,z0,z1⟩ ?_ ?_
  ·rintro j σ H4 hj ⟨hs,salt,k',rfl,s4,Fd,hh1,MK,y0,y1⟩;refine ⟨_,rfl,_,rfl,_,_,rfl,rfl,.inl ⟨by lia,by lia⟩,_,rfl,_,_,rfl,rfl,.inr ⟨by lia,by lia⟩,_,rfl,_,_,rfl,rfl,.inl ⟨by decide,by decide⟩,_,_,rfl,rfl,_,rfl,_,_,rfl,rfl,.inl ⟨by decide,by decide⟩,_,_,rfl,rfl,_,_,rfl,rfl,_,_,rfl,rfl,(by show (0:Int)<2147483629;decide),?_⟩
   refine ⟨_,rfl,.inl ⟨rfl,_,bT.of Fd⟩,_,rfl,_,_,rfl,rfl,⟨by decide,by decide⟩,_,_,rfl,rfl,(by show (0:Int)<1009;decide),l,_,_,rfl,rfl,Fd,(by rw [cg];exact bU 0x2),?_⟩
   refine ⟨hs++[_],_,_,rfl,bL s4 hl,by rw [ao,tW],by rw [iT,A0t];lia,zx MK ⟨A0Q _ 0x7,?_⟩,A0Q _ 0x7,?_⟩
   ·have:=A0J ((salt * salt * salt+48271 * salt+13 * (0+(j:Int))+5) % 2147483629 / 1013) (show (0:Int)<1009 by decide)
    lia
   ·have:=A0J (salt * salt * salt+48271 * salt+13 * (0+(j:Int))+5) (show (0:Int)<2147483629 by decide)
    lia
  ·rintro σ H4 ⟨hs,salt,k',rfl,s4,Fd,hh1,MK,y0,y1⟩;refine ⟨_,rfl,_,rfl,many,rfl,l,_,rfl,bT.of Fd,fun q hq'=>?_⟩;have rN:gw (hs.map V.int) none (some many)=(hs.take many.toNat).map V.int:=by
    unfold gw;have e1:HT.eV (hs.map V.int).length 0 none=0:=rfl;have e2:HT.eV (hs.map V.int).length (hs.map V.int).length (some many)=min many.toNat (hs.map V.int).length:=by
     have em:many=((many.toNat:Nat):Int):=by lia
     generalize many.toNat=mm at em ⊢;rw [em,HT.kE]
    rw [e1,e2,A4N,List.map_take,Nat.sub_zero,cg];rw [List.take_eq_take_iff,cg];lia
   refine k q _ (hs.take many.toNat) (bL s4 (s4.free hq')) (s4.free hq') (by rw [ao,rN]) ?_ fun v hv=>MK v (A2l hv);rw [A0G];lia
def Yw:V->Bool
 | .non | .bl _ | .int _ | .str _=>true
 | _=>false
def Rb (H:Hp):Nat->V->V->Prop
 | 0,_,_=>False
 | n+1,x,y=>(x=y/\Yw x=true)\/(∃ p q xs ys,x=.ref p/\y=.ref q/\H p=some 0x3E/\H q=some (.tup ys)/\xs.length=ys.length/\xs.length<=1000/\∀ (i:Nat) (x y:V),xs[i]?=some x->ys[i]?=some y->Rb H n x y) \/
  (∃ p q xs ys,x=.ref p/\y=.ref q/\H p=some (.lst xs)/\H q=some (.lst ys)/\xs.length=ys.length/\xs.length<=1000/\∀ (i:Nat) (x y:V),xs[i]?=some x->ys[i]?=some y->Rb H n x y)
theorem Rb.same (s:Same H H'):∀ {n:Nat}{x y:V},Rb H n x y->Rb H' n x y
 | 0,_,_,h=>h
 | n+1,x,y,h=>by
  rcases h with h | ⟨p,q,xs,ys,e1,e2,e3,e4,e5,e6,e7⟩ | ⟨p,q,xs,ys,e1,e2,e3,e4,e5,e6,e7⟩
  ·exact .inl h
  ·exact .inr (.inl ⟨p,q,xs,ys,e1,e2,s _ _ e3,s _ _ e4,e5,e6,fun i x y h1 h2=>(e7 i x y h1 h2).same s⟩)
  ·exact .inr (.inr ⟨p,q,xs,ys,e1,e2,s _ _ e3,s _ _ e4,e5,e6,fun i x y h1 h2=>(e7 i x y h1 h2).same s⟩)
inductive pH (n:Nat) (vs:List V) (H:Hp) (Q:VK) (cD:XK):Prop
 | mk (x y:V) (_:vs=[x,y]) (_:Rb H n x y) (_:∀ H',Same H H'->Q (.bl true) H'):pH n vs H Q cD
structure Ms (K:PySem.W.Frag) (mg:Str->Option Value) (x:Str) (g:Addr) (gd:FuncData) (ps:List Str):Prop where
 b:Binds K gd ps []
 k:PySem.W.keepIn K (.ref g)=true
 m:mg x=some (.ref g)
structure MgS (mg:Str->Option Value):Prop where
 Vo:mg "isinstance"=none
 bool:mg "bool"=none
 int:mg "int"=none
 str:mg "str"=none
 list:mg "list"=none
 tuple:mg "tuple"=none
 len:mg "len"=none
 all:mg "all"=none
 zip:mg "zip"=none
theorem a0f:aQ A5M A5M (aJ CW):=0x0
def scS1:Scope:={ kind:=.function,names:=[(".0",.local),("_law_one",.local),("_law_other",.local),("_law_same",.globalImplicit)],isGenerator:=false,isCoroutine:=false }
theorem csS1:fO A5M (aJ CW) scS1 A6d [] []:=0xB
theorem Wh:((A6d:List Str)++([]:List Str)).Nodup:=by decide +kernel
theorem all_true {bs:List Bool} (h:∀ b∈bs,b=true):bs.all id=true:=A1G.mpr fun b hb=>h b hb
theorem Rf (n:Nat):List.replicate n (V.bl true)=(List.replicate n true).map V.bl:=by rw [A4Q]
theorem Rg (F:fK K "_law_same" "_law_same" CW f fd) (m:MgS mg) (M:Ms K mg "_law_same" f fd A5M) (G:aL P w K mg base bN n f fd A5M (pH n)):aL P w K mg base bN (n+1) f fd A5M (pH (n+1)):=by
 refine F.ok a0f 0x1 0x3;obtain ⟨x,y,rfl,heq,k⟩:=h;refine ⟨_,au (bQ (Fv (Pg 0x11)) (aG (aZ (Ft (Pg 0x3A)))) aX)
  (au (bQ (dU (bF (cR (K:=K)) rfl m.Vo cI (aj 0x11 (aj (j9 rfl m.bool yZ rfl (v:=.ty "bool")) aC))))
   (aG (aZ (nj (bF (cR (K:=K)) rfl m.Vo cI (aj 0x3A (aj (j9 rfl m.bool yZ rfl (v:=.ty "bool")) aC))) (uE (jd dO 0x3A 0x11 (bH _)))))) aX)
  (au (bQ (dU (bF (cR (K:=K)) rfl m.Vo cI (aj 0x11 (aj (j9 rfl m.tuple Cp rfl (v:=.ty "tuple")) aC))))
   (au (bQ (PW.pt (uD (gO (dU (bF (cR (K:=K)) rfl m.Vo cI (aj 0x3A (aj (j9 rfl m.tuple Cp rfl (v:=.ty "tuple")) aC))))) (pq (aV oV (bF (o8 (K:=K)) rfl m.len A1y (aj 0x3A aC)) (bF (o8 (K:=K)) rfl m.len A1y 0x33) (bH _))))) (aG (aZ Bv)) aX)
   (aG (aZ (bF (lW (K:=K) rfl hr.hd) rfl m.all uO (aj (gW rfl csS1 (Qw rfl m.zip (aj 0x3A 0x33))
    (fun s H fp C=>⟨qe (K:=K) (n:=2) rfl (bM (bD (i:=0) Wh rfl 0x8) (bM (bD (i:=1) Wh rfl 0x8) gj)),mH,bC G hr rfl M.m M.k M.b .nil aY (aj 0x3A 0x33)⟩)) aC))))) aX)
  (au (bQ (dU (bF (cR (K:=K)) rfl m.Vo cI (aj 0x11 (aj (j9 rfl m.list o9 rfl (v:=.ty "list")) aC))))
   (au (bQ (PW.pt (uD (gO (dU (bF (cR (K:=K)) rfl m.Vo cI (aj 0x3A (aj (j9 rfl m.list o9 rfl (v:=.ty "list")) aC))))) (pq (aV oV (bF (o8 (K:=K)) rfl m.len A1y (aj 0x3A aC)) (bF (o8 (K:=K)) rfl m.len A1y 0x33) (bH _))))) (aG (aZ Bv)) aX)
   (aG (aZ (bF (lW (K:=K) rfl hr.hd) rfl m.all uO (aj (gW rfl csS1 (Qx rfl m.zip (aj 0x3A 0x33))
    (fun s H fp C=>⟨qe (K:=K) (n:=2) rfl (bM (bD (i:=0) Wh rfl 0x8) (bM (bD (i:=1) Wh rfl 0x8) gj)),mH,bC G hr rfl M.m M.k M.b .nil aY (aj 0x3A 0x33)⟩)) aC))))) aX)
  (au (bQ (dU (bF (cR (K:=K)) rfl m.Vo cI (aj 0x11 (aj (j9 rfl m.str Qp rfl (v:=.ty "str")) aC))))
   (aG (aZ (nj (bF (cR (K:=K)) rfl m.Vo cI (aj 0x3A (aj (j9 rfl m.str Qp rfl (v:=.ty "str")) aC))) (uE (jd dO 0x3A 0x11 (bH _)))))) aX)
  (aG (aZ (nj (bF (cR (K:=K)) rfl m.Vo cI (aj 0x3A (aj (j9 rfl m.int ZC rfl (v:=.ty "int")) aC)))
   (nj (Za (bF (cR (K:=K)) rfl m.Vo cI (aj 0x3A (aj (j9 rfl m.bool yZ rfl (v:=.ty "bool")) aC)))) (uE (jd dO 0x3A 0x11 (bH _))))))))))),?_⟩
 rcases heq with ⟨rfl,hsc⟩ | ⟨p,q,xs,ys,rfl,rfl,hp,hq,hl,hz,hi⟩ | ⟨p,q,xs,ys,rfl,rfl,hp,hq,hl,hz,hi⟩
 ·cases x with
  | non=>exact ⟨_,rfl,_,rfl,dB ⟨_,rfl,k _ (Same.refl _)⟩⟩
  | bl b =>
   refine ⟨_,rfl,_,rfl,cu ?_⟩;refine ⟨_,rfl,_,_,_,true,rfl,.bl b,rfl,_,rfl,dB ?_⟩;refine ⟨_,rfl,_,_,_,true,rfl,.bl b,rfl,_,rfl,dB ?_⟩;refine ⟨_,rfl,_,rfl,rfl,?_⟩
   show Q (.bl (decide (V.bl b=V.bl b))) H
   rw [A0j rfl];exact k _ (Same.refl _)
  | int i =>
   refine ⟨_,rfl,_,rfl,cu ?_⟩;refine ⟨_,rfl,_,_,_,false,rfl,.int i,rfl,_,rfl,cu ?_⟩;refine ⟨_,rfl,_,_,_,false,rfl,.int i,rfl,_,rfl,cu ?_⟩;refine ⟨_,rfl,_,_,_,false,rfl,.int i,rfl,_,rfl,cu ?_⟩;refine ⟨_,rfl,_,_,_,false,rfl,.int i,rfl,_,rfl,cu ?_⟩;refine ⟨_,rfl,_,_,_,true,rfl,.int i,rfl,_,rfl,dB ?_⟩;refine ⟨_,rfl,_,_,_,false,rfl,.int i,rfl,_,rfl,_,rfl,dB ?_⟩;refine ⟨_,rfl,_,rfl,rfl,?_⟩
   show Q (.bl (decide (V.int i=V.int i))) H
   rw [A0j rfl];exact k _ (Same.refl _)
  | str z =>
   refine ⟨_,rfl,_,rfl,cu ?_⟩;refine ⟨_,rfl,_,_,_,false,rfl,.str z,rfl,_,rfl,cu ?_⟩;refine ⟨_,rfl,_,_,_,false,rfl,.str z,rfl,_,rfl,cu ?_⟩;refine ⟨_,rfl,_,_,_,false,rfl,.str z,rfl,_,rfl,cu ?_⟩;refine ⟨_,rfl,_,_,_,true,rfl,.str z,rfl,_,rfl,dB ?_⟩;refine ⟨_,rfl,_,_,_,true,rfl,.str z,rfl,_,rfl,dB ?_⟩;refine ⟨_,rfl,_,rfl,rfl,?_⟩
   show Q (.bl (decide (V.str z=V.str z))) H
   rw [A0j rfl];exact k _ (Same.refl _)
  | J4 _=>cases hsc
  | flt _=>cases hsc
  | ref _=>cases hsc
  | ty _=>cases hsc
 ·refine ⟨_,rfl,_,rfl,cu ?_⟩;refine ⟨_,rfl,_,_,_,false,rfl,.tup hq,rfl,_,rfl,cu ?_⟩;refine ⟨_,rfl,_,_,_,true,rfl,.tup hq,rfl,_,rfl,dB ?_⟩;refine ⟨_,rfl,_,_,_,true,rfl,.tup hp,rfl,_,rfl,cu ?_⟩;refine ⟨_,rfl,p,xs,rfl,.inr (bR.of hp),_,rfl,q,ys,rfl,.inr (bR.of hq),rfl,_,rfl,?_⟩;refine Jm (by rw [hl]) ?_;refine ⟨_,rfl,_,rfl,p,q,rfl,⟨_,bR.of hp⟩,⟨_,bR.of hq⟩,fun D hD=>?_⟩;refine qd (n:=xs.length) (fx:=fun i=>xs.getD i .non) (fy:=fun i=>ys.getD i .non) (fun i zs H2=>zs=List.replicate i (V.bl true)/\Same H H2/\H2 D=some (.lst zs)) (fun i zs H2 ⟨_,s2,_⟩=>Cv (bR.of (s2 _ _ hp)) (bR.of (s2 _ _ hq)) hl) ⟨rfl,aP hD _,ao⟩ (fun i zs H2 h=>h.2.2) ?_ ?_
  ·rintro i zs H2 r hir ⟨rfl,s2,hD2⟩ hr2;have nrD:D≠r:=aq hD2 hr2;have e1:xs[i]?=some (xs.getD i .non):=by rw [qT,ju hir];rfl
   have e2:ys[i]?=some (ys.getD i .non):=by rw [qT,ju 0x2];rfl
   have s3:Same H (upd H2 r (.tup [xs.getD i .non,ys.getD i .non])):=bL s2 (s2.free hr2);refine ⟨r,_,rfl,bR.of ao,rfl,_,_,rfl,_,_,rfl,rfl,Kp.set rfl (Kp.set rfl (Kp.refl _)),?_⟩;refine jQ ?_;refine ⟨_,rfl,_,rfl,_,_,rfl,(hi i _ _ e1 e2).same s3,fun H4 s4=>⟨s4 _ _ (by rw [ak nrD];exact hD2),?_,?_,bL (s3.trans s4) hD,ao⟩⟩
   ·rw [A1Q];exact bU 0x2
   ·rw [A4l]
  ·rintro zs H2 ⟨rfl,s2,hD2⟩;refine ⟨D,List.replicate xs.length true,rfl,bT.of (by rw [<- Rf];exact hD2),?_⟩;rw [all_true fun b hb=>A2k hb];exact k _ s2
 ·refine ⟨_,rfl,_,rfl,cu ?_⟩;refine ⟨_,rfl,_,_,_,false,rfl,.lst hq,rfl,_,rfl,cu ?_⟩;refine ⟨_,rfl,_,_,_,false,rfl,.lst hq,rfl,_,rfl,cu ?_⟩;refine ⟨_,rfl,_,_,_,true,rfl,.lst hq,rfl,_,rfl,dB ?_⟩;refine ⟨_,rfl,_,_,_,true,rfl,.lst hp,rfl,_,rfl,cu ?_⟩;refine ⟨_,rfl,p,xs,rfl,.inl (bT.of hp),_,rfl,q,ys,rfl,.inl (bT.of hq),rfl,_,rfl,?_⟩;refine Jm (by rw [hl]) ?_;refine ⟨_,rfl,_,rfl,p,q,rfl,⟨_,bT.of hp⟩,⟨_,bT.of hq⟩,fun D hD=>?_⟩;refine qd (n:=xs.length) (fx:=fun i=>xs.getD i .non) (fy:=fun i=>ys.getD i .non) (fun i zs H2=>zs=List.replicate i (V.bl true)/\Same H H2/\H2 D=some (.lst zs)) (fun i zs H2 ⟨_,s2,_⟩=>Cw (bT.of (s2 _ _ hp)) (bT.of (s2 _ _ hq)) hl) ⟨rfl,aP hD _,ao⟩ (fun i zs H2 h=>h.2.2) ?_ ?_
  ·rintro i zs H2 r hir ⟨rfl,s2,hD2⟩ hr2;have nrD:D≠r:=aq hD2 hr2;have e1:xs[i]?=some (xs.getD i .non):=by rw [qT,ju hir];rfl
   have e2:ys[i]?=some (ys.getD i .non):=by rw [qT,ju 0x2];rfl
   have s3:Same H (upd H2 r (.tup [xs.getD i .non,ys.getD i .non])):=bL s2 (s2.free hr2);refine ⟨r,_,rfl,bR.of ao,rfl,_,_,rfl,_,_,rfl,rfl,Kp.set rfl (Kp.set rfl (Kp.refl _)),?_⟩;refine jQ ?_;refine ⟨_,rfl,_,rfl,_,_,rfl,(hi i _ _ e1 e2).same s3,fun H4 s4=>⟨s4 _ _ (by rw [ak nrD];exact hD2),?_,?_,bL (s3.trans s4) hD,ao⟩⟩
   ·rw [A1Q];exact bU 0x2
   ·rw [A4l]
  ·rintro zs H2 ⟨rfl,s2,hD2⟩;refine ⟨D,List.replicate xs.length true,rfl,bT.of (by rw [<- Rf];exact hD2),?_⟩;rw [all_true fun b hb=>A2k hb];exact k _ s2
theorem zy (F:fK K "_law_same" "_law_same" CW f fd) (m:MgS mg) (M:Ms K mg "_law_same" f fd A5M):∀ n:Nat,aL P w K mg base bN n f fd A5M (pH n)
 | 0=>⟨fun vs H Q E ⟨x,y,_,h,_⟩=>h.elim,fun A outer s H args us vs Q E _ _ _ _ ⟨x,y,_,h,_⟩=>h.elim⟩
 | n+1=>Rg F m M (zy F m M n)
def sgn (t b:Int):Int:=if b<0 then -((Int.gcd t b:Nat):Int) else ((Int.gcd t b:Nat):Int)
def nM (t b:Int):Int:=t.fdiv (sgn t b)
def jR (t b:Int):Int:=b.fdiv (sgn t b)
theorem kO {b:Int} (h:b≠0):0<Int.gcd t b:=Int.gcd_pos_of_ne_zero_right t h
theorem Rh {b:Int} (h:b≠0):sgn t b≠0:=by
 have:=kO (t:=t) h;unfold sgn
 split <;> lia
theorem a1M (t b:Int):sgn t b ∣ t:=by
 unfold sgn
 split
 ·exact (Int.neg_dvd).mpr (Int.gcd_dvd_left t b)
 ·exact Int.gcd_dvd_left t b
theorem a1N (t b:Int):sgn t b ∣ b:=by
 unfold sgn
 split
 ·exact (Int.neg_dvd).mpr (Int.gcd_dvd_right t b)
 ·exact Int.gcd_dvd_right t b
theorem zA (t b:Int):(sgn t b).natAbs=Int.gcd t b:=by
 unfold sgn
 split <;> lia
theorem JQ {s:Int} (hs:s≠0) (h:s ∣ t):s * t.fdiv s=t:=by
 obtain ⟨q,rfl⟩:=h;rw [Int.mul_fdiv_cancel_left _ hs]
theorem tX {b:Int} (h:b≠0):sgn t b * nM t b=t:=JQ (Rh h) (a1M t b)
theorem qx {b:Int} (h:b≠0):sgn t b * jR t b=b:=JQ (Rh h) (a1N t b)
theorem v9 {b:Int} (h:b≠0):0<jR t b:=by
 have e:=qx (t:=t) h;have g:=kO (t:=t) h;have hs:sgn t b=if b<0 then -((Int.gcd t b:Nat):Int) else ((Int.gcd t b:Nat):Int):=rfl
 by_cases hb:b<0
 ·rw [A0i hb] at hs
  by_cases hp:0<jR t b
  ·exact hp
  ·have:0<=sgn t b * jR t b:=by rw [hs];exact Int.mul_nonneg_of_nonpos_of_nonpos 0x2 0x2
   lia
 ·rw [A0e hb] at hs
  by_cases hp:0<jR t b
  ·exact hp
  ·have:sgn t b * jR t b<=0:=by rw [hs];exact Int.mul_nonpos_of_nonneg_of_nonpos 0x2 0x2
   lia
theorem Wi {b:Int} (h:b≠0):Int.gcd (nM t b) (jR t b)=1:=by
 have e1:=tX (t:=t) h;have e2:=qx (t:=t) h;have g:=kO (t:=t) h;have e3:Int.gcd (sgn t b * nM t b) (sgn t b * jR t b)=(sgn t b).natAbs * Int.gcd (nM t b) (jR t b):=Int.gcd_mul_left _ _ _;rw [e1,e2,zA] at e3;exact Nat.eq_of_mul_eq_mul_left g (by rw [<- e3,Nat.mul_one])
theorem a0g {x y k:Int} (hg:Int.gcd x y=1) (hy:0<y) (hk:0<k):nM (x * k) (y * k)=x/\jR (x * k) (y * k)=y:=by
 have e:Int.gcd (x * k) (y * k)=k.natAbs:=by rw [Int.gcd_mul_right,hg,Nat.one_mul]
 have hpos:0<y * k:=A2Y hy hk;have es:sgn (x * k) (y * k)=k:=by
  unfold sgn;rw [A0e 0x2,e];lia
 unfold nM jR;rw [es];exact ⟨Int.mul_fdiv_cancel _ 0x2,Int.mul_fdiv_cancel _ 0x2⟩
theorem Wj {b:Int} (h:b≠0):(jR t b).natAbs<=b.natAbs:=by
 have e:=A1v Int.natAbs (qx (t:=t) h);rw [Int.natAbs_mul,zA] at e;rw [<- e];exact Nat.le_mul_of_pos_left _ (kO h)
theorem Wk {b:Int} (h:b≠0):(nM t b).natAbs<=t.natAbs:=by
 have e:=A1v Int.natAbs (tX (t:=t) h);rw [Int.natAbs_mul,zA] at e;rw [<- e];exact Nat.le_mul_of_pos_left _ (kO h)
theorem CZ {a b:Int} (ha:0<=a) (hb:0<b):Int.gcd b (a % b)=Int.gcd a b:=by
 obtain ⟨m,rfl⟩:=Int.eq_ofNat_of_zero_le ha;obtain ⟨n,rfl⟩:=Int.eq_ofNat_of_zero_le (Int.le_of_lt hb);have e:((m:Int) % (n:Int))=((m % n:Nat):Int):=by lia
 rw [e]
 show Nat.gcd n (m % n)=Nat.gcd m n
 rw [Nat.gcd_comm m n,Nat.gcd_rec n m,Nat.gcd_comm n (m % n)]
theorem JR (t b:Int):Int.gcd (if t<0 then -t else t) (if b<0 then -b else b)=Int.gcd t b:=by
 have e:∀ x:Int,(if x<0 then -x else x).natAbs=x.natAbs:=fun x=>by split <;> lia
 unfold Int.gcd;rw [e,e]
theorem gcd_le_right {b:Int} (h:b≠0):Int.gcd t b<=b.natAbs:=by
 exact Nat.gcd_le_right _ 0x2
def jy (H:Hp) (p:Addr) (t b:Int):Prop:=H p=some (.tup [.int t,.int b])
inductive Ri (vs:List V) (H:Hp) (Q:VK) (cD:XK):Prop
 | mk (a b:Int) (_:vs=[.int a,.int b]) (_:0<=a) (_:0<=b) (_:Q (.int ((Int.gcd a b:Nat):Int)) H):Ri vs H Q cD
inductive xV (vs:List V) (H:Hp) (Q:VK) (cD:XK):Prop
 | mk (t b:Int) (_:vs=[.int t,.int b]) (_:b≠0) (_:b.natAbs<nH) (_:∀ p,H p=none->Q (.ref p) (upd H p (.tup [.int (nM t b),.int (jR t b)]))):xV vs H Q cD
theorem Yx:aQ ["a", "b"] ["a", "b"] (aJ a0d):=0x0
theorem a0h (F:fK K "common_measure" "common_measure" a0d f fd):aL P w K mg base bN 1 f fd ["a", "b"] Ri:=by
 refine F.ok Yx 0x1 0x3;obtain ⟨a,b,rfl,ha,hb,k⟩:=h;refine ⟨_,au (lO A0W (aV oV 0x11 aA (bH _)) (aG (Pj (i:=0) (j:=1) rfl Yx.nd rfl rfl 0x7 rfl rfl (aj 0x11 (aj (aR bY 0x3A 0x11) aC)) (by rfl))))
  (aG (aZ 0x3A)),?_⟩
 refine BJ (fun σ H2=>H2=H/\∃ x y:Int,σ=[some (.int x),some (.int y)]/\0<=x/\0<=y/\Int.gcd x y=Int.gcd a b) (fun σ _=>match σ with | [_,some (.int y)]=>y.toNat | _=>0) ⟨rfl,a,b,rfl,ha,hb,rfl⟩ ?_ ?_
 ·rintro σ H2 ⟨rfl,x,y,rfl,hx,hy,hg⟩;refine ⟨_,rfl,rfl,_,rfl,?_⟩
  by_cases h0:y=0
  ·subst h0;refine Jm rfl ?_;refine ⟨_,rfl,?_⟩;have e:x=((Int.gcd a b:Nat):Int):=by rw [<- hg,Int.gcd_zero_right];lia
   rw [e];exact k
  ·have e:decide (V.int y=V.int 0)=false:=by rw [tK];simpa using h0
   rw [e];refine dB ?_;refine ⟨_,rfl,_,rfl,_,rfl,_,_,rfl,rfl,(by show 0<y;lia),_,_,rfl,⟨rfl,y,x % y,rfl,hy,A0Q _ h0,by rw [CZ hx 0x2];exact hg⟩,?_⟩
   show (x % y).toNat<y.toNat
   have:=A0J x (show 0<y by lia)
   lia
 ·rintro σ H2 Q1 Q2 hq ⟨v,hv,hsc,c,hc,h⟩;exact ⟨v,hv,hsc,c,hc,hq _ _ h⟩
theorem GC:aQ ["top", "bottom", "measure"] ["top", "bottom"] (aJ R5):=0x0
theorem Wm (F:fK K "part" "part" R5 f fd) (ma:mg "abs"=none) {g:Addr}{gd:FuncData} (G:aL P w K mg base bN 1 g gd ["a", "b"] Ri) (M:Ms K mg "common_measure" g gd ["a", "b"]):aL P w K mg base bN 2 f fd ["top", "bottom"] xV:=by
 refine F.ok GC 0x1 0x3;obtain ⟨t,b,rfl,hb,hbig,k⟩:=h;refine ⟨_,au (aU (i:=2) GC.nd rfl 0x8 (bC G hr rfl M.m M.k M.b .nil aY (aj (bF pU rfl ma yX (aj 0x3A aC)) (aj (bF pU rfl ma yX 0x33) aC))))
  (au (bQ (aV pR 0x11 aA (bH _)) (aG (aU (i:=2) GC.nd rfl 0x8 (wM rC (pv 2)))) aX)
  (aG (aZ (cN (aj (aR qg 0x3A (pv 2)) (aj (aR qg 0x11 (pv 2)) aC)))))),?_⟩
 refine ⟨_,rfl,_,rfl,_,rfl,_,rfl,_,_,rfl,by split <;> lia,by split <;> lia,?_⟩;rw [JR];have hg:=kO (t:=t) hb;have hle:=gcd_le_right (t:=t) hb;refine ⟨_,rfl,_,_,rfl,rfl,_,rfl,?_⟩;refine iQ 0x54 0x54
 ·have c':=sS c;have es:sgn t b=-((Int.gcd t b:Nat):Int):=by unfold sgn;rw [A0i c']
  have Rj:(-((Int.gcd t b:Nat):Int)).natAbs<nH:=A0X 0x2 hbig;refine ⟨_,rfl,_,rfl,_,rfl,_,rfl,_,_,rfl,rfl,⟨by lia,Rj⟩,_,rfl,_,rfl,_,_,rfl,rfl,⟨by lia,Rj⟩,(by show 2<=sizeLine;decide),fun p hp=>?_⟩
  have q:=k p hp;unfold nM jR at q;rw [es] at q;exact q
 ·have c':=A2g (Bool.eq_false_iff.mpr c);have es:sgn t b=((Int.gcd t b:Nat):Int):=by unfold sgn;rw [A0e c']
  have Rj:(((Int.gcd t b:Nat):Int)).natAbs<nH:=A0X 0x2 hbig;refine ⟨_,rfl,_,rfl,_,_,rfl,rfl,⟨by lia,Rj⟩,_,rfl,_,rfl,_,_,rfl,rfl,⟨by lia,Rj⟩,(by show 2<=sizeLine;decide),fun p hp=>?_⟩
  have q:=k p hp;unfold nM jR at q;rw [es] at q;exact q
theorem Dc:aQ ["_law_top", "_law_bottom", "_law_one", "_law_other"] ["_law_top", "_law_bottom"] (aJ a0e):=0x0
theorem a0i (F:fK K "_law_low" "_law_low" a0e f fd) (ma:mg "abs"=none):aL P w K mg base bN 1 f fd ["_law_top", "_law_bottom"] xV:=by
 refine F.ok Dc 0x1 0x3;obtain ⟨t,b,rfl,hb,hbig,k⟩:=h;refine ⟨_,au (aU (i:=2) Dc.nd rfl 0x8 (bF pU rfl ma yX (aj 0x3A aC)))
  (au (aU (i:=3) Dc.nd rfl 0x8 (bF pU rfl ma yX 0x33))
  (au (lO A0W (aV oV (pv 3) aA (bH _)) (aG (Pj (i:=2) (j:=3) rfl Dc.nd rfl rfl 0x7 rfl rfl (aj (pv 3) (aj (aR bY (pv 2) (pv 3)) aC)) (by rfl))))
  (au (bQ (aV pR 0x11 aA (bH _)) (aG (aU (i:=2) Dc.nd rfl 0x8 (aR pB aA (pv 2)))) aX)
  (aG (aZ (cN (aj (aR qg 0x3A (pv 2)) (aj (aR qg 0x11 (pv 2)) aC)))))))),?_⟩
 have hg:=kO (t:=t) hb;have hle:=gcd_le_right (t:=t) hb;refine ⟨_,rfl,_,rfl,_,rfl,_,rfl,?_⟩;refine BJ (fun σ H2=>H2=H/\∃ x y:Int,σ=[some (.int t),some (.int b),some (.int x),some (.int y)]/\0<=x/\0<=y/\Int.gcd x y=Int.gcd t b) (fun σ _=>match σ with | [_,_,_,some (.int y)]=>y.toNat | _=>0) ⟨rfl,_,_,rfl,by split <;> lia,by split <;> lia,JR t b⟩ ?_ ?_
 ·rintro σ H2 ⟨rfl,x,y,rfl,hx,hy,hxy⟩;refine ⟨_,rfl,rfl,_,rfl,?_⟩
  by_cases h0:y=0
  ·subst h0;refine Jm rfl ?_;have e:x=((Int.gcd t b:Nat):Int):=by rw [<- hxy,Int.gcd_zero_right];lia
   subst e;refine ⟨_,rfl,_,_,rfl,rfl,_,rfl,?_⟩;refine iQ 0x54 0x54
   ·have c':=sS c;have es:sgn t b=0 - ((Int.gcd t b:Nat):Int):=by unfold sgn;rw [A0i c'];lia
    have Rj:(0 - ((Int.gcd t b:Nat):Int)).natAbs<nH:=A0X 0x2 hbig;refine ⟨_,rfl,_,_,rfl,rfl,_,rfl,_,rfl,_,_,rfl,rfl,⟨by lia,Rj⟩,_,rfl,_,rfl,_,_,rfl,rfl,⟨by lia,Rj⟩,(by show 2<=sizeLine;decide),fun p hp=>?_⟩
    have q:=k p hp;unfold nM jR at q;rw [es] at q;exact q
   ·have c':=A2g (Bool.eq_false_iff.mpr c);have es:sgn t b=((Int.gcd t b:Nat):Int):=by unfold sgn;rw [A0e c']
    have Rj:(((Int.gcd t b:Nat):Int)).natAbs<nH:=A0X 0x2 hbig;refine ⟨_,rfl,_,rfl,_,_,rfl,rfl,⟨by lia,Rj⟩,_,rfl,_,rfl,_,_,rfl,rfl,⟨by lia,Rj⟩,(by show 2<=sizeLine;decide),fun p hp=>?_⟩
    have q:=k p hp;unfold nM jR at q;rw [es] at q;exact q
  ·have e:decide (V.int y=V.int 0)=false:=by rw [tK];simpa using h0
   rw [e];refine dB ?_;refine ⟨_,rfl,_,rfl,_,rfl,_,_,rfl,rfl,(by show 0<y;lia),_,_,rfl,⟨rfl,y,x % y,rfl,hy,A0Q _ h0,by rw [CZ hx 0x2];exact hxy⟩,?_⟩
   show (x % y).toNat<y.toNat
   have:=A0J x (show 0<y by lia)
   lia
 ·rintro σ H2 Q1 Q2 hq ⟨v,hv,hsc,c,hc,h⟩;exact ⟨v,hv,hsc,c,hc,hq _ _ h⟩
theorem Wn:10 ^ 1200<nH:=by unfold nH;decide +kernel
theorem jz {e:Nat} (h:n<10 ^ e) (he:e<=1200):n<nH:=A5k (A0p h (A2I 0x7 he)) Wn
def Bd (e:Nat) (x:Int×Int):Prop:=x.1.natAbs<10 ^ e/\0<x.2/\x.2.natAbs<10 ^ e
theorem Bd.mono {e f:Nat}{x:Int×Int} (h:Bd e x) (he:e<=f):Bd f x:=⟨A0p h.1 (A2I 0x7 he),h.2.1,A0p h.2.2 (A2I 0x7 he)⟩
def oA (t b:Int):Int×Int:=(nM t b,jR t b)
def Yy (x y:Int×Int):Int×Int:=oA (x.1 * y.2 - y.1 * x.2) (x.2 * y.2)
theorem nO {a b:Int}{e f:Nat} (ha:a.natAbs<10 ^ e) (hb:b.natAbs<10 ^ f):(a * b).natAbs<10 ^ (e+f):=by
 rw [Int.natAbs_mul,Nat.pow_add];exact Nat.mul_lt_mul'' ha hb
theorem GD {b:Int}{e:Nat} (hb:0<b) (h1:t.natAbs<10 ^ e) (h2:b.natAbs<10 ^ e):Bd e (oA t b) :=
 ⟨A0X (Wk 0x2) h1,v9 0x2,A0X (Wj 0x2) h2⟩
inductive Rk (vs:List V) (H:Hp) (Q:VK) (cD:XK):Prop
 | mk (p q:Addr) (x y:Prod Int Int) (_:vs=[.ref p,.ref q]) (_:jy H p x.1 x.2) (_:jy H q y.1 y.2) (_:Bd 500 x) (_:Bd 500 y) (_:∀ r,H r=none->Q (.ref r) (upd H r (.tup [.int (Yy x y).1,.int (Yy x y).2]))):Rk vs H Q cD
theorem Wo:aQ ["a", "b"] ["a", "b"] (aJ Gy):=0x0
theorem Rn (F:fK K "minus" "minus" Gy f fd) {g:Addr}{gd:FuncData} (G:aL P w K mg base bN 2 g gd ["top", "bottom"] xV) (M:Ms K mg "part" g gd ["top", "bottom"]):aL P w K mg base bN 3 f fd ["a", "b"] Rk:=by
 refine F.ok Wo 0x1 0x3;obtain ⟨p,q,x,y,rfl,hp,hq,bx,by',k⟩:=h;refine ⟨_,aG (aZ (bC G hr rfl M.m M.k M.b .nil aY (aj (aR pB (aR jF (aO bA 0x3A aA 0x5) 0x19) (aR jF 0x19 (aO bA 0x3A aA 0x5))) (aj (aR jF (aO bA 0x3A aA 0x5) 0x19) aC)))),?_⟩;have b1:=jz bx.1 0x7;have b2:=jz bx.2.2 0x7;have b3:=jz by'.1 0x7;have b4:=jz by'.2.2 0x7;exact ⟨_,rfl,p,_,_,_,rfl,rfl,bR.of hp,aH (j:=0) rfl,_,rfl,q,_,_,_,rfl,rfl,bR.of hq,aH (j:=1) rfl,_,_,rfl,rfl,⟨b1,b4⟩,_,rfl,q,_,_,_,rfl,rfl,bR.of hq,aH (j:=0) rfl,_,rfl,p,_,_,_,rfl,rfl,bR.of hp,aH (j:=1) rfl,_,_,rfl,rfl,⟨b3,b2⟩,_,_,rfl,rfl,
  _,rfl,p,_,_,_,rfl,rfl,bR.of hp,aH (j:=1) rfl,_,rfl,q,_,_,_,rfl,rfl,bR.of hq,aH (j:=1) rfl,_,_,rfl,rfl,⟨b2,b4⟩,_,_,rfl,A3X (A2Y bx.2.1 by'.2.1),jz (nO bx.2.2 by'.2.2) 0x7,k⟩
inductive oE (C:Addr) (vs:List V) (H:Hp) (Q:VK) (cD:XK):Prop
 | mk (x dx a1 a2 a3 a4 a5:Addr) (lo ho ow se br:List 0x2B) (e n man p:Str) (t0:Addr) (acres own pO:Int) (sx:Prod Int Int) (_:vs=[.ref x,.str e,.str n,.str man,.int acres]) (_:bZ C H x dx a1 a2 a3 a4 a5 lo ho ow se br) (_:Gp a1 a2 a3 a4 a5) (_:bJ lo 0x2D=some (.str p)) (_:bJ ow 0x2D=some (.int own)) (_:bJ se 0x2D=some (.ref t0)) (_:bJ br 0x2D=some (.int pO)) (_:jy H t0 sx.1 sx.2) (_:Bd 400 sx) (_:0<pO) (_:pO.natAbs<10 ^ 5) (_:acres.natAbs<10 ^ 5) (_:lo.length<=800) (_:ho.length<=800) (_:ow.length<=800) (_:se.length<=800) (_:br.length<=800) (_:∀ g r H',H g=none->H r=none->g≠r->bZ C H' x dx a1 a2 a3 a4 a5 (putK lo 0x28 (.str p)) (putK ho 0x28 (.str man)) (putK 0x14 0x28 (.int acres)) (putK (putK se 0x2D (.ref r)) 0x28 (.ref g)) (putK 0x3B 0x28 (.int acres))->jy H' g (0x15).1 (0x15).2->jy H' r (Yy sx 0x15).1 (Yy sx 0x15).2->(∀ c o,c≠a1->c≠a2->c≠a3->c≠a4->c≠a5->H c=some o->H' c=some o)->Q .non H'):oE C vs H Q cD
theorem rO:aQ ["self", "estate", "new", "man", "acres", "service", "going"] A6b (aJ uY):=0x0
theorem GJ (T:cW K C) (F:fK K "part_off" "Land.part_off" uY f fd)  (G1:aL P w K mg base bN 1 g1 d1 A5K (JN C)) (m1:Meth K C "add_estate" g1) (b1:Binds K d1 A5K [])
  (G2:aL P w K mg base bN 2 g2 d2 ["top", "bottom"] xV) (M2:Ms K mg "part" g2 d2 ["top", "bottom"]) (G3:aL P w K mg base bN 3 g3 d3 ["a", "b"] Rk) (M3:Ms K mg "minus" g3 d3 ["a", "b"]) :
  aL P w K mg base bN 4 f fd A6b (oE C):=by
 refine F.ok rO 0x1 0x3;obtain ⟨x,dx,a1,a2,a3,a4,a5,lo,ho,ow,se,br,e,n,man,p,t0,acres,own,pO,sx,rfl,L,ap,hlo,how,hse,hbr,h0,bx,hb0,hb1,hac,e1,e2,e3,e4,e5,k⟩:=h;have G1:=aL.mono (k:=3) G1 0x2;have G2:=aL.mono (k:=3) G2 0x2;refine ⟨_,au (aU (i:=5) rO.nd rfl 0x8 (bf (u1 hr) 0xD 0x11 0x5))
  (au (aU (i:=6) rO.nd rfl 0x8 (bC G2 hr rfl M2.m M2.k M2.b .nil aY (aj (aR jF (aO bA (pv 5) aA 0x5) (pv 4)) (aj (aR jF (aO bA (pv 5) aA 0x5) (bf (u1 hr) 0xD 0x11 0x5)) aC))))
  (au (oh (u1 hr) 0xD 0x11 (pv 4) yN (fun _ _ _=>rfl))
  (au (oh (u1 hr) 0xD 0x11 (pv 4) yN (fun _ _ _=>rfl))
  (au (eO (u1 hr) 0xD 0x11 (bC G3 hr rfl M3.m M3.k M3.b .nil aY (aj (pv 5) (aj (pv 6) aC))) rfl)
  (aG (bO (bW 0x3A T.cl m1 G1 hr b1 .nil aY (aj (pv 2) (aj (bf (u1 hr) 0xD 0x11 0x5) (aj (pv 3) (aj (pv 4) (aj (pv 6) aC)))))))))))),?_⟩
 have q1:=jz bx.1 0x7;have q2:=jz bx.2.2 0x7;have q3:=jz hac 0x7;have q4:=jz hb1 0x7;refine ⟨_,rfl,x,C,dx,_,_,rfl,L.o,T.cl,T.n4,rfl,_,rfl,_,_,rfl,gQ L.l4 hse,?_⟩;refine ⟨_,rfl,t0,_,_,_,rfl,rfl,bR.of h0,aH (j:=0) rfl,_,rfl,_,_,rfl,rfl,⟨q1,q3⟩,_,rfl,t0,_,_,_,rfl,rfl,bR.of h0,aH (j:=1) rfl,?_⟩;refine ⟨_,rfl,x,C,dx,_,_,rfl,L.o,T.cl,T.n5,rfl,_,rfl,_,_,rfl,gQ L.l5 hbr,_,_,rfl,rfl,⟨q2,q4⟩,_,_,rfl,A3X (A2Y bx.2.1 hb0),jz (nO bx.2.2 hb1) 0x7,fun g hg=>?_⟩;have L1:=L.same (aP hg (.tup [.int (0x15).1,.int (0x15).2]));have f1:=(aP hg (.tup [.int (0x15).1,.int (0x15).2]));have hg1:(upd H g (.tup [.int (0x15).1,.int (0x15).2])) g=some (.tup [.int (0x15).1,.int (0x15).2]):=ao;have bg:Bd 405 0x15:=GD (A2Y bx.2.1 hb0) (nO bx.1 hac) (nO bx.2.2 hb1)
 change (LC _ _) _ _ (upd H g (.tup [.int (0x15).1,.int (0x15).2]))
 generalize oA (sx.1 * acres) (sx.2 * pO)=go at L1 f1 hg1 bg k ⊢;have h01:=f1 _ _ h0;have Yz:∀ c,(upd H g (.tup [.int go.1,.int go.2])) c=none->H c=none/\c≠g:=fun c hc=>by
  by_cases q:c=g
  ·rw [q,ao] at hc;cases hc
  ·rw [ak q] at hc;exact ⟨hc,q⟩
 generalize upd H g (.tup [.int go.1,.int go.2])=H1 at L1 f1 hg1 h01 Yz ⊢;refine ⟨_,rfl,x,C,dx,_,_,rfl,L1.o,T.cl,T.n3,rfl,_,rfl,a3,_,rfl,gQ L1.l3 how,_,rfl,_,_,rfl,rfl,_,iR.k (k:=.inr e) L1.l3 (bU 0x2),?_⟩;have g3:=aK hg1 L1.l3 0xE;have g4:=aK hg1 L1.l4 0xE;have g5:=aK hg1 L1.l5 0xE;have t3:=aK h01 L1.l3 0xE;have t5:=aK h01 L1.l5 0xE;have L2:bZ C (upd H1 a3 (.dK 0x14)) x dx a1 a2 a3 a4 a5 lo ho 0x14 se br :=
  ⟨by rw [ak (aK L1.o L1.l3 0xE)];exact L1.o,by rw [ak ap.n13];exact L1.l1,by rw [ak ap.n23];exact L1.l2,ao,by rw [ak (A0k ap.n34)];exact L1.l4,by rw [ak (A0k ap.n35)];exact L1.l5⟩
 have hg2:(upd H1 a3 (.dK 0x14)) g=some (.tup [.int go.1,.int go.2]):=by rw [ak g3];exact hg1
 have h02:(upd H1 a3 (.dK 0x14)) t0=some (.tup [.int sx.1,.int sx.2]):=by rw [ak t3];exact h01
 have f2:∀ c o,c≠a3->H c=some o->(upd H1 a3 (.dK 0x14)) c=some o:=fun c o hc q=>by rw [ak hc];exact f1 c o q
 have YB:∀ c,(upd H1 a3 (.dK 0x14)) c=none->H c=none/\c≠g:=fun c hc=>by
  by_cases q:c=a3
  ·rw [q,ao] at hc;cases hc
  ·rw [ak q] at hc;exact Yz c hc
 generalize upd H1 a3 (.dK 0x14)=H2 at L2 hg2 h02 f2 YB ⊢;have hl2:=cV ow 0x2D (.int (own - acres));generalize putK ow 0x2D (.int (own - acres))=ow2 at L2 hl2 k ⊢;refine ⟨_,rfl,x,C,dx,_,_,rfl,L2.o,T.cl,T.n5,rfl,_,rfl,a5,_,rfl,gQ L2.l5 hbr,_,rfl,_,_,rfl,rfl,_,iR.k (k:=.inr e) L2.l5 (bU 0x2),?_⟩;have L3:bZ C (upd H2 a5 (.dK 0x3B)) x dx a1 a2 a3 a4 a5 lo ho ow2 se 0x3B :=
  ⟨by rw [ak (aK L2.o L2.l5 0xE)];exact L2.o,by rw [ak ap.n15];exact L2.l1,by rw [ak ap.n25];exact L2.l2,by rw [ak ap.n35];exact L2.l3,by rw [ak ap.n45];exact L2.l4,ao⟩
 have hg3:(upd H2 a5 (.dK 0x3B)) g=some (.tup [.int go.1,.int go.2]):=by rw [ak g5];exact hg2
 have h03:(upd H2 a5 (.dK 0x3B)) t0=some (.tup [.int sx.1,.int sx.2]):=by rw [ak t5];exact h02
 have f3:∀ c o,c≠a3->c≠a5->H c=some o->(upd H2 a5 (.dK 0x3B)) c=some o:=fun c o hc hc2 q=>by rw [ak hc2];exact f2 c o hc q
 have YC:∀ c,(upd H2 a5 (.dK 0x3B)) c=none->H c=none/\c≠g:=fun c hc=>by
  by_cases q:c=a5
  ·rw [q,ao] at hc;cases hc
  ·rw [ak q] at hc;exact YB c hc
 generalize upd H2 a5 (.dK 0x3B)=H3 at L3 hg3 h03 f3 YC ⊢;have hl3:=cV br 0x2D (.int (pO - acres));generalize putK br 0x2D (.int (pO - acres))=br2 at L3 hl3 k ⊢;refine ⟨_,rfl,_,rfl,t0,g,sx,go,rfl,h03,hg3,bx.mono 0x7,bg.mono 0x7,fun r YD=>?_⟩;obtain ⟨hr0,hrg⟩:=YC r YD
 apply 0o1 H3 r YD s4 Ro H4
 have L4:=L3.same s4;have hg4:=s4 _ _ hg3;have f4:∀ c o,c≠a3->c≠a5->H c=some o->_:=fun c o hc hc2 q=>s4 _ _ (f3 c o hc hc2 q);refine ⟨_,rfl,x,C,dx,_,_,rfl,L4.o,T.cl,T.n4,rfl,_,rfl,a4,_,rfl,iR.k (k:=.inr e) L4.l4 (bU 0x2),?_⟩;have hl4:=cV se 0x2D (.ref r);have r4:=aK Ro L4.l4 0xE;have L5:bZ C (upd H4 a4 (.dK (putK se 0x2D (.ref r)))) x dx a1 a2 a3 a4 a5 lo ho ow2 (putK se 0x2D (.ref r)) br2 :=
  ⟨by rw [ak (aK L4.o L4.l4 0xE)];exact L4.o,by rw [ak ap.n14];exact L4.l1,by rw [ak ap.n24];exact L4.l2,by rw [ak ap.n34];exact L4.l3,ao,by rw [ak (A0k ap.n45)];exact L4.l5⟩
 have hg5:(upd H4 a4 (.dK (putK se 0x2D (.ref r)))) g=some (.tup [.int go.1,.int go.2]):=by rw [ak g4];exact hg4
 have Rp:(upd H4 a4 (.dK (putK se 0x2D (.ref r)))) r=some (.tup [.int (Yy sx go).1,.int (Yy sx go).2]):=by rw [ak r4];exact Ro
 have f5:∀ c o,c≠a3->c≠a4->c≠a5->H c=some o->(upd H4 a4 (.dK (putK se 0x2D (.ref r)))) c=some o:=fun c o hc hc4 hc5 q=>by rw [ak hc4];exact f4 c o hc hc5 q
 generalize upd H4 a4 (.dK (putK se 0x2D (.ref r)))=H5 at L5 hg5 Rp f5 ⊢;refine ⟨_,rfl,x,dx,_,rfl,L5.o,rfl,_,rfl,?_⟩;refine ⟨_,rfl,x,C,dx,_,_,rfl,L5.o,T.cl,T.n1,rfl,_,rfl,_,_,rfl,gQ L5.l1 hlo,_,rfl,_,rfl,_,rfl,?_⟩;refine ⟨x,dx,a1,a2,a3,a4,a5,lo,ho,ow2,_,br2,n,p,man,acres,g,rfl,L5,ap,by lia,by lia,by lia,by lia,by lia,?_⟩;have x1:=aK L5.o L5.l1 0xE;have x2:=aK L5.o L5.l2 0xE;have x3:=aK L5.o L5.l3 0xE;have x4:=aK L5.o L5.l4 0xE;have x5:=aK L5.o L5.l5 0xE;have out:∀ c o,c≠a1->c≠a2->c≠a3->c≠a4->c≠a5->H5 c=some o->rK H5 a1 a2 a3 a4 a5 lo ho ow2 (putK se 0x2D (.ref r)) br2 n p man acres g c=some o:=fun c o c1 c2 c3 c4 c5 q=>by
  unfold rK;rw [ak c5,ak c4,ak c3,ak c2,ak c1];exact q
 refine k g r _ hg hr0 (A0k hrg) ⟨out _ _ x1 x2 x3 x4 x5 L5.o,?_,?_,?_,?_,?_⟩ ?_ ?_ fun c o c1 c2 c3 c4 c5 q=>out c o c1 c2 c3 c4 c5 (f5 c o c3 c4 c5 q)
 ·unfold rK;rw [ak ap.n15,ak ap.n14,ak ap.n13,ak ap.n12,ao]
 ·unfold rK;rw [ak ap.n25,ak ap.n24,ak ap.n23,ao]
 ·unfold rK;rw [ak ap.n35,ak ap.n34,ao]
 ·unfold rK;rw [ak ap.n45,ao]
 ·unfold rK;exact ao
 ·exact out _ _ (aK hg5 L5.l1 0xE) (aK hg5 L5.l2 0xE) (aK hg5 L5.l3 0xE) (aK hg5 L5.l4 0xE) (aK hg5 L5.l5 0xE) hg5
 ·exact out _ _ (aK Rp L5.l1 0xE) (aK Rp L5.l2 0xE) (aK Rp L5.l3 0xE) (aK Rp L5.l4 0xE) (aK Rp L5.l5 0xE) Rp
abbrev JT:Stmt:=top 12
abbrev a0j:Stmt:=top 23
def KTp (K:PySem.W.Frag) (a:Addr) (xs:List V):Prop:=∃ (o:Obj) (its:Array Value) (n:Nat),K.lookup a=some o/\o.cls=.type "tuple"/\o.data=.seq its n/\its.size<=sizeLine/\Vals xs its.toList
theorem KTp.sq (h:KTp K a xs) (H:Hp):bR K H a xs:=.inr h
structure Wq (K:PySem.W.Frag) (P:Params) (mg:Str->Option Value):Prop where
 bounds:∃ a b1 b2 b3 b4 b5 b6 b7,mg "BOUNDS"=some (.ref a)/\KD K P a [("day",.ref b1),("acres",.ref b2),("service",.ref b3),("bears",.ref b4),("edge",.ref b5),("number",.ref b6),("entry",.ref b7)]/\KTp K b2 [.int 1,.int 9999]
 crown:∃ t,mg "CROWN"=some (.str "" t)
inductive GK (vs:List V) (H:Hp) (Q:VK) (cD:XK):Prop
 | mk (n:Int) (_:vs=[.str "acres",.int n]) (_:1<=n) (_:n<=9999) (_:Q (.bl true) H):GK vs H Q cD
inductive JV (vs:List V) (H:Hp) (Q:VK) (cD:XK):Prop
 | mk (n:Int) (_:vs=[.int n]) (_:1<=n) (_:n<=9999) (_:Q .non H):JV vs H Q cD
abbrev jX (v:V):List 0x61:=[(.inr "",v)]
inductive zB (C:Addr) (vs:List V) (H:Hp) (Q:VK) (cD:XK):Prop
 | mk (x dx:Addr) (n:Int) (_:vs=[.ref x,.int n]) (_:H x=some (.ins C dx [])) (_:1<=n) (_:n<=9999) (_:∀ a1 a2 a3 a4 a5 t H',(∀ c o,c≠x->H c=some o->H' c=some o)->bZ C H' x dx a1 a2 a3 a4 a5 (jX .non) (jX (.str "")) (jX (.int n)) (jX (.ref t)) (jX (.int n))->Gp a1 a2 a3 a4 a5->H a1=none->H a2=none->H a3=none->H a4=none->H a5=none->H t=none->jy H' t 0 1->Q .non H'):zB C vs H Q cD
theorem iH {k v:Expr}{tk:TE} (hk:PE X k tk) (hv:PE X v tv):PE X (.Dict [some k] [v] pos) (oY [(tk,tv)]):=by
 refine JC ?h ?a ?b ?c ?d
 case a=>exact rfl
 case b=>exact rfl
 case c=>exact List.cons_ne_nil _ _
 case d=>exact A1j rfl
 case h=>exact iD hk hv Jz
theorem zE {f:Str}{rest:TS}{D:Ends} (h:tv σ H fun y H1=>ta σ H1 fun x H2=>yM K f { D with nx:=rest D } σ y x H2):LC (Zm K ta tv f) rest D σ H:=h
theorem a0k {f:Str}{D:Ends} (h:tv σ H fun y H1=>ta σ H1 fun x H2=>yM K f D σ y x H2):Zm K ta tv f D σ H:=h
theorem m9 {x:Addr}{o':HO} (h0:H x=some o) (h1:H' x=some o') (f:∀ c o,c≠x->H c=some o->H' c=some o):∀ c,H' c=none->H c=none:=fun c hc=>by
 cases q:H c with
 | none=>rfl
 | some u =>
  by_cases hcx:c=x
  ·rw [hcx,h1] at hc;cases hc
  ·rw [f c u hcx q] at hc;cases hc
theorem qy {k:Str}{Q:VK} (h:∀ p,H p=none->∀ Q':VK,(∀ y H2,H2 p=some (.dK [])->Q (.ref p) (upd H2 p (.dK [(.inr k,y)]))->Q' y H2)->tv σ (upd H p (.dK [])) Q'):oY [(tC (.str k),tv)] σ H Q:=by
 intro p hp
 show tv σ _ _
 refine h p hp _ fun y H2 e q=>?_;exact ⟨e,[(.inr k,y)],rfl,A1j rfl,q⟩
theorem rP:aQ ["sort", "piece", "least", "greatest"] ["sort", "piece"] (aJ JT):=0x0
theorem Wr (F:fK K "fits" "fits" JT f fd) (mo:Wq K w.params mg):aL P w K mg base bN 1 f fd ["sort", "piece"] GK:=by
 obtain ⟨aB,b1,b2,b3,b4,b5,b6,b7,mB,kB,t2⟩:=mo.bounds;refine F.ok rP 0x1 0x3;obtain ⟨n,rfl,h1,h2,k⟩:=h;refine ⟨_,au (bQ (aV JD 0x3A (cY rfl mB rfl (v:=.ref aB)) 0x16)
   (au (qZ (aO JF (cY rfl mB rfl (v:=.ref aB)) 0x3A 0x5) (lq rfl (bM (bD (i:=2) rP.nd rfl 0x8) (bM (bD (i:=3) rP.nd rfl 0x8) gj))))
   (aG (aZ (BZ BK BK (pv 2) 0x11 (pv 3))))) aX) cB,?_⟩
 refine ⟨_,rfl,_,aB,_,rfl,rfl,kB,_,rfl,dB ?_⟩;refine ⟨_,rfl,aB,_,_,_,rfl,rfl,kB,rfl,?_⟩;refine ⟨b2,_,rfl,t2.sq _,rfl,_,_,rfl,_,_,rfl,rfl,?_⟩;refine ⟨_,rfl,_,rfl,_,_,rfl,rfl,_,rfl,?_⟩;rw [A0j h1];refine dB ⟨_,rfl,_,_,rfl,rfl,?_⟩
 show Q (.bl (decide (n<=9999))) H
 rw [A0j h2];exact k
theorem a1O:aQ ["acres"] ["acres"] (aJ a0j):=0x0
theorem a0l (F:fK K "check_acres" "check_acres" a0j f fd)  (G1:aL P w K mg base bN 1 g1 d1 ["sort", "piece"] GK) (M1:Ms K mg "fits" g1 d1 ["sort", "piece"]):aL P w K mg base bN 2 f fd ["acres"] JV:=by
 refine F.ok a1O 0x1 0x3;obtain ⟨n,rfl,h1,h2,k⟩:=h;refine ⟨_,aG (bQ (gO (dU (bC G1 hr rfl M1.m M1.k M1.b .nil aY (aj aN (aj 0x3A aC))))) cB aX),?_⟩;exact ⟨_,rfl,n,rfl,h1,h2,_,rfl,cu k⟩
theorem a0m:aQ A5W A5W (aJ QH):=0x0
theorem Ws (T:cW K C) (F:fK K "__init__" "Land.__init__" QH f fd) (mo:Wq K w.params mg)  (G1:aL P w K mg base bN 2 g1 d1 ["acres"] JV) (M1:Ms K mg "check_acres" g1 d1 ["acres"]):aL P w K mg base bN 3 f fd A5W (zB C):=by
 obtain ⟨tc,mC⟩:=mo.crown;refine F.ok a0m 0x1 0x3;obtain ⟨x,dx,n,rfl,hx,h1,h2,k⟩:=h;refine ⟨_,au (bO (bC G1 hr rfl M1.m M1.k M1.b .nil aY 0x33))
  (au (dX 0x3A (iH 0x36 Fq) rfl)
  (au (dX 0x3A (iH 0x36 0x36) rfl)
  (au (dX 0x3A (iH 0x36 0x11) rfl)
  (au (dX 0x3A (iH 0x36 (cN (aj aA (aj aA aC)))) rfl)
  (aG (dX 0x3A (iH 0x36 0x11) rfl)))))),?_⟩
 refine ⟨_,rfl,n,rfl,h1,h2,?_⟩;refine zE (qy (k:="") (tv:=tC .non) fun a1 e1 Q1 k1=>k1 _ _ ao ?_);have n1:x≠a1:=aq hx e1;refine ⟨_,rfl,x,C,dx,_,rfl,by rw [ak n1,ak n1];exact hx,T.cl,T.n1,A0u rfl,?_⟩;generalize hH1:upd _ x _=H1;have x1:H1 x=some (.ins C dx [("lord_of",.ref a1)]):=by rw [<- hH1,ao];rfl
 have p1:H1 a1=some (.dK (jX .non)):=by rw [<- hH1,ak (A0k n1),ao]
 have f1:∀ c o,c≠x->H c=some o->H1 c=some o:=fun c o hc ho=>by rw [<- hH1,ak hc,ak (aq ho e1),ak (aq ho e1)];exact ho
 have z1:∀ c,H1 c=none->H c=none:=m9 hx x1 f1;clear hH1;refine zE (qy (k:="") (tv:=tC (.str "")) fun a2 e2 Q2 k2=>k2 _ _ ao ?_);have n2:x≠a2:=aq x1 e2;refine ⟨_,rfl,x,C,dx,_,rfl,by rw [ak n2,ak n2];exact x1,T.cl,T.n2,A0u rfl,?_⟩;generalize hH2:upd _ x _=H2;have x2:H2 x=some (.ins C dx [("lord_of",.ref a1),("holder_of",.ref a2)]):=by rw [<- hH2,ao];rfl
 have p2:H2 a2=some (.dK (jX (.str ""))):=by rw [<- hH2,ak (A0k n2),ao]
 have f2:∀ c o,c≠x->H1 c=some o->H2 c=some o:=fun c o hc ho=>by rw [<- hH2,ak hc,ak (aq ho e2),ak (aq ho e2)];exact ho
 have z2:∀ c,H2 c=none->H1 c=none:=m9 x1 x2 f2;clear hH2;refine zE (qy (k:="") (tv:=Bu 1) fun a3 e3 Q3 k3=>⟨_,rfl,k3 _ _ ao ?_⟩);have n3:x≠a3:=aq x2 e3;refine ⟨_,rfl,x,C,dx,_,rfl,by rw [ak n3,ak n3];exact x2,T.cl,T.n3,A0u rfl,?_⟩;generalize Ou:upd _ x _=H3;have x3:H3 x=some (.ins C dx [("lord_of",.ref a1),("holder_of",.ref a2),("own_of",.ref a3)]):=by rw [<- Ou,ao];rfl
 have p3:H3 a3=some (.dK (jX (.int n))):=by rw [<- Ou,ak (A0k n3),ao]
 have f3:∀ c o,c≠x->H2 c=some o->H3 c=some o:=fun c o hc ho=>by rw [<- Ou,ak hc,ak (aq ho e3),ak (aq ho e3)];exact ho
 have z3:∀ c,H3 c=none->H2 c=none:=m9 x2 x3 f3;clear Ou;refine zE (qy (k:="") (tv:=Vz (sW (tC (.int 0)) (sW (tC (.int 1)) oK))) fun a4 e4 Q4 k4=>⟨small 0xA,fun t ht=>k4 _ _ (by rw [ak (fun q=>by rw [<- q,ao] at ht;cases ht)];exact ao) ?_⟩);have n4:x≠a4:=aq x3 e4;have t4:t≠a4:=fun q=>by rw [q,ao] at ht;cases ht
 have ht0:H3 t=none:=by rw [ak t4] at ht;exact ht
 have nt:x≠t:=aq x3 ht0;refine ⟨_,rfl,x,C,dx,_,rfl,by rw [ak n4,ak nt,ak n4];exact x3,T.cl,T.n4,A0u rfl,?_⟩;generalize xW:upd _ x _=H4;have x4:H4 x=some (.ins C dx [("lord_of",.ref a1),("holder_of",.ref a2),("own_of",.ref a3),("service_of",.ref a4)]):=by rw [<- xW,ao];rfl
 have p4:H4 a4=some (.dK (jX (.ref t))):=by rw [<- xW,ak (A0k n4),ao]
 have f4:∀ c o,c≠x->H3 c=some o->H4 c=some o:=fun c o hc ho=>by rw [<- xW,ak hc,ak (aq ho e4),ak (aq ho ht0),ak (aq ho e4)];exact ho
 have pt:H4 t=some (.tup [.int 0,.int 1]):=by rw [<- xW,ak (A0k nt),ak t4,ao]
 have z4:∀ c,H4 c=none->H3 c=none:=m9 x3 x4 f4;clear xW;refine a0k (qy (k:="") (tv:=Bu 1) fun a5 e5 Q5 k5=>⟨_,rfl,k5 _ _ ao ?_⟩);have n5:x≠a5:=aq x4 e5;refine ⟨_,rfl,x,C,dx,_,rfl,by rw [ak n5,ak n5];exact x4,T.cl,T.n5,A0u rfl,?_⟩;generalize YF:upd _ x _=H5;have x5:H5 x=some (.ins C dx [("lord_of",.ref a1),("holder_of",.ref a2),("own_of",.ref a3),("service_of",.ref a4),("breadth_of",.ref a5)]):=by rw [<- YF,ao];rfl
 have p5:H5 a5=some (.dK (jX (.int n))):=by rw [<- YF,ak (A0k n5),ao]
 have f5:∀ c o,c≠x->H4 c=some o->H5 c=some o:=fun c o hc ho=>by rw [<- YF,ak hc,ak (aq ho e5),ak (aq ho e5)];exact ho
 have z5:∀ c,H5 c=none->H4 c=none:=m9 x4 x5 f5;clear YF;have q15:=f2 _ _ (A0k n1) p1;have q25:=f3 _ _ (A0k n1) q15;have q35:=f4 _ _ (A0k n1) q25;have q45:=f5 _ _ (A0k n1) q35;have r3:=f3 _ _ (A0k n2) p2;have r4:=f4 _ _ (A0k n2) r3;have r5:=f5 _ _ (A0k n2) r4;have s4:=f4 _ _ (A0k n3) p3;have s5:=f5 _ _ (A0k n3) s4;have u5:=f5 _ _ (A0k n4) p4;refine k a1 a2 a3 a4 a5 t _ (fun c o hc ho=>f5 _ _ hc (f4 _ _ hc (f3 _ _ hc (f2 _ _ hc (f1 _ _ hc ho))))) ⟨x5,q45,r5,s5,u5,p5⟩
  ⟨aq p1 e2,aq q15 e3,aq q25 e4,aq q35 e5,aq p2 e3,aq r3 e4,aq r4 e5,aq p3 e4,aq s4 e5,aq p4 e5⟩
  e1 (z1 _ e2) (z1 _ (z2 _ e3)) (z1 _ (z2 _ (z3 _ e4))) (z1 _ (z2 _ (z3 _ (z4 _ e5)))) (z1 _ (z2 _ (z3 _ ht0))) (f5 _ _ (A0k nt) pt)
abbrev Dd:Stmt:=top 52
theorem MP:∃ k1 x1 k2 x2 x3 k4 x4 k5 x5 x6 k7 x7 x8 x9 k10 x10 k11 x11 k12 x12 k13 x13 x14 x15 x16 x17 x18 j0 j1 j2 j3 j4 j5 j6 j7 p0 p1 p2 p3 p4 p5 p6 p7 q q',je Dd=[.Return (some (.Dict [some (.Constant (.str "lords") j0 p0),some (.Constant (.str "holders") j1 p1),some (.Constant (.str "own") j2 p2),some (.Constant (.str "due") j3 p3),some (.Constant (.str "known") j4 p4),some (.Constant (.str "heirs") j5 p5),some (.Constant (.str "dead") j6 p6),some (.Constant (.str "lieges") j7 p7)] [.Dict [some (.Constant (.str "") k1 x1)] [.Constant .none k2 x2] x3,.Dict [some (.Constant (.str "") k4 x4)] [.Constant (.str "") k5 x5] x6,.Dict [some (.Constant (.str "") k7 x7)] [.Name "_law_acres" x8] x9,.Dict [some (.Constant (.str "") k10 x10)] [.Tuple [.Constant (.int 0) k11 x11,.Constant (.int 1) k12 x12] k13 x13] x14,.List [] x15,.Dict [] [] x16,.List [] x17,.Dict [] [] x18] q)) q']:=⟨_,_,_,_,_,_,_,_,_,_,_,_,_,_,_,_,_,_,_,_,_,_,_,_,_,_,_,_,_,_,_,_,_,_,_,_,_,_,_,_,_,_,_,_,_,rfl⟩
theorem Rq (hv:∀ p,PE X (.Name "_law_acres" p) (Bu 0)):Fp X (je Dd) (Vv (oY [(tC (.str "lords"),oY [(tC (.str ""),tC .non)]),(tC (.str "holders"),oY [(tC (.str ""),tC (.str ""))]),(tC (.str "own"),oY [(tC (.str ""),Bu 0)]),(tC (.str "due"),oY [(tC (.str ""),Vz (sW (tC (.int 0)) (sW (tC (.int 1)) oK)))]),(tC (.str "known"),Zo oK),(tC (.str "heirs"),Gf),(tC (.str "dead"),Zo oK),(tC (.str "lieges"),Gf)])):=by
 obtain ⟨k1,x1,k2,x2,x3,k4,x4,k5,x5,x6,k7,x7,x8,x9,k10,x10,k11,x11,k12,x12,k13,x13,x14,x15,x16,x17,x18,j0,j1,j2,j3,j4,j5,j6,j7,p0,p1,p2,p3,p4,p5,p6,p7,q,q',h⟩:=MP;rw [h];refine aG ?_;refine aZ ?_;refine JC ?h ?a ?b ?c ?d
 case a=>exact rfl
 case b=>exact rfl
 case c=>exact List.cons_ne_nil _ _
 case d=>exact A1j rfl
 case h =>
  refine iD (X:=X) (aN (X:=X)) ?_ ?_
  ·exact iH (X:=X) (aN (X:=X)) (Fq (X:=X))
  refine iD (X:=X) (aN (X:=X)) ?_ ?_
  ·exact iH (X:=X) (aN (X:=X)) (aN (X:=X))
  refine iD (X:=X) (aN (X:=X)) ?_ ?_
  ·exact iH (X:=X) (aN (X:=X)) (hv _)
  refine iD (X:=X) (aN (X:=X)) ?_ ?_
  ·exact iH (X:=X) (aN (X:=X)) (cN (X:=X) (aj (X:=X) (aA (X:=X)) (aj (X:=X) (aA (X:=X)) (aC (X:=X)))))
  refine iD (X:=X) (aN (X:=X)) ?_ ?_
  ·exact eG (X:=X) (aC (X:=X))
  refine iD (X:=X) (aN (X:=X)) ?_ ?_
  ·exact jm (X:=X)
  refine iD (X:=X) (aN (X:=X)) ?_ ?_
  ·exact eG (X:=X) (aC (X:=X))
  refine iD (X:=X) (aN (X:=X)) ?_ ?_
  ·exact jm (X:=X)
  exact Jz
theorem jo {a:V}{r:List (TE×TE)}{Q:List (V×V)->Hp->Prop} (h:tv σ H fun y H2=>pF r σ H2 fun ps H3=>Q ((a,y)::ps) H3):pF ((tC a,tv)::r) σ H Q:=h
theorem Rt {Q:List (V×V)->Hp->Prop} (h:Q [] H):pF [] σ H Q:=h
theorem tRD {D:Ends} (h:∀ p,H p=none->pF Ot σ (upd H p (.dK [])) fun ps H2=>H2 p=some (.dK [])/\∃ kvs:List 0x61,ps=kvs.map (fun kv=>(kV kv.1,kv.2))/\kvs.length<=15/\D.rt (.ref p) (upd H2 p (.dK (fB [] kvs)))):Vv (oY Ot) D σ H:=h
def gC (p1 p2 p3 p4 p5 ph pd p8:Addr):List 0x61:=[(.inr "lords",.ref p1),(.inr "holders",.ref p2),(.inr "own",.ref p3),(.inr "due",.ref p4),(.inr "known",.ref p5),(.inr "heirs",.ref ph),(.inr "dead",.ref pd),(.inr "lieges",.ref p8)]
section
variable {p1 p2 p3 p4 p5 ph pd p8:Addr}
theorem GP:[(V.str "lords",V.ref p1),(V.str "holders",V.ref p2),(V.str "own",V.ref p3),(V.str "due",V.ref p4),(V.str "known",V.ref p5),(V.str "heirs",V.ref ph),(V.str "dead",V.ref pd),(V.str "lieges",V.ref p8)]=(0x39).map fun kv=>(kV kv.1,kv.2):=rfl
theorem GQ:bJ (fB [] 0x39) (.inr "lords")=some (.ref p1):=by
 unfold fB gC;simp only [A1t,A3p];rw [bK,A0e 0x6,bK,A0e 0x6,bK,A0e 0x6,bK,A0e 0x6,bK,A0e 0x6,bK,A0e 0x6,bK,A0e 0x6,bK,A0i rfl]
theorem zF:bJ (fB [] 0x39) (.inr "holders")=some (.ref p2):=by
 unfold fB gC;simp only [A1t,A3p];rw [bK,A0e 0x6,bK,A0e 0x6,bK,A0e 0x6,bK,A0e 0x6,bK,A0e 0x6,bK,A0e 0x6,bK,A0i rfl]
theorem Ru:bJ (fB [] 0x39) (.inr "own")=some (.ref p3):=by
 unfold fB gC;simp only [A1t,A3p];rw [bK,A0e 0x6,bK,A0e 0x6,bK,A0e 0x6,bK,A0e 0x6,bK,A0e 0x6,bK,A0i rfl]
theorem Rv:bJ (fB [] 0x39) (.inr "due")=some (.ref p4):=by
 unfold fB gC;simp only [A1t,A3p];rw [bK,A0e 0x6,bK,A0e 0x6,bK,A0e 0x6,bK,A0e 0x6,bK,A0i rfl]
theorem GR:bJ (fB [] 0x39) (.inr "known")=some (.ref p5):=by
 unfold fB gC;simp only [A1t,A3p];rw [bK,A0e 0x6,bK,A0e 0x6,bK,A0e 0x6,bK,A0i rfl]
theorem N5:bJ (fB [] 0x39) (.inr "dead")=some (.ref pd):=by
 unfold fB gC;simp only [A1t,A3p];rw [bK,A0e 0x6,bK,A0i rfl]
theorem Rx:(fB [] 0x39).length<=20:=A0M (lC 0x39 []) (show 0+8<=20 by decide)
end
structure cZ (H:Hp) (B l h o d kn dd:Addr) (kvs lo ho ow du:List 0x61) (ks:List Str):Prop where
 b:H B=some 0x24
 vl:bJ kvs (.inr "lords")=some (.ref l)
 vh:bJ kvs (.inr "holders")=some (.ref h)
 vo:bJ kvs (.inr "own")=some (.ref o)
 vd:bJ kvs (.inr "due")=some (.ref d)
 vk:bJ kvs (.inr "known")=some (.ref kn)
 vx:bJ kvs (.inr "dead")=some (.ref dd)
 l:H l=some (.dK lo)
 h:H h=some (.dK ho)
 o:H o=some (.dK ow)
 d:H d=some (.dK du)
 k:H kn=some (.lst (ks.map V.str))
 x:H dd=some (.lst [])
 len:kvs.length<=20
theorem cZ.same {B h o kn dd:Addr} (k:cZ H B l h o d kn dd kvs lo ho ow du ks) (s:Same H H'):cZ H' B l h o d kn dd kvs lo ho ow du ks :=
 ⟨s _ _ k.b,k.vl,k.vh,k.vo,k.vd,k.vk,k.vx,s _ _ k.l,s _ _ k.h,s _ _ k.o,s _ _ k.d,s _ _ k.k,s _ _ k.x,k.len⟩
inductive zG (vs:List V) (H:Hp) (Q:VK) (cD:XK):Prop
 | mk (n:Int) (_:vs=[.int n]) (_:∀ B l h o d kn dd t kvs H',Same H H'->H B=none->H l=none->H h=none->H o=none->H d=none->H kn=none->H dd=none->H t=none->Gp B l h o d->kn≠dd->cZ H' B l h o d kn dd kvs (jX .non) (jX (.str "")) (jX (.int n)) (jX (.ref t)) []->jy H' t 0 1->Q (.ref B) H'):zG vs H Q cD
theorem a0n:aQ ["_law_acres"] ["_law_acres"] (aJ Dd):=0x0
theorem Wt (F:fK K "_law_book" "_law_book" Dd f fd):aL P w K mg base bN 1 f fd ["_law_acres"] zG:=by
 refine F.ok a0n 0x1 0x3;obtain ⟨n,rfl,k⟩:=h;refine ⟨Vv (oY _),@Rq _ ?hv,?y⟩
 case hv=>exact fun p=>pv 0
 refine tRD fun B hB=>?_;have sB:Same H (upd H B (.dK [])):=aP hB _;have kB:(upd H B (.dK [])) B=some (.dK []):=ao;generalize upd H B (.dK [])=H0 at sB kB ⊢;refine jo (qy (k:="") (tv:=tC .non) fun p1 e1 Q1 k1=>k1 _ _ ao ?_);generalize hH1:upd _ p1 (.dK [(.inr "",_)])=H1;have s1:Same H0 H1:=fun c u q=>by rw [<- hH1,ak (aq q e1),ak (aq q e1)];exact q
 have c1:H1 p1=some (.dK (jX .non)):=by rw [<- hH1,ao]
 clear hH1;refine jo (qy (k:="") (tv:=tC (.str "")) fun p2 e2 Q2 k2=>k2 _ _ ao ?_);generalize hH2:upd _ p2 (.dK [(.inr "",_)])=H2;have s2:Same H1 H2:=fun c u q=>by rw [<- hH2,ak (aq q e2),ak (aq q e2)];exact q
 have c2:H2 p2=some (.dK (jX (.str ""))):=by rw [<- hH2,ao]
 clear hH2;refine jo (qy (k:="") (tv:=Bu 0) fun p3 e3 Q3 k3=>⟨_,rfl,k3 _ _ ao ?_⟩);generalize Ou:upd _ p3 (.dK [(.inr "",_)])=H3;have s3:Same H2 H3:=fun c u q=>by rw [<- Ou,ak (aq q e3),ak (aq q e3)];exact q
 have c3:H3 p3=some (.dK (jX (.int n))):=by rw [<- Ou,ao]
 clear Ou;refine jo (qy (k:="") (tv:=Vz (sW (tC (.int 0)) (sW (tC (.int 1)) oK))) fun p4 e4 Q4 k4=>⟨small 0xA,fun t ht=>k4 _ _ (by rw [ak (fun q=>by rw [<- q,ao] at ht;cases ht)];exact ao) ?_⟩);have t4:t≠p4:=fun q=>by rw [q,ao] at ht;cases ht
 have ht0:H3 t=none:=by rw [ak t4] at ht;exact ht
 generalize xW:upd _ p4 (.dK [(.inr "",_)])=H4;have s4:Same H3 H4:=fun c u q=>by rw [<- xW,ak (aq q e4),ak (aq q ht0),ak (aq q e4)];exact q
 have pt:H4 t=some (.tup [.int 0,.int 1]):=by rw [<- xW,ak t4,ao]
 have c4:H4 p4=some (.dK (jX (.ref t))):=by rw [<- xW,ao]
 clear xW;refine jo ⟨small 0xA,fun p5 e5=>?_⟩
 apply 0o1 H4 p5 e5 s5 c5 H5
 refine jo fun ph eh=>?_
 apply 0o1 H5 ph eh s6 hk0 H6
 refine jo ⟨small 0xA,fun pd ed=>?_⟩
 apply 0o1 H6 pd ed s7 c7 H7
 refine jo fun p8 e8=>Rt ?_
 apply 0o1 H7 p8 e8 s8 hk0 H8
 have w01:=sB.trans s1;have w02:=w01.trans s2;have w03:=w02.trans s3;have w04:=w03.trans s4;have w06:=(w04.trans s5).trans s6;have w78:=s7.trans s8;have w58:=(s5.trans s6).trans w78;have w48:=s4.trans w58;have w38:=s3.trans w48;have w28:=s2.trans w38;have w08:=sB.trans (s1.trans w28);have kB1:=s1 _ _ kB;have kB2:=s2 _ _ kB1;have kB3:=s3 _ _ kB2;have kB8:=w48 _ _ kB3;have n1:=aq kB e1;have n2:=aq kB1 e2;have n3:=aq kB2 e3;have n4:=aq kB3 e4;have out:∀ c u,c≠B->H8 c=some u->(upd H8 B (.dK (fB [] 0x39))) c=some u:=fun c u hc q=>by rw [ak hc];exact q
 refine ⟨kB8,gC p1 p2 p3 p4 p5 ph pd p8,GP,A1j rfl,?_⟩;have d5:=((s6.trans w78)) _ _ c5;have d7:=s8 _ _ c7;have d1:=w28 _ _ c1;have d2:=w38 _ _ c2;have d3:=w48 _ _ c3;have d4:=w58 _ _ c4;have dt:=w58 _ _ pt;refine k B p1 p2 p3 p4 p5 pd t _ _ (bL w08 hB) hB (sB.free e1) (w01.free e2) (w02.free e3) (w03.free e4) (w04.free e5) (w06.free ed) (w03.free ht0)
  ⟨n1,n2,n3,n4,aq c1 e2,aq (s2 _ _ c1) e3,aq (s3 _ _ (s2 _ _ c1)) e4,aq c2 e3,aq (s3 _ _ c2) e4,aq c3 e4⟩
  (aq (s6 _ _ c5) ed)
  ⟨ao,GQ,zF,Ru,Rv,GR,N5,out _ _ (A0k n1) d1,out _ _ (A0k n2) d2,out _ _ (A0k n3) d3,out _ _ (A0k n4) d4,out _ _ (aK d5 kB8 0xE) d5,out _ _ (aK d7 kB8 0xE) d7,Rx⟩
  (out _ _ (aK dt kB8 0xE) dt)
end M
namespace L2
open PySem PySem.W PyProof.Rows
def pat (p:Array Nat) (k:Nat):Nat:=p.getD k 0
structure Ord (n:Nat) (lt:Nat->Nat->Bool):Prop where
 tr:∀ i j k,i<n->j<n->k<n->lt i j=true->lt j k=true->lt i k=true
 tot:∀ i j,i<n->j<n->i≠j->lt i j=false->lt j i=true
def Cmp (n:Nat) (lt:Nat->Nat->Bool) (cmp:Nat->Nat->(Bool->Shared->Prop)->Shared->Prop) (J:Shared->Prop):Prop :=
 ∀ i j C s,i<n->j<n->i≠j->J s->(∀ s',J s'->C (lt i j) s')->cmp i j C s
def Pm (n:Nat) (p:Array Nat):Prop:=p.Perm (List.range n).toArray
theorem Pm.size {p:Array Nat} (h:Pm n p):p.size=n:=by
 have:=h.size_eq
 simpa using this
theorem Pm.lt {p:Array Nat} (h:Pm n p) {k:Nat} (hk:k<n):pat p k<n:=by
 have hs:=h.size;have hk':k<p.size:=by lia
 have hm:p[k]∈p.toList:=by simp
 have:=(A2z.mp h).mem_iff.mp hm;simp at this;unfold pat;rw [Array.getD,A5l hk'];exact this
theorem Pm.ne {p:Array Nat} (h:Pm n p)  (hi:i<n) (hj:j<n) (hij:i≠j):pat p i≠pat p j:=by
 have hs:=h.size;have hi':i<p.size:=by lia
 have hj':j<p.size:=by lia
 have nd:p.toList.Nodup:=(A2z.mp h).nodup_iff.mpr (by simpa using List.nodup_range);unfold pat;rw [Array.getD,A5l hi',Array.getD,A5l hj'];intro e;have pw:=A1f.mp nd;rcases A4R hij with h1 | h1
 ·exact pw i j (by simpa using hi') (by simpa using hj') h1 (by simpa using e)
 ·exact pw j i (by simpa using hj') (by simpa using hi') h1 (by simpa using e.symm)
theorem vf {p q:Array Nat} (h:p[i]?=q[j]?):pat p i=pat q j:=by
 unfold pat;rw [A4y,A4y,h]
def Up (lt:Nat->Nat->Bool) (p:Array Nat) (m:Nat):Prop:=∀ i j,i<j->j<m->lt (pat p i) (pat p j)=true
def Down (lt:Nat->Nat->Bool) (p:Array Nat) (m:Nat):Prop:=∀ i j,i<j->j<m->lt (pat p j) (pat p i)=true
section
variable {lt:Nat->Nat->Bool}{cmp:Nat->Nat->(Bool->Shared->Prop)->Shared->Prop}{J:Shared->Prop}{p:Array Nat}
theorem Up.snoc (O:Ord n lt) (P:Pm n p) {m:Nat} (h1:1<=m) (hm:m<n) (h:Up lt p m) (hl:lt (pat p (m - 1)) (pat p m)=true):Up lt p (m+1):=by
 intro i j hij hj
 by_cases e:j=m
 ·subst e
  by_cases e2:i=j - 1
  ·subst e2;exact hl
  ·exact O.tr _ _ _ (P.lt 0x2) (P.lt 0x2) (P.lt 0x2) (h i (j - 1) 0x2 0x2) hl
 ·exact h i j hij 0x2
theorem Down.snoc (O:Ord n lt) (P:Pm n p) {m:Nat} (h1:1<=m) (hm:m<n) (h:Down lt p m) (hl:lt (pat p m) (pat p (m - 1))=true):Down lt p (m+1):=by
 intro i j hij hj
 by_cases e:j=m
 ·subst e
  by_cases e2:i=j - 1
  ·subst e2;exact hl
  ·exact O.tr _ _ _ (P.lt 0x2) (P.lt 0x2) (P.lt 0x2) hl (h i (j - 1) 0x2 0x2)
 ·exact h i j hij 0x2
theorem GX (O:Ord n lt) (hc:Cmp n lt cmp J) (P:Pm n p) {G:Nat->Shared->Prop}:∀ (f m:Nat) (s:Shared),1<=m->m+f<=n->Up lt p m->J s ->
  (∀ r s',m<=r->r<=m+f->Up lt p r->(r<m+f->lt (pat p r) (pat p (r - 1))=true)->J s'->G r s')->(kas_asc p f m).kasWp cmp G s
 | 0,m,s,h1,hf,hU,hJ,k=>k m s (A0f _) (A0f _) hU (fun h=>absurd h (A1p _)) hJ
 | f+1,m,s,h1,hf,hU,hJ,k=>by
  show cmp (p.getD m 0) (p.getD (m - 1) 0) _ s
  refine hc _ _ _ s (P.lt (k:=m) 0x2) (P.lt (k:=m - 1) 0x2) (P.ne 0x2 0x2 0x2) hJ fun s' hJ'=>?_
  show KasT.kasWp cmp (if lt (pat p m) (pat p (m - 1))=true then .ret m else kas_asc p f (m+1)) G s'
  cases e:lt (pat p m) (pat p (m - 1)) with
  | true =>
   rw [A0i rfl];exact k m s' (A0f _) 0x2 hU (fun _=>e) hJ'
  | false =>
   rw [A0e A0o];have hl:=O.tot _ _ (P.lt (k:=m) 0x2) (P.lt (k:=m - 1) 0x2) (P.ne 0x2 0x2 0x2) e;exact GX O hc P f (m+1) s' 0x2 0x2 (hU.snoc O P h1 0x2 hl) hJ' fun r s'' a b c d e'=>k r s'' 0x2 0x2 c (fun h=>d 0x2) e'
theorem JW (O:Ord n lt) (hc:Cmp n lt cmp J) (P:Pm n p) {G:Array Nat×Nat×Nat->Shared->Prop}:∀ (f m:Nat) (s:Shared),1<=m->m+f<=n->Down lt p m->J s ->
  (∀ r s',m<=r->r<=m+f->Down lt p r->J s'->G (p,r,0) s')->(kas_desc f p m 0).kasWp cmp G s
 | 0,m,s,h1,hf,hU,hJ,k=>k m s (A0f _) (A0f _) hU hJ
 | f+1,m,s,h1,hf,hU,hJ,k=>by
  show cmp (p.getD m 0) (p.getD (m - 1) 0) _ s
  refine hc _ _ _ s (P.lt (k:=m) 0x2) (P.lt (k:=m - 1) 0x2) (P.ne 0x2 0x2 0x2) hJ fun s' hJ'=>?_;cases e:lt (pat p m) (pat p (m - 1)) with
  | true =>
   have e':lt (p.getD m 0) (p.getD (m - 1) 0)=true:=e;rw [e'];dsimp only;rw [A0i rfl,A0e (A1p 0)];exact JW O hc P f (m+1) s' 0x2 0x2 (hU.snoc O P h1 0x2 e) hJ' fun r s'' a b c d=>k r s'' 0x2 0x2 c d
  | false =>
   have e':lt (p.getD m 0) (p.getD (m - 1) 0)=false:=e;rw [e'];dsimp only;rw [A0e A0o];have hl:=O.tot _ _ (P.lt (k:=m) 0x2) (P.lt (k:=m - 1) 0x2) (P.ne 0x2 0x2 0x2) e;refine hc _ _ _ s' (P.lt (k:=m - 1) 0x2) (P.lt (k:=m) 0x2) (P.ne 0x2 0x2 0x2) hJ' fun s'' a0o=>?_;have hl':lt (p.getD (m - 1) 0) (p.getD m 0)=true:=hl;rw [hl'];dsimp only;rw [A0i rfl];exact k m s'' (A0f _) 0x2 hU a0o
theorem Rz (P:Pm n p) (i j:Nat):Pm n (kas_rev p i j):=(mirror_perm p i j _).trans P
theorem RB (P:Pm n p) {r:Nat} (hr:r<=n) (k:Nat):pat (kas_rev p 0 r) k=if k<r then pat p (r - 1 - k) else pat p k:=by
 have h:=getElem?_mirror_all (xs:=p) (i:=0) (j:=r) (by rw [P.size];exact hr) k
 by_cases hk:k<r
 ·rw [A0i hk];rw [A0i ⟨A0Z _,hk⟩,Nat.zero_add] at h;exact vf h
 ·rw [A0e hk];rw [A0e (fun z=>hk z.2)] at h;exact vf h
theorem a0p (P:Pm n p) {r:Nat} (hr:r<=n) (h:Down lt p r):Up lt (kas_rev p 0 r) r:=by
 intro i j hij hj;rw [RB P hr,RB P hr,A0i 0x2,A0i hj];exact h _ _ 0x2 0x2
def Wu (n:Nat) (lt:Nat->Nat->Bool) (J:Shared->Prop) (G:Nat×Array Nat->Shared->Prop):Prop:=∀ q p' s',Pm n p'->1<=q->q<=n->Up lt p' q->J s'->G (q,p') s'
theorem RG (O:Ord n lt) (hc:Cmp n lt cmp J) (P:Pm n p) (h2:2<=n) {G:Nat×Array Nat->Shared->Prop} (hJ:J s) (k:Wu n lt J G):(kas_count n p).kasWp cmp G s:=by
 unfold kas_count;rw [KasT.kasWp_bind];refine GX O hc P (n - 1) 1 s (A0f _) 0x2 (fun i j hij hj=>by lia) hJ fun r s' h1 hr hU hstop hJ'=>?_
 by_cases e:r=n
 ·subst e;rw [A0i 0xA];exact k r p s' P h1 (A0f _) hU hJ'
 ·rw [A0e (by simpa using e)]
  by_cases e1:r > 1
  ·rw [A0i e1];refine hc _ _ _ s' (P.lt (k:=0) 0x2) (P.lt (k:=r - 1) 0x2) (P.ne 0x2 0x2 0x2) hJ' fun s'' a0o=>?_;have hl:lt (p.getD 0 0) (p.getD (r - 1) 0)=true:=hU 0 (r - 1) 0x2 0x2;rw [hl];dsimp only;rw [A0i rfl];exact k r p s'' P h1 0x2 hU a0o
  ·rw [A0e e1];have er:r=1:=by lia
   subst er;have h0:=hstop 0x2;unfold kas_descPart;rw [KasT.kasWp_bind];refine JW O hc P (n - (1+1)) (1+1) s' 0x2 0x2 (fun i j hij hj=>?_) hJ' fun r s'' a b c d=>?_
   ·have ei:i=0:=by lia
    have ej:j=1:=by lia
    subst ei ej;exact h0
   ·rw [A0e (A1p 0)];unfold kas_tail3;rw [KasT.kasWp_bind];refine GX O hc (Rz P 0 r) (n - r) r s'' 0x2 0x2 (a0p P 0x2 c) d fun q s3 h3 h4 h5 _ h6=>?_;exact k q _ s3 (Rz P 0 r) 0x2 0x2 h5 h6
theorem vg (O:Ord n lt) (hc:Cmp n lt cmp J) (P:Pm n p) {k:Nat} (hk:k<n) (hU:Up lt p k) {G:Nat->Shared->Prop}:∀ (f l r:Nat) (s:Shared),r - l<=f->l<=r->r<=k->(∀ i,i<l->lt (pat p i) (pat p k)=true)->(∀ i,r<=i->i<k->lt (pat p k) (pat p i)=true)->J s ->
  (∀ l' s',l'<=k->(∀ i,i<l'->lt (pat p i) (pat p k)=true)->(∀ i,l'<=i->i<k->lt (pat p k) (pat p i)=true)->J s'->G l' s')->(kas_place p k f l r).kasWp cmp G s
 | 0,l,r,s,h0,h1,h2,hlo,hhi,hJ,w=>w l s 0x2 hlo (fun i hi=>hhi i 0x2) hJ
 | f+1,l,r,s,h0,h1,h2,hlo,hhi,hJ,w=>by
  unfold kas_place
  by_cases e:l>=r
  ·rw [A0i e];exact w l s 0x2 hlo (fun i hi=>hhi i 0x2) hJ
  ·rw [A0e e];have hm1:l<=(l+r) / 2:=by lia
   have hm2:(l+r) / 2<r:=by lia
   generalize hmd:(l+r) / 2=md at hm1 hm2;refine hc _ _ _ s (P.lt (k:=k) hk) (P.lt (k:=md) 0x2) (P.ne hk 0x2 0x2) hJ fun s' hJ'=>?_;cases c:lt (pat p k) (pat p md) with
   | true =>
    have c':lt (p.getD k 0) (p.getD md 0)=true:=c;rw [c'];dsimp only;rw [A0i rfl];refine vg O hc P hk hU f l md s' 0x2 hm1 0x2 hlo (fun i hi hik=>?_) hJ' w
    by_cases ei:i=md
    ·subst ei;exact c
    ·exact O.tr _ _ _ (P.lt hk) (P.lt 0x2) (P.lt 0x2) c (hU md i 0x2 hik)
   | false =>
    have c':lt (p.getD k 0) (p.getD md 0)=false:=c;rw [c'];dsimp only;rw [A0e A0o];have hl:=O.tot _ _ (P.lt hk) (P.lt (k:=md) 0x2) (P.ne hk 0x2 0x2) c;refine vg O hc P hk hU f (md+1) r s' 0x2 0x2 h2 (fun i hi=>?_) hhi hJ' w
    by_cases ei:i=md
    ·subst ei;exact hl
    ·exact O.tr _ _ _ (P.lt 0x2) (P.lt 0x2) (P.lt hk) (hU i md 0x2 0x2) hl
theorem RJ (P:Pm n p) {k l:Nat} (hk:k<n) (hl:l<=k) (i:Nat):pat (bubble p k (k - l)) i=if i=l then pat p k else if l<i/\i<=k then pat p (i - 1) else pat p i:=by
 have h:=getElem?_bubble (xs:=p) (src:=k) (by rw [P.size];exact hk) (k - l) 0x2 i;rw [show k - (k - l)=l by lia] at h
 by_cases e:i=l
 ·rw [A0i e] at h ⊢;exact vf h
 ·rw [A0e e] at h ⊢
  by_cases e2:l<i/\i<=k
  ·rw [A0i e2] at h ⊢;exact vf h
  ·rw [A0e e2] at h ⊢;exact vf h
theorem RK (O:Ord n lt) (hc:Cmp n lt cmp J) {G:Array Nat->Shared->Prop}:∀ (f k:Nat) (p:Array Nat) (s:Shared),k+f=n->Pm n p->Up lt p k->J s->(∀ p' s',Pm n p'->Up lt p' n->J s'->G p' s')->(kas_bin f p k).kasWp cmp G s
 | 0,k,p,s,hk,P,hU,hJ,w=>by
  have:k=n:=by lia
  subst this;exact w p s P hU hJ
 | f+1,k,p,s,hk,P,hU,hJ,w=>by
  unfold kas_bin;rw [KasT.kasWp_bind];refine vg O hc P 0x2 hU k 0 k s 0x2 (A0Z _) (A0f _) (fun i hi=>absurd hi (A5m _)) (fun i h1 h2=>by lia) hJ fun l s' hl hlo hhi hJ'=>?_;refine RK O hc f (k+1) _ s' 0x2 ((bubble_perm p k _).trans P) (fun i j hij hj=>?_) hJ' w;rw [RJ P 0x2 hl,RJ P 0x2 hl]
  by_cases a1:i=l
  ·rw [A0i a1,A0e 0x2,A0i 0x2];exact hhi _ 0x2 0x2
  ·rw [A0e a1]
   by_cases a2:l<i
   ·rw [A0i 0x2,A0e 0x2,A0i 0x2];exact hU _ _ 0x2 0x2
   ·rw [A0e 0x2]
    by_cases a3:j=l
    ·rw [A0i a3];exact hlo i 0x2
    ·rw [A0e a3]
     by_cases a4:l<j
     ·rw [A0i 0x2]
      by_cases a5:i=j - 1
      ·lia
      ·exact hU _ _ 0x2 0x2
     ·rw [A0e 0x2];exact hU _ _ hij 0x2
theorem K4 (O:Ord n lt) (hc:Cmp n lt cmp J) (h2:2<=n) {G:Array Nat->Shared->Prop} (hJ:J s) (w:∀ p' s',Pm n p'->Up lt p' n->J s'->G p' s'):(kas_sort n).kasWp cmp G s:=by
 unfold kas_sort;rw [KasT.kasWp_bind];refine RG O hc (A5n _) h2 hJ fun q p' s' P h1 hq hU hJ'=>?_
 by_cases e:q<n
 ·rw [A0i e,show max q 1=q by lia]
  exact RK O hc (n - q) q p' s' 0x2 P hU hJ' w
 ·rw [A0e e];have:q=n:=by lia
  subst this;exact w p' s' P hU hJ'
end
section
variable {lt:Nat->Nat->Bool}{κ:SortKind}
def Keep (a:Addr) (s s':Shared):Prop:=∀ b o,b≠a->s.heap.get? b=some o->s'.heap.get? b=some o
theorem rQ (vs:List Value):((List.range vs.length).toArray.toList.map fun i=>vs.getD i Value.none)=vs:=by
 apply A5h
 ·simp
 ·intro i h1 h2;simp only [A3t,A4S];rw [qT,ju h2];rfl
theorem RN {vs:List Value}{n0:Nat}{P:PySem.Fin->Shared->Prop} (ho:s.heap.get? a=some (seqObj "list" vs.toArray n0)) (h64:vs.length<64) (O:Ord vs.length lt)
  (hk:2<=vs.length->∀ (s':Shared) (Q:SortKind->Shared->Prop),Keep a s s'->Q κ s'->wpAny 0xC A (keyKind' vs.toArray) Q (fun _ _=>False) s')
  (hl:∀ (i j:Nat) (s':Shared) (C:Bool->Shared->Prop),i<vs.length->j<vs.length->i≠j->Keep a s s'->(∀ tk,C (lt i j) { s' with toks:=tk })->wpAny 0xC A (keyLt' κ (vs.getD i Value.none) (vs.getD j Value.none)) C (fun _ _=>False) s')
  (h:∀ (p:Array Nat) (tk:Nat),Pm vs.length p->Up lt p vs.length->P (.done (.ret .none)) { s with toks:=tk,heap:=sortedHeap s.heap a vs (0x26).toArray }) :
  wpAny 0xC A (Builtin.«list.sort» ⟨[.ref a],[]⟩) P E s:=by
 have ha:a<s.heap.objs.size:=A0q ho;rw [list_sort_plain];refine A0a (listItems_at ho rfl ?_);refine A0a (A3j ho rfl ?_ (by rw [A0r,A1e];lia) (A0Z _));obtain ⟨ep,hz⟩:∃ ep,(s.heap.update a (Obj.mapSeq fun _=>#[])).get? a=some (seqObj "list" #[] ep):=⟨_,A4s ho (fun _=>#[])⟩;refine A0a (A5b hz rfl ?_);refine A0a (A4O ?_ (by show vs.length<=sizeLine;rw [A1e];lia))
 refine A0a (A5e ?_ (A0Z _));refine A1S ?_;have hz2:(((s.heap.update a (Obj.mapSeq fun _=>#[])).push (seqObj "tuple" vs.toArray 0)).push (seqObj "list" #[] 0)).get? a=some (seqObj "list" #[] ep):=A0b _ (A0b _ hz);have kp:Keep a s { s with heap:=((s.heap.update a (Obj.mapSeq fun _=>#[])).push (seqObj "tuple" vs.toArray 0)).push (seqObj "list" #[] 0) }:=fun b o hb q =>
  A0b _ (A0b _ ((A1k _ _ _ _ hb).trans q))
 show wpAny 0xC A _ P E { s with heap:=((s.heap.update a (Obj.mapSeq fun _=>#[])).push (seqObj "tuple" vs.toArray 0)).push (seqObj "list" #[] 0) }
 dsimp only;have hsz:vs.toArray.size=vs.length:=by simp
 by_cases h2:vs.toArray.size<2
 ·rw [A0i h2,A0i h2];refine A0a (A0d ?_);rw [StateT.run_pure];refine A0a (A0d ?_);dsimp only;refine A0a (A5b hz2 rfl ?_);have eo:(arrOf (SortSt.mk' general' (vs.toArray.zip vs.toArray) #[] 7 none)).map (·.2)=vs.toArray:=by
   exact Array.map_snd_zip (as:=vs.toArray) (bs:=vs.toArray) (A0f _)
  rw [eo];refine A0a (A3j hz2 rfl ?_ (hsz2:=by rw [A0r,A1e];lia));simp only [A3Y,A1q,A2H];have g:=h (List.range vs.length).toArray s.toks (A5n _) (fun i j hij hj=>by lia);rw [rQ] at g;exact A0d g
 ·rw [A0e h2,A0e h2];have h2':2<=vs.length:=by lia
  refine A0a (A1d (hk h2' _ (fun κ' s'=>κ'=κ/\s'={ s with heap:=((s.heap.update a (Obj.mapSeq fun _=>#[])).push (seqObj "tuple" vs.toArray 0)).push (seqObj "list" #[] 0) }) kp ⟨rfl,rfl⟩) (fun κ' s' hκ=>?_) fun _ _ x=>x.elim);obtain ⟨rfl,rfl⟩:=hκ;refine A0a (A1d (kat_run (κ:=κ') (ks:=vs) (vs:=vs) (Q:=fun st' s'=>∃ (p:Array Nat) (tk:Nat),Pm vs.length p/\Up lt p vs.length/\arrOf st'=p.map (kas_item (vs.toArray.zip vs.toArray))/\failedOf st'=none/\s'={ s with toks:=tk,heap:=((s.heap.update a (Obj.mapSeq fun _=>#[])).push (seqObj "tuple" vs.toArray 0)).push (seqObj "list" #[] 0) })
   (G:=fun p s'=>∃ tk:Nat,Pm vs.length p/\Up lt p vs.length/\s'={ s with toks:=tk,heap:=((s.heap.update a (Obj.mapSeq fun _=>#[])).push (seqObj "tuple" vs.toArray 0)).push (seqObj "list" #[] 0) })
   rfl h2' h64 (fun p st' s' _ a2 a3 ⟨tk,b1,b2,b3⟩=>⟨p,tk,b1,b2,a2,a3,b3⟩)
   (K4 (J:=fun s'=>∃ tk:Nat,s'={ s with toks:=tk,heap:=((s.heap.update a (Obj.mapSeq fun _=>#[])).push (seqObj "tuple" vs.toArray 0)).push (seqObj "list" #[] 0) }) O (fun i j C s' hi hj hij hJ hC=>?_) h2' ⟨s.toks,rfl⟩ fun p' s' hP hU ⟨tk,e⟩=>⟨tk,hP,hU,e⟩)) ?_ fun _ _ e=>e)
  ·obtain ⟨tk,rfl⟩:=hJ;exact hl i j _ C hi hj hij kp fun tk'=>hC _ ⟨tk',rfl⟩
  rintro ⟨⟨⟩,st'⟩ s' ⟨p,tk,hP,hU,har,hf,rfl⟩;dsimp only;refine A0a (A5b hz2 rfl ?_);rw [kat_snds rfl har];have lp:p.toList.length=vs.length:=by rw [A0I];exact hP.size
  refine A0a (A3j hz2 rfl ?_ (hsz2:=by rw [A0r,cg,lp,A1e];lia));rw [hf];simp only [A3Y,A1q,A2H];exact A0d (h p tk hP hU)
theorem N6 {x:Value}
  (hc:wpAny 0xC A.in1 (collect x) (fun vs s1=>vs.length<64/\∃ (lt:Nat->Nat->Bool) (κ:SortKind),Ord vs.length lt /\
   (2<=vs.length->∀ (s':Shared) (R:SortKind->Shared->Prop),(∀ b o,s1.heap.get? b=some o->s'.heap.get? b=some o)->R κ s'->wpAny 0xC A.in1.in1 (keyKind' vs.toArray) R (fun _ _=>False) s') /\
   (∀ (i j:Nat) (s':Shared) (C:Bool->Shared->Prop),i<vs.length->j<vs.length->i≠j->(∀ b o,s1.heap.get? b=some o->s'.heap.get? b=some o)->(∀ tk,C (lt i j) { s' with toks:=tk })->wpAny 0xC A.in1.in1 (keyLt' κ (vs.getD i Value.none) (vs.getD j Value.none)) C (fun _ _=>False) s') /\
   ∀ (p:Array Nat) (tk:Nat) (h':Heap) (e:Nat),Pm vs.length p->Up lt p vs.length->(∀ b o,s1.heap.get? b=some o->h'.get? b=some o)->h'.get? s1.heap.objs.size=some (seqObj "list" (0x26).toArray e)->Q (.ref s1.heap.objs.size) { s1 with toks:=tk,heap:=h' }) (fun _ _=>False) s) :
  wpAny 0xC A (call (.builtin "sorted") [x]) Q E s:=by
 refine Calls.call_function_entry kind_sorted plain_sorted entry_sorted (args_sorted1 _) ?_;unfold Builtin.«sorted»;refine A0a (m:=checkCount "sorted" 1 1 _) (A0d ?_);refine A0a (A1d hc (fun vs s1 ⟨h64,lt,κ,O,hk,hl,hq⟩=>?_) fun _ _ z=>z.elim);refine A0a (A5e ?_ (by show vs.length<=sizeLine;rw [A1e];lia))
 have hn:(s1.heap.push (seqObj "list" vs.toArray 0)).get? s1.heap.objs.size=some (seqObj "list" vs.toArray 0):=A0n _ rfl;have old:∀ b o,s1.heap.get? b=some o->b≠s1.heap.objs.size/\(s1.heap.push (seqObj "list" vs.toArray 0)).get? b=some o:=fun b o q=>⟨A0y (A0q q),A0b _ q⟩
 show wpAny _ _ _ _ _ { s1 with heap:=s1.heap.push (seqObj "list" vs.toArray 0) }
 refine A0a (A1S (A1a slot_list_sort ⟨_,hn,rfl⟩ entry_list_sort ?body (args_list_sort _)))
 case body =>
  refine RN (s:={ s1 with heap:=s1.heap.push (seqObj "list" vs.toArray 0) }) hn h64 O (fun h2 s' R kp hR=>hk h2 s' R (fun b o q=>kp b o (old b o q).1 (old b o q).2) hR)
   (fun i j s' C hi hj hij kp hC=>hl i j s' C hi hj hij (fun b o q=>kp b o (old b o q).1 (old b o q).2) hC) fun p tk hP hU=>⟨_,rfl,A0d ⟨_,rfl,?_⟩⟩
  obtain ⟨e,he⟩:=sortedHeap_at (h:=s1.heap.push (seqObj "list" vs.toArray 0)) (a:=s1.heap.objs.size) (vs:=vs) (out:=(0x26).toArray) hn;refine hq p tk _ e hP hU (fun b o q=>?_) he;rw [sortedHeap_old (old b o q).1 (by have:=A0q q;rw [size_push'];exact A2n this)];exact (old b o q).2
end
open PySem.Calls
theorem qz:Slot "set_iterator" "__iter__" "set_iterator.__iter__":=Slot.of (owner:="set_iterator") (n:="__iter__") (by rw [typeLookup_type,builtinLookup_eq_fast];kernel_rfl) 0x6
 (by decide +kernel) 0x6 (by first | exact .inl 0x6 | exact .inr 0x6) (by rw [isSubtype_type];kernel_rfl)
theorem cT:Slot "set_iterator" "__next__" "set_iterator.__next__":=Slot.of (owner:="set_iterator") (n:="__next__") (by rw [typeLookup_type,builtinLookup_eq_fast];kernel_rfl) 0x6
 (by decide +kernel) 0x6 (by first | exact .inl 0x6 | exact .inr 0x6) (by rw [isSubtype_type];kernel_rfl)
theorem wH:entryFor table "set_iterator.__iter__"=some Builtin.«dict_keyiterator.__iter__»:=A4P (id':="dict_keyiterator.__iter__") (by kernel_rfl) rfl 0x6 (by kernel_rfl)
theorem jf:entryFor table "set_iterator.__next__"=some Builtin.«set_iterator.__next__»:=entryFor_of_tree (by kernel_rfl)
theorem zH:entryFor table "set.__iter__"=some Builtin.«frozenset.__iter__»:=A4P (id':="frozenset.__iter__") (by kernel_rfl) rfl 0x6 (by kernel_rfl)
theorem zJ (a:Value):argsOk "set_iterator.__iter__" ⟨[a],[]⟩:=by unfold argsOk;kernel_rfl
theorem jG (a:Value):argsOk "set_iterator.__next__" ⟨[a],[]⟩:=by unfold argsOk;kernel_rfl
theorem pI {α:Type}:∀ (xs:List α) (i:Nat) (hi:i<xs.length),(xs[i]::xs.eraseIdx i).Perm xs
 | [],i,h=>by simp at h
 | x::xs,0,_=>A4T _
 | x::xs,i+1,h=>by
  have:=pI xs i (by simpa using h);exact (List.Perm.swap _ _ _).trans ((List.perm_cons x).mpr this)
section
variable {M:Model}
theorem GZ {src:Source}{Q:Nat->Shared->Prop} (hn:n≠0) (h:∀ i d,i<n->Q i { s with drawn:=d }):wpAny M A (choose src n) Q E s:=by
 intro Γ p hΓ;unfold choose;rw [Sem.wp_choose];refine ⟨hn,?_⟩;exact A0d (h _ _ (Nat.mod_lt _ (Nat.pos_of_ne_zero hn))) Γ p hΓ
theorem Dg {α:Type}:∀ (n:Nat) (xs:List α) (s:Shared) {Q:List α->Shared->Prop},xs.length=n->(∀ ys d,ys.Perm xs->Q ys { s with drawn:=d })->wpAny M A (drawOrder n xs) Q E s
 | 0,[],s,Q,_,h=>by
  unfold drawOrder;exact A0d (h [] s.drawn (A4T _))
 | 0,_::_,_,_,hl,_=>by simp at hl
 | _+1,[],_,_,hl,_=>by simp at hl
 | n+1,x::xs,s,Q,hl,h=>by
  unfold drawOrder;refine A0a (GZ 0xA fun i d hi=>?_);have e:(x::xs)[i]?=some (x::xs)[i]:=ju hi;rw [e];dsimp only;refine A0a (Dg n ((x::xs).eraseIdx i) { s with drawn:=d } (by rw [A4U hi];simpa using hl) fun ys d' hp=>?_);refine A0d (h _ d' ?_);exact ((List.perm_cons _).mpr hp).trans (pI _ _ hi)
end
theorem K5 {α:Type} (next:Nat->Nat):∀ (fuel k:Nat) (left:List α) (out:Array α),left.length=fuel->((pickOrder.go next fuel k left out).toList).Perm (out.toList++left)
 | 0,_,[],out,_=>by unfold pickOrder.go;simp
 | 0,_,_::_,_,h=>by simp at h
 | _+1,_,[],_,h=>by simp at h
 | fuel+1,k,x::xs,out,h=>by
  unfold pickOrder.go;have hi:next k % (x::xs).length<(x::xs).length:=Nat.mod_lt _ 0xA;have e:(x::xs)[next k % (x::xs).length]?=some (x::xs)[next k % (x::xs).length]:=ju hi;rw [e];dsimp only;refine (K5 next fuel (k+1) _ _ (by rw [A4U hi];simpa using h)).trans ?_;rw [Array.toList_push,A2J];exact (List.perm_append_left_iff _).mpr (pI _ _ hi)
theorem rR {α:Type} (next:Nat->Nat) (xs:Array α):((pickOrder next xs).toList).Perm xs.toList:=by
 unfold pickOrder;have:=K5 next xs.size 0 xs.toList #[] 0xA
 simpa using this
structure cX (w:World) (h:Heap) (a:Addr) (es:Array (Int×Value)) (ep:Nat) (t:SetTable):Prop where
 o:∃ o,h.get? a=some o/\o.ExactSet/\o.data=.set es ep t
 fits:t.fits es.size=true
 small:es.size<scanBound
 led:w.params.followText "set-order"=false->t.led=true
 plain:1<es.size->t.plain=false
theorem cX.at {t:SetTable} (x:cX w h a es ep t) (k:∀ o,h.get? a=some o->h'.get? a=some o):cX w h' a es ep t :=
 ⟨let ⟨o,ho,r⟩:=x.o;⟨o,k _ ho,r⟩,x.fits,x.small,x.led,x.plain⟩
theorem cX.typeIs {t:SetTable} (x:cX w s.heap a es ep t):s.TypeIs (.ref a) "set":=let ⟨o,ho,hx,_⟩:=x.o;⟨o,ho,hx.1⟩
theorem cX.lt {t:SetTable} (x:cX w h a es ep t):a<h.objs.size:=let ⟨_,ho,_⟩:=x.o;A0q ho
def N7 (first:Value) (i:Nat) (a:Addr) (n ep:Nat):Obj:={ cls:=.type "set_iterator",data:=.fields #[first,.int i 0,.ref a,.int n 0,.int ep 0] }
inductive Mode (w:World) (a:Addr) (es:Array (Int×Value)) (ep:Nat) (t:SetTable):List Addr->(Nat->Heap->Value->Prop)->List Value->Prop
 | drawn (tp:Addr) (ps:List Nat):ps.Perm (List.range es.size)->Mode w a es ep t [tp] (fun _ h v=>v=.ref tp/\h.get? tp=some { cls:=.type "tuple",data:=.seq (ps.map fun (i:Nat)=>rawInt i).toArray }) (ps.map fun p=>(es.getD p (0,.none)).2)
 | text:w.params.followText "set-order"=true->Mode w a es ep t [] (fun _ _ v=>v=.int 0 0) ((0x52).toList.map (·.2))
 | one:w.params.followText "set-order"=false->es.size<=1->Mode w a es ep t [] (fun i _ v=>v=.int (if i=0 then 0 else ((t.place.getD 0 0+1:Nat):Int)) 0) (es.toList.map (·.2))
theorem Dh {t:SetTable}{tps:List Addr}{F:Nat->Heap->Value->Prop}{ord:List Value} (md:Mode w a es ep t tps F ord):ord.Perm (es.toList.map (·.2)):=by
 cases md with
 | drawn tp ps hp =>
  have h:=hp.map fun p=>(es.getD p (0,Value.none)).2;have e:(List.range es.size).map (fun p=>(es.getD p (0,Value.none)).2)=es.toList.map (·.2):=by
   apply A5h
   ·simp
   ·intro i h1 h2;simp only [A3t,A4S];have hi:i<es.size:=by simpa using h2
    rw [Array.getD,A5l hi];simp
  rw [e] at h;exact h
 | text bt=>exact (rR _ es).map _
 | one bt h1=>exact A4T _
theorem RP {t:SetTable} (hs:cX w s.heap a es ep t)
  (h:∀ (h':Heap) (d:Drawn) (it:Addr) (tps:List Addr) (F:Nat->Heap->Value->Prop) (ord:List Value) (first:Value),0x51->(∀ o,s.heap.get? it≠some o)->(∀ b∈tps,b≠it/\∀ o,s.heap.get? b≠some o)->Mode w a es ep t tps F ord->F 0 h' first->h'.get? it=some (N7 first 0 a es.size ep)->Q (.ref it) { s with heap:=h',drawn:=d }) :
  wpAny 0xC A (pyIter (.ref a)) Q E s:=by
 obtain ⟨o,ho,hx,hd⟩:=hs.o;refine A3W hs.typeIs PySem.F.slot_set_iter (A1a PySem.F.slot_set_iter hs.typeIs zH ?_ (PySem.F.args_set_iter_1 _));unfold Builtin.«frozenset.__iter__» Builtin.Frozenset.slot0 slotArgs;simp only [List.isEmpty_nil,Bool.not_true,A1q,↓reduceIte,bind_assoc,A4r,A3Y];unfold Builtin.Frozenset.addrOf Builtin.Frozenset.sizeOf;refine A0a (A0d ?_);dsimp only;refine A0a (A0d ?_);refine A0a (A0a (A2S ho hd hs.fits (A0d ?_)));have hset:∀ (Q':Bool->Shared->Prop),Q' (!w.params.followText "set-order"&&(!t.plain&&decide (es.size > 1))) s->wpAny 0xC A.in1 (setDrawn a) Q' E s:=fun Q' hq=>by
  unfold setDrawn;refine A0a (A2K ho hd hs.fits ?_);dsimp only;unfold setsByText;refine A0a (A0a (A2h (A0d ?_)));exact A0d hq
 refine A0a (hset _ ?_);have Hf:∀ (first:Value) (h1:Heap) (d:Drawn) (tps:List Addr) (F:Nat->Heap->Value->Prop) (ord:List Value),(∀ b u,s.heap.get? b=some u->h1.get? b=some u)->(∀ b∈tps,b<h1.objs.size/\s.heap.objs.size<=b)->Mode w a es ep t tps F ord->(∀ h2,(∀ b u,h1.get? b=some u->h2.get? b=some u)->F 0 h2 first) ->
   wpAny 0xC A.in1 (do
    let e <- setEpoch a
    let r <- newFields "set_iterator" [first,rawInt 0,Value.ref a,rawInt ((es.size:Nat):Int),rawInt ((e:Nat):Int)]
    ret r) (fun fin s'=>∃ v,fin=Fin.done (Flow.ret v)/\∃ T' r,s'.TypeIs v T'/\typeLookup (Value.type T') (Str.ofString "__next__")=pure (some r)/\Q v s') E { s with heap:=h1,drawn:=d }:=fun first h1 d tps F ord k1 ht md hF=>by
  refine A0a (wpAny_setEpoch_of (k1 _ _ ho) hd hs.fits ?_);unfold newFields;refine A0a (A1n ?_ (by size_fits));refine A0d ⟨_,rfl, "set_iterator",_,⟨_,A0n _ rfl,rfl⟩,cT.lookup,?_⟩;refine h _ d _ tps F ord first (fun b u q=>A0b _ (k1 _ _ q)) (fun u q=>absurd (A0q (k1 _ _ q)) (A1p _)) (fun b hb=>⟨A0y (ht b hb).1,fun u q=>absurd (A0p (A0q q) (ht b hb).2) (A1p _)⟩) md (hF _ fun b u q=>A0b _ q) (A0n _ rfl)
 by_cases c:(!w.params.followText "set-order"&&(!t.plain&&decide (es.size > 1)))=true
 ·rw [A0i c];simp only [A0Y,Bool.not_eq_true',A1J] at c;refine A0a (Dg es.size (List.range es.size) s 0xA fun ps d hp=>?_);refine A0a (A4O ?_ (by rw [cg,hp.length_eq,A3V];exact A2i (A0p hs.small (by rw [A1e];decide))));exact Hf 0x17 _ d _ _ _ (fun b u q=>A0b _ q) (fun b hb=>by rw [A0c.mp hb,size_push'];exact ⟨A2U _,A0f _⟩) (.drawn s.heap.objs.size ps hp) fun h2 k2=>⟨rfl,k2 _ _ (A0n _ rfl)⟩
 ·rw [A0e c];refine A0a (A0d ?_);cases bt:w.params.followText "set-order" with
  | true=>exact Hf (rawInt 0) s.heap s.drawn [] _ _ (fun _ _ q=>q) (fun b hb=>by simp at hb) (.text bt) fun _ _=>rfl
  | false =>
   have hz:es.size<=1:=by
    rcases Nat.lt_or_ge 1 es.size with z | z
    ·exact absurd (by rw [bt,hs.plain z];simpa using z) c
    ·exact z
   exact Hf (rawInt 0) s.heap s.drawn [] _ _ (fun _ _ q=>q) (fun b hb=>by simp at hb) (.one bt hz) fun _ _=>rfl
theorem iI {first:Value} (h:s.heap.get? it=some (N7 first i a n ep)):s.TypeIs (.ref it) "set_iterator":=⟨_,h,rfl⟩
theorem Di {R:PySem.Fin->Shared->Prop}{Q:Option Value->Shared->Prop} (hh:A.handled=none) (hQ:∀ h',0x51->Q none { s with heap:=h' }) :
  wpAny 0xC A.in1 (do let e <- newExc (Value.type "StopIteration") [];(raiseNew e:Sem PySem.Fin)) R (fun e s'=>wpAny 0xC A (do
    let b <- isInstance e (Value.type "StopIteration")
    if b=true then pure none else throw e) Q E s') s:=by
 refine A0a ?_;simp only [newExc,newTuple];refine A0a (A1n ?_ (by size_fits));refine A0a (m:=firstArgMember _ _) (wpAny_of_eq (a:=Value.none) (by first | rfl | (simp only [firstArgMember];rfl)) ?_)
 refine A1n ?_ (by size_fits);simp only [raiseNew];refine A0a (wpAny_handled ?_);rw [show A.in1.handled=none from hh]
 refine A0a (A0d (wpAny_throw ?_));refine A0a (A4d (T:="StopIteration") (b:=true) ⟨_,A0n _ rfl,rfl⟩ isSubtype_stop ?_);exact A0d (hQ _ fun b u q=>A0b _ (A0b _ q))
theorem zK {first y:Value} (hi:h.get? it=some (N7 first i a n ep)):(h.update it (Obj.mapFields (·.setIfInBounds 0 y))).get? it=some (N7 y i a n ep)/\(h.update it (Obj.mapFields (·.setIfInBounds 1 (rawInt ((i:Int)+1))))).get? it=some (N7 first (i+1) a n ep) :=
 ⟨A2d _ hi rfl,by rw [A2d _ hi rfl];rfl⟩
theorem Dj {t:SetTable}{slot:Int}{nx:Nat}{x:Value}{Q:Option Value->Shared->Prop} (hs:cX w s.heap a es ep t) (hi:s.heap.get? it=some (N7 (.int slot tk) i a es.size ep))
  (hn:∀ (E':Value->Shared->Prop) (Q':Option (Value×Nat)->Shared->Prop),Q' (some (x,nx)) s->wpAny 0xC A.in1 (setNext a slot.toNat i ep) Q' E' s)
  (hQ:∀ h',Heap.SameBut it s.heap h'->h'.get? it=some (N7 (rawInt ((nx:Nat):Int)) (i+1) a es.size ep)->Q (some x) { s with heap:=h' }):wpAny 0xC A (pyNext (.ref it)) Q E s:=by
 obtain ⟨o,ho,hx,hd⟩:=hs.o;unfold pyNext;refine A0a 0x30;unfold Builtin.«set_iterator.__next__»;refine A0a (A0d ?_);refine A0a (A4V hi rfl ?_);dsimp only;refine A0a (A2S ho hd hs.fits ?_);rw [A0e 0xA];refine A0a (hn _ _ ?_);dsimp only;have h1:=(zK (y:=rawInt ((nx:Nat):Int)) hi).1;have h2:=(zK (y:=rawInt 0) h1).2;refine A0a (A2x hi rfl 0xA ?_);refine A0a (A2x h1 rfl 0xA ?_);exact A0d ⟨_,rfl,A0d (hQ _ ((A2a ..).trans (A2a ..)) h2)⟩
theorem K6 {t:SetTable}{slot:Int}{Q:Option Value->Shared->Prop} (hh:A.handled=none) (hs:cX w s.heap a es ep t) (hi:s.heap.get? it=some (N7 (.int slot tk) i a es.size ep))
  (hn:∀ (E':Value->Shared->Prop) (Q':Option (Value×Nat)->Shared->Prop),Q' none s->wpAny 0xC A.in1 (setNext a slot.toNat i ep) Q' E' s)
  (hQ:∀ h',(∀ b o,b≠it->s.heap.get? b=some o->h'.get? b=some o)->Q none { s with heap:=h' }):wpAny 0xC A (pyNext (.ref it)) Q E s:=by
 obtain ⟨o,ho,hx,hd⟩:=hs.o;unfold pyNext;refine A0a 0x30;unfold Builtin.«set_iterator.__next__»;refine A0a (A0d ?_);refine A0a (A4V hi rfl ?_);dsimp only;refine A0a (A2S ho hd hs.fits ?_);rw [A0e 0xA];refine A0a (hn _ _ ?_);dsimp only;refine A0a (A2x hi rfl 0xA ?_);exact Di hh fun h' k=>hQ h' fun b u hb q=>k b u ((A1k _ _ _ _ hb).trans q)
theorem RQ {tp:Addr}{t:SetTable}{ps:List Nat}{p:Nat}{e:Int×Value}{Q:Option Value->Shared->Prop} (hs:cX w s.heap a es ep t) (hi:s.heap.get? it=some (N7 (.ref tp) i a es.size ep))
  (ht:s.heap.get? tp=some { cls:=.type "tuple",data:=.seq (ps.map fun (i:Nat)=>rawInt i).toArray }) (hp:ps[i]?=some p) (he:es[p]?=some e)
  (hQ:∀ h',Heap.SameBut it s.heap h'->h'.get? it=some (N7 (.ref tp) (i+1) a es.size ep)->Q (some e.2) { s with heap:=h' }):wpAny 0xC A (pyNext (.ref it)) Q E s:=by
 obtain ⟨o,ho,hx,hd⟩:=hs.o;unfold pyNext;refine A0a 0x30;unfold Builtin.«set_iterator.__next__»;refine A0a (A0d ?_);refine A0a (A4V hi rfl ?_);dsimp only;refine A0a (A2S ho hd hs.fits ?_);rw [A0e 0xA];refine A0a ?_;unfold seqItems?;refine A0a (A5j ht (A0d ?_));dsimp only;have hpi:(ps.map fun (i:Nat)=>rawInt i).toArray[((i:Nat):Int).toNat]?=some (rawInt p):=by
  rw [A1Y];simp [hp]
 rw [hpi];dsimp only [rawInt];refine A0a ?_;unfold setNextDrawn;refine A0a (A2K ho hd hs.fits ?_);dsimp only;rw [A0e 0xA];rw [A1Y,he];refine A0d ?_;have h2:=(zK (y:=rawInt 0) hi).2;refine A0a (A2x hi rfl 0xA ?_);exact A0d ⟨_,rfl,A0d (hQ _ (A2a ..) h2)⟩
theorem Wv {tp:Addr}{t:SetTable}{ps:List Nat}{Q:Option Value->Shared->Prop} (hh:A.handled=none) (hs:cX w s.heap a es ep t) (hi:s.heap.get? it=some (N7 (.ref tp) i a es.size ep))
  (ht:s.heap.get? tp=some { cls:=.type "tuple",data:=.seq (ps.map fun (i:Nat)=>rawInt i).toArray }) (hp:ps[i]?=none)
  (hQ:∀ h',(∀ b o,b≠it->s.heap.get? b=some o->h'.get? b=some o)->Q none { s with heap:=h' }):wpAny 0xC A (pyNext (.ref it)) Q E s:=by
 obtain ⟨o,ho,hx,hd⟩:=hs.o;unfold pyNext;refine A0a 0x30;unfold Builtin.«set_iterator.__next__»;refine A0a (A0d ?_);refine A0a (A4V hi rfl ?_);dsimp only;refine A0a (A2S ho hd hs.fits ?_);rw [A0e 0xA];refine A0a ?_;unfold seqItems?;refine A0a (A5j ht (A0d ?_));dsimp only;have hpi:(ps.map fun (i:Nat)=>rawInt i).toArray[((i:Nat):Int).toNat]?=none:=by
  rw [A1Y];simp
  simpa using hp
 rw [hpi];dsimp only;have h1:=(zK (y:=rawInt 0) hi).1;refine A0a (A2x hi rfl 0xA ?_);refine A0a (A2x h1 rfl 0xA ?_);exact Di hh fun h' k=>hQ h' fun b u hb q=>k b u ((A1k _ _ _ _ hb).trans ((A1k _ _ _ _ hb).trans q))
theorem Dk {slot:Nat}{t:SetTable} (hs:cX w s.heap a es ep t) (bt:w.params.followText "set-order"=true) (E':Value->Shared->Prop) (Q':Option (Value×Nat)->Shared->Prop)
  (h:Q' ((0x52[i]?).map fun e=>(e.2,slot)) s):wpAny 0xC A (setNext a slot i ep) Q' E' s:=by
 obtain ⟨o,ho,hx,hd⟩:=hs.o;unfold setNext;refine A0a (A2K ho hd hs.fits ?_);dsimp only;unfold setsByText;refine A0a (A0a (A2h (A0d ?_)));dsimp only;rw [show (0xC).w.params.followText "set-order"=true from bt,A0i rfl,A0e 0xA]
 refine A0a ?_;unfold setWalk;refine A0a (A2K ho hd hs.fits ?_);dsimp only;unfold setsByText;refine A0a (A0a (A2h (A0d ?_)));dsimp only;rw [show (0xC).w.params.followText "set-order"=true from bt,A0i rfl]
 refine A0a (A2h (A0d ?_));exact A0d h
theorem K7 {slot:Nat}{t:SetTable} (hs:cX w s.heap a es ep t) (bt:w.params.followText "set-order"=false) (h1:es.size<=1) (E':Value->Shared->Prop) (Q':Option (Value×Nat)->Shared->Prop)
  (h:Q' (match es[SetTable.below t.place slot]?,t.place[SetTable.below t.place slot]? with | some (_,x),some j=>some (x,j+1) | _,_=>none) s):wpAny 0xC A (setNext a slot i ep) Q' E' s:=by
 obtain ⟨o,ho,hx,hd⟩:=hs.o;unfold setNext;refine A0a (A2K ho hd hs.fits ?_);dsimp only;unfold setsByText;refine A0a (A0a (A2h (A0d ?_)));dsimp only;rw [show (0xC).w.params.followText "set-order"=false from bt,A0e A0o]
 show wpAny _ _ (if (!t.plain&&decide (es.size > 1))=true then _ else _) _ _ _
 rw [A0e (by rw [A0s 0x2,Bool.and_false];exact A0o)];refine A0a ?_
 show wpAny _ _ (if (!t.led&&!es.isEmpty)=true then _ else _) _ _ _
 rw [A0e (by rw [hs.led bt];exact A0o)];refine A0d ?_;exact A0d h
theorem xX:SetTable.below #[j] 0=0/\SetTable.below #[j] (j+1)=1:=by
 constructor
 ·simp [SetTable.below,SetTable.below.go]
 ·simp [SetTable.below,SetTable.below.go]
theorem xY {t:SetTable} (h:t.fits 1=true):∃ j,t.place=#[j]:=by
 simp only [SetTable.fits,A0Y,A3L] at h;exact Array.size_eq_one_iff.mp h.1
theorem RT {t:SetTable}{tps:List Addr}{F:Nat->Heap->Value->Prop}{ord:List Value} (hh:A.handled=none) (hne:a≠it) (htp:∀ b∈tps,b≠it) (md:Mode w a es ep t tps F ord) :
  Walks prog w A it (it::a::tps) [it] es.size (fun i v=>ord[i]?=some v) (fun i h=>cX w h a es ep t/\∃ first,F i h first/\h.get? it=some (N7 first i a es.size ep)) where
 sub:=fun b hb=>by rw [A0c.mp hb];exact A0h
 frame:=fun i h h' ⟨hs,first,hF,hi⟩ hk=>by
  refine ⟨hs.at fun o e=>hk a 0xA o e,first,?_,hk it 0xA _ hi⟩
  cases md with
  | drawn tp ps hp=>exact ⟨hF.1,hk tp 0xA _ hF.2⟩
  | text bt=>exact hF
  | one bt h1=>exact hF
 item:=fun i s Q E hi ⟨hs,first,hF,hit⟩ hQ=>by
  cases md with
  | drawn tp ps hp =>
   obtain ⟨rfl,ht⟩:=hF;have hl:ps.length=es.size:=by rw [hp.length_eq,A3V]
   have hil:i<ps.length:=by lia
   have hpm:ps[i]<es.size:=A4I.mp (hp.mem_iff.mp (A0N hil));refine RQ hs hit ht (ju hil) (A2c hpm) fun h' sb hi'=>?_;have ht':=sb.extBut _ _ (htp tp 0xA) ht;refine hQ _ h' s.toks ?_ ⟨hs.at fun o e=>sb.extBut _ _ hne e,_,⟨rfl,ht'⟩,hi'⟩ fun b u hb e=>sb.extBut _ _ (fun z=>hb (by simp [z])) e;rw [jY,ju hil]
   show some (es.getD ps[i] (0,Value.none)).2=some es[ps[i]].2
   rw [Array.getD,A5l hpm];rfl
  | text bt =>
   subst hF;have hl:(0x52).size=es.size:=by have:=(rR (w.params.setOrder a ep) es).length_eq;simpa using this
   have hil:i<(0x52).size:=by lia
   refine Dj (x:=0x52[i].2) (nx:=0) hs hit (fun E' Q' q=>Dk hs bt E' Q' (by rw [A2c hil];exact q)) fun h' sb hi'=>?_;refine hQ _ h' s.toks ?_ ⟨hs.at fun o e=>sb.extBut _ _ hne e,_,rfl,hi'⟩ fun b u hb e=>sb.extBut _ _ (fun z=>hb (by simp [z])) e;rw [jY,A3l,A2c hil];rfl
  | one bt h1 =>
   obtain rfl:i=0:=by lia
   have hz:es.size=1:=by lia
   subst hF;obtain ⟨j,hj⟩:=xY (by rw [<- hz];exact hs.fits);refine Dj (x:=es[0].2) (nx:=j+1) hs hit (fun E' Q' q=>K7 hs bt h1 E' Q' ?_) fun h' sb hi'=>?_
   ·show Q' (match es[SetTable.below t.place 0]?,t.place[SetTable.below t.place 0]? with | some (_,x),some j=>some (x,j+1) | _,_=>none) s
    rw [hj,xX.1,A2c hi];exact q
   ·refine hQ _ h' s.toks ?_ ⟨hs.at fun o e=>sb.extBut _ _ hne e,_,?_,hi'⟩ fun b u hb e=>sb.extBut _ _ (fun z=>hb (by simp [z])) e
    ·rw [jY,A3l,A2c hi];rfl
    ·show rawInt ((j+1:Nat):Int)=Value.int (if 0+1=0 then 0 else ((t.place.getD 0 0+1:Nat):Int)) 0
     rw [hj,A0e 0x2];rfl
 done:=fun s Q E ⟨hs,first,hF,hit⟩ hQ=>by
  have fin:∀ h',(∀ b o,b≠it->s.heap.get? b=some o->h'.get? b=some o)->Q none { s with heap:=h' }:=fun h' k=>hQ h' s.toks fun b o hb e=>k b o (fun z=>hb (by simp [z])) e;cases md with
  | drawn tp ps hp =>
   obtain ⟨rfl,ht⟩:=hF;have hl:ps.length=es.size:=by rw [hp.length_eq,A3V]
   exact Wv hh hs hit ht (A2e 0x2) fin
  | text bt =>
   subst hF;have hl:(0x52).size=es.size:=by have:=(rR (w.params.setOrder a ep) es).length_eq;simpa using this
   exact K6 hh hs hit (fun E' Q' q=>Dk hs bt E' Q' (by rw [A3Z 0x2];exact q)) fin
  | one bt h1 =>
   subst hF;refine K6 hh hs hit (fun E' Q' q=>K7 hs bt h1 E' Q' ?_) fin
   by_cases hz:es.size=0
   ·rw [A3Z 0x2];exact q
   ·have hz1:es.size=1:=by lia
    obtain ⟨j,hj⟩:=xY (by rw [<- hz1];exact hs.fits);rw [A0e hz,hj,A1Y]
    show Q' (match es[SetTable.below #[j] (j+1)]?,(#[j]:Array Nat)[SetTable.below #[j] (j+1)]? with | some (_,x),some j=>some (x,j+1) | _,_=>none) s
    rw [xX.2,A3Z 0x2];exact q
 self:=fun i s Q E ⟨_,first,_,hit⟩ hQ=>by
  refine A3W (iI hit) qz (A1a qz (iI hit) wH ?_ (zJ _))
  show wpAny _ _ (ret (.ref it)) _ _ s
  exact A0d ⟨_,rfl, "set_iterator",_,iI hit,cT.lookup,hQ⟩
theorem Ww {Q:Bool->Shared->Prop} (ht:s.TypeIs (.ref a) "set") (q:Q false s):wpAny 0xC A (Builtin.List.listLengthHint (.ref a)) Q E s:=by
 unfold Builtin.List.listLengthHint;refine A0a (wpAny_specialOf ht PySem.F.slot_set_len.lookup ?_);generalize en:("set.__len__" : String)=a1P
 wp_delta
 rw [show splitId a1P=some ("set", "__len__") from by subst en;decide +kernel]
 subst en;refine A0a (A4d (T:="set") (b:=true) ht (by rw [isSubtype_type];kernel_rfl) ?_);refine A5o (fun z=>absurd z 0x7) (fun _=>?_);refine A5o (fun _=>?_) (fun z=>absurd 0x6 z);exact A0a (A4w ht (A0d q))
theorem N8 {ord:List Value}{acc:Array Value} (h:ItemsOf (fun i v=>ord[i]?=some v) acc n) (hl:ord.length=n):acc.toList=ord:=by
 apply List.ext_getElem?
 intro i
 by_cases hi:i<acc.toList.length
 ·rw [ju hi];have:=h.2 i acc.toList[i] (by rw [<- A3l];exact ju hi);exact this.symm
 ·have hz:acc.toList.length=n:=by rw [A0I];exact h.1
  rw [A2e 0x2,A2e 0x2]
theorem Dl {t:SetTable}{R:List Value->Shared->Prop} (hh:A.handled=none) (hs:cX w s.heap a es ep t)
  (h:∀ (h':Heap) (tk:Nat) (d:Drawn) (vs:List Value),0x51->vs.Perm (es.toList.map (·.2))->R vs { s with heap:=h',toks:=tk,drawn:=d }):wpAny 0xC A (collect (.ref a)) R E s:=by
 have hlt:=hs.lt;have zs:es.size<=sizeLine:=A2i (A0p hs.small (by rw [A1e];decide));unfold collect;refine A0a (wpAny_runValue (A3h entry_proto_collect' ?_));rw [A2L PySem.F.plain_proto_collect _]
 show wpAny _ A.in1 (newList [] >>= fun l=>again (.builtin "list.__iadd__" ⟨[l,.ref a],[]⟩)) _ _ s
 refine A0a (A1n ?_);refine A0d ⟨A4i PySem.F.plain_list_iadd _,A3h entry_list_iadd' ?_⟩;rw [A2L PySem.F.plain_list_iadd _];have l0:(s.heap.push { cls:=.type "list",data:=.seq ([]:List Value).toArray }).get? s.heap.objs.size=some { cls:=.type "list",data:=.seq #[] 0 }:=A0n _ rfl;have hs0:cX w (s.heap.push { cls:=.type "list",data:=.seq ([]:List Value).toArray }) a es ep t:=hs.at fun o e=>A0b _ e
 show wpAny _ A.in1 (Builtin.List.listExtendWith 0x17 (.ref a) 0x17) _ _ _
 unfold Builtin.List.listExtendWith;refine A0a (A4w (T:="set") hs0.typeIs ?_);have a1Q:Builtin.List.listSameRef 0x17 (.ref a)=false:=by simp [Builtin.List.listSameRef,A3a hlt]
 simp only [a1Q,show (Value.type "set"==Value.type "list")=false by decide,show (Value.type "set"==Value.type "tuple")=false by decide,Bool.or_false,A1q,A2H]
 refine A0a (RP (s:={ s with heap:=s.heap.push { cls:=.type "list",data:=.seq ([]:List Value).toArray } }) hs0 fun h1 d it tps F ord first k1 nit ntp md hF hit=>?_)
 have nS:s.heap.objs.size≠it:=fun z=>nit _ (by rw [<- z];exact l0);have l1:=k1 _ _ l0;have hs1:cX w h1 a es ep t:=hs0.at fun o e=>k1 _ _ e;have na:a≠it:=fun z=>by obtain ⟨o,ho,_⟩:=hs0.o;exact nit o (by rw [<- z];exact ho)
 have W:=RT (prog:=prog) (A:=A.in1) (it:=it) hh na (fun b hb=>(ntp b hb).1) md;have ol:ord.length=es.size:=by have:=(Dh md).length_eq;simpa using this
 have key:∀ (Rr:Result->Shared->Prop),(∀ (h':Heap) (tk':Nat) (acc:Array Value) (c':Nat),0x51->h'.get? s.heap.objs.size=some { cls:=.type "list",dict:=none,data:=.seq acc c',slots:=#[] }->acc.toList.Perm (es.toList.map (·.2))->Rr (.ok (.ret 0x17)) { s with heap:=h',toks:=tk',drawn:=d }) ->
   ∀ (h2:Heap) (c tk:Nat),(∀ b o,b≠s.heap.objs.size->h1.get? b=some o->h2.get? b=some o)->h2.get? s.heap.objs.size=some { cls:=.type "list",data:=.seq #[] c } ->
   codeAny 0xC A (.builtin "list.extend.loop" ⟨[.ref s.heap.objs.size,.ref it,.ref s.heap.objs.size],[]⟩) Rr { s with heap:=h2,toks:=tk,drawn:=d }:=fun Rr hR h2 c tk k2 l2=>by
  have old:∀ b o,s.heap.get? b=some o->h2.get? b=some o/\b≠s.heap.objs.size:=fun b o q=>by
   have hb:b≠s.heap.objs.size:=A0y (A0q q);exact ⟨k2 b o hb (k1 _ _ (A0b _ q)),hb⟩
  have ntps:∀ b∈tps,b≠s.heap.objs.size:=fun b hb z=>(ntp b hb).2 { cls:=.type "list",data:=.seq #[] 0 } (z ▸ l0);have st:cX w h2 a es ep t/\∃ first,F 0 h2 first/\h2.get? it=some (N7 first 0 a es.size ep):=by
   refine W.frame 0 h1 h2 ⟨hs1,first,hF,hit⟩ fun b hb o q=>k2 b o ?_ q
   rcases List.mem_cons.mp hb with rfl | hb
   ·exact A0k nS
   rcases List.mem_cons.mp hb with rfl | hb
   ·exact A0y hlt
   ·exact ntps b hb
  have nf:s.heap.objs.size∉it::a::tps:=fun hm=>by
   rcases List.mem_cons.mp hm with z | hm
   ·exact nS z
   rcases List.mem_cons.mp hm with z | hm
   ·exact A3a hlt z
   ·exact ntps _ hm rfl
  refine codeAny_extend_loopS W.toS zs s.heap.objs.size nf _ es.size 0 _ #[] c rfl (A0Z _) st l2 (ItemsOf.nil _) fun s' acc c' hm hS hacc=>?_;rw [Moved.eq_with hm];refine hR s'.heap s'.toks acc c' (fun b o q=>hm.heap b o (fun hmem=>?_) (old b o q).1) hS (by rw [N8 hacc ol];exact Dh md);rcases List.mem_cons.mp hmem with z | hmem
  ·exact (old b o q).2 z
  ·exact nit o (by rw [<- A0c.mp hmem];exact A0b _ q)
 refine A0a (A1S (Ww hs1.typeIs ?_));refine A5o (fun _=>?b1) (fun _=>A0d ⟨A4i PySem.F.plain_extend_loop _,key _ (fun h' tk' acc c' kp hS hp=>?b2) h1 0 _ (fun b o _ q=>q) l1⟩)
 case b2 =>
  show wpAny _ A (load s.heap.objs.size >>= _) _ _ _
  exact A0a (A5j hS (A0d (h h' tk' d _ kp hp)))
 refine A0a (A2Z ?_);refine A0a ?_
 show wpAny _ _ (updateSeq s.heap.objs.size (·.push .none) >>= fun _=>updateSeq s.heap.objs.size (·.pop)) _ _ _
 refine A0a (wpAny_updateSeq l1 rfl ?_);have l2:=A2d (Obj.mapSeq (·.push Value.none)) l1 rfl;refine wpAny_updateSeq (hz:=by seq_fits) l2 rfl ?_;have l3:=A2d (Obj.mapSeq (·.pop)) l2 rfl;refine A0d ⟨A4i PySem.F.plain_extend_loop _,key _ (fun h' tk' acc c' kp hS hp=>?b3) _ _ _ (fun b o hb q=>?b4) l3⟩
 case b3 =>
  show wpAny _ A (load s.heap.objs.size >>= _) _ _ _
  exact A0a (A5j hS (A0d (h h' tk' d _ kp hp)))
 case b4=>exact (A3T _ _ (A0k hb)).trans ((A3T _ _ (A0k hb)).trans q)
theorem RV (t:SetTable) (n:Nat):(t.orStandIn n).led=t.led:=by
 unfold SetTable.orStandIn
 split <;> rfl
theorem Nb (t:SetTable) (es:Array (Int×Value)) (hv:Int) (x:Value):(layNew t es hv x).2.1.led=t.led:=by
 unfold layNew
 split
 ·rename_i slot wd _
  exact RV _ _
 ·rfl
theorem Dm (t:SetTable) (es:Array (Int×Value)) (n:Nat):(relayAll t es n).2.1.led=t.led/\(t.plain=false->(relayAll t es n).2.1.plain=false):=by
 unfold relayAll
 split
 ·rename_i t' order heq
  dsimp only
  split
  ·unfold SetTable.relaid SetTable.laid at heq;simp only [Option.bind_eq_bind,Option.bind_eq_some_iff] at heq;obtain ⟨ow,_,e⟩:=heq;have e':=A0O e;rw [<- (Prod.mk.inj e').1];exact ⟨rfl,fun h=>h⟩
  ·exact ⟨rfl,fun _=>rfl⟩
 ·exact ⟨rfl,fun _=>rfl⟩
theorem xZ {es':Array (Int×Value)}{t t':SetTable} (hs:cX w h a es ep t) (hf:t'.fits es'.size=true) (hb:es'.size<scanBound) (hl:t'.led=t.led) (hp:t'.plain=false):cX w (h.update a (Obj.putSet es' t')) a es' (ep+1) t':=by
 obtain ⟨o,ho,hx,hd⟩:=hs.o;have g:=A2d (Obj.putSet es' t') ho (by rw [putSet_of es' t' hd];rfl);rw [putSet_of es' t' hd] at g;exact ⟨⟨_,g,hx,rfl⟩,hf,hb,fun b=>by rw [hl];exact hs.led b,fun _=>hp⟩
theorem Wx {t:SetTable}{Q:Bool->Shared->Prop} (hs:cX w s.heap a es ep t) (hel:ElemsOf 0x2E es.toList) (room:es.size+1<scanBound)
  (h:∀ (h':Heap) (es':Array (Int×Value)) (ep':Nat) (t':SetTable) (b:Bool),Heap.SameBut a s.heap h'->cX w h' a es' ep' t'->ElemsOf 0x2E es'.toList ->
   ((∃ e∈es.toList,(0x2E).is z e.2=true)/\es'=es\/(∀ e∈es.toList,(0x2E).is z e.2=false)/\es'.toList.Perm (es.toList++[((0x2E).hash z,.str z tk)]))->Q b { s with heap:=h' }) :
  wpAny 0xC A (setAddHashed a (.str z tk) ((0x2E).hash z)) Q E s:=by
 obtain ⟨o,ho,hx,hd⟩:=hs.o;have hkey:(0x2E).is z (.str z tk)=true:=A4e prog w z tk;have hsc:(Value.str z tk).scannable=true:=rfl;unfold setAddHashed setAddHashedIn;refine A1S (A0a (A2K ho hd hs.fits ?_));dsimp only;rw [byScan_of hsc hs.small hel,A0i rfl];unfold setAddByScan;refine A0a (A0a (A2Z (A0a (wpAny_setScan_of hkey ho hd hs.fits hel ?_))));cases hr:List.findIdx? (fun e=>(strKind prog w).is z e.2) es.toList with
 | some j =>
  dsimp only;obtain ⟨hj,hpj,_⟩:=List.findIdx?_eq_some_iff_getElem.mp hr;refine A0d (A0d ?_);exact h s.heap es ep t _ (Heap.SameBut.refl a s.heap) hs hel (.inl ⟨⟨_,A0N hj,hpj⟩,rfl⟩)
 | none =>
  dsimp only;have none_:∀ e∈es.toList,(0x2E).is z e.2=false:=fun e he=>by simpa using List.findIdx?_eq_none_iff.mp hr e he
  have pm:=layNew_perm t es ((0x2E).hash z) (.str z tk);have ft:=layNew_fits t es ((0x2E).hash z) (.str z tk);have ld:=Nb t es ((0x2E).hash z) (.str z tk);generalize layNew t es ((0x2E).hash z) (.str z tk)=L at pm ft ld ⊢;obtain ⟨es1,t1,dummy,gave⟩:=L;dsimp only at pm ft ld ⊢;rw [Array.toList_push] at pm;have el1:ElemsOf 0x2E es1.toList:=(hel.push hkey hsc).perm pm;have sz1:es1.size=es.size+1:=by rw [<- A0I,pm.length_eq,iT,A0I];rfl
  have way:∀ (b:Bool) {s₁:Shared}{Q':Unit->Shared->Prop}{E':Value->Shared->Prop},Q' () s₁->wpAny 0xC A (match b with | true=>rule "set.scan.the-table-gave-way" | false=>pure ()) Q' E' s₁:=fun b s₁ Q' E' q=>by
   cases b
   ·exact A0d q
   ·exact A2Z q
  refine A0a (way _ ?_);have tail:∀ t2:SetTable,t2.fits es1.size=true->t2.led=t.led->t2.plain=false->wpAny 0xC A (do
    storeSet a es1 t2
    if (!dummy&&t2.tooFull)=true then do
      (match (relayAll t2 es1 (SetTable.grown es1.size)).2.2 with | true=>rule "set.scan.the-table-gave-way" | false=>pure ())
      storeSet a (relayAll t2 es1 (SetTable.grown es1.size)).1 (relayAll t2 es1 (SetTable.grown es1.size)).2.1
      pure (some true)
     else pure (some true)) (fun r s'=>wpAny 0xC A (match r with | some added=>pure added | none=>setAddHashedIn a (.str z tk) ((0x2E).hash z) 99999) Q E s') E s:=fun t2 f2 l2 p2=>by
   have r2:=xZ (es':=es1) (t':=t2) hs f2 0x2 l2 p2;refine A0a (wpAny_storeSet_of ho hd ?_ (fits_of_scanBound 0x2));have b2:=A2a s.heap a (Obj.putSet es1 t2)
   split
   ·have pr:=relayAll_perm t2 es1 (SetTable.grown es1.size);have fr:=relayAll_fits t2 es1 (SetTable.grown es1.size);have kr:=Dm t2 es1 (SetTable.grown es1.size);generalize relayAll t2 es1 (SetTable.grown es1.size)=L at pr fr kr ⊢;obtain ⟨es3,t3,gave3⟩:=L;dsimp only at pr fr kr ⊢;have sz3:es3.size=es1.size:=by rw [<- A0I,pr.length_eq,A0I]
    obtain ⟨o2,ho2,_,hd2⟩:=r2.o;refine A0a (way _ (A0a (wpAny_storeSet_of ho2 hd2 ?_ (fits_of_scanBound 0x2))));refine A0d (A0d (h _ es3 _ t3 _ (b2.trans (A2a _ a _)) (xZ r2 fr 0x2 kr.1 (kr.2 p2)) (el1.perm pr) (.inr ⟨none_,pr.trans pm⟩)))
   ·exact A0d (A0d (h _ es1 _ t2 _ b2 r2 el1 (.inr ⟨none_,pm⟩)))
  cases hpl:t1.plain with
  | true =>
   rw [A0i rfl];refine A0a ?_;rw [hashByValue_scannable 8 hsc];refine A0d ?_;exact tail { t1 with plain:=false } (SetTable.fits_plain_off ft) ld rfl
  | false =>
   rw [A0e A0o];refine A0a (A0d ?_);exact tail t1 ft ld hpl
open PySem.Spec
theorem cM.obj (x:cM P w H h a o):∃ ob,h.get? a=some ob:=by
 cases o with
 | lst xs=>obtain ⟨_,_,_,_,e⟩:=x;exact ⟨_,e⟩
 | tup xs=>obtain ⟨_,_,_,ob,e,_⟩:=x;exact ⟨ob,e⟩
 | dK kvs=>obtain ⟨_,_,_,_,ob,_,_,e,_⟩:=x;exact ⟨ob,e⟩
 | dT kvs=>obtain ⟨_,_,_,_,ob,_,_,e,_⟩:=x;exact ⟨ob,e⟩
 | set S n=>obtain ⟨ob,_,_,_,e,_⟩:=x;exact ⟨ob,e⟩
 | ins C dx fs=>obtain ⟨_,_,_,e,_⟩:=x;exact ⟨_,e⟩
 | own y=>exact x
 | xd fs=>obtain ⟨_,⟨ob,_,_,e,_⟩,_⟩:=x;exact ⟨ob,e⟩
 | rng lo hi=>obtain ⟨_,_,_,e⟩:=x;exact ⟨_,e⟩
 | gM ob u=>obtain ⟨e,_⟩:=x;exact ⟨ob,e⟩
 | Y8 ps=>exact ⟨_,x⟩
 | met f y=>exact ⟨_,x⟩
 | ext φ=>obtain ⟨_,e,_⟩:=x;exact e
theorem Inv.a1R (H':Hp) (I:Inv X pins σ H s) (k:∀ b u,s.heap.get? b=some u->h'.get? b=some u) (hs:∀ b u,H b=some u->H' b=some u) (hn:∀ b u,H' b=some u->H b=none->(∀ o,s.heap.get? b≠some o)/\cM X.prog X.w H' h' b u) :
  Inv X pins σ H' { s with heap:=h',toks:=t' }:=by
 have hf:∀ b o,s.heap.get? b=some o->H b=none->H' b=none:=fun b o q n=>by
  cases e:H' b with
  | none=>rfl
  | some u=>exact absurd q ((hn b u e n).1 o)
 refine I.un ⟨fun b u q _ _ _=>k b u q,fun b u q _ _ _=>⟨u.slots,k b u q⟩,fun b u q n _=>hf b u q n,fun b u q _=>⟨u,k b u q⟩,fun b xs q=>hs b _ q,fun b o u q=>hs b _ q,fun b ps q=>⟨#[],by rw [hs b _ q];simp⟩⟩ fun b u e=>?_;cases q:H b with
 | none=>exact (hn b u e q).2
 | some v =>
  have e2:=hs b v q;rw [e] at e2;cases e2;exact (I.hok b _ q).stay (fun c z _ r=>k c z r) (fun c r=>hs c _ r) fun c xs r=>hs c _ r
def tY (p d:Addr):HO:=.ext fun h=>h.IsValuesView p d
theorem Hg (hv:h.IsValuesView p d):cM P w H h p (tY p d) :=
 ⟨hv,(let ⟨o,ho,_⟩:=hv;⟨o,ho⟩),fun h1 h2 ⟨o,ho,r⟩ k=>⟨o,k _ ho,r⟩⟩
theorem RZ (I:Inv X pins σ H s) (e:H a=some 0x24):kvs.length<=sizeLine/\(a==sysModules)=false/\∃ vs ep,KV kvs vs/\s.heap.DictAt (bV X.prog X.w) a vs ep:=by
 obtain ⟨z,hs,vs,rel,o,es,ep,r⟩:=oX I.hok e;exact ⟨z,hs,vs,ep,rel,o,es,r⟩
inductive yc (Q:VK) (x:V) (H1:Hp):Prop
 | mk (a:Addr) (kvs:List 0x2B) (_:x=.ref a) (_:H1 a=some 0x24) (_:∀ p,H1 p=none->Q (.ref p) (upd H1 p (tY p a))):yc Q x H1
def Wy (td:TE):TE:=fun σ H Q=>td σ H fun x H1=>yc Q x H1
theorem Nf {l:Expr} (hl:PE X l tl) (hbase:attributeBase l "values" X.env (eval l X.env)=eval l X.env:=by rfl) (hline:(apos.endLine==cpos.line)=true:=by rfl) :
  PE X (.Call (.Attribute l "values" apos) [] [] cpos) (Wy tl):=by
 intro pins s σ H Q I h;refine A2V hbase hline (cL (hl pins s σ H _ I h) fun v s1 zq=>?_);obtain ⟨x,H1,I1,r1,a,kvs,ex,ea,q⟩:=zq;subst ex;cases r1;obtain ⟨z,hs,vs,ep,rel,dat⟩:=RZ I1 ea;have hT:s1.TypeIs (.ref a) "dict":=dat.dictOf.typeIs;obtain ⟨o,es,ho,hx,r⟩:=id dat;refine ⟨"dict", "dict.values",A1W,A2Q,PySem.F.type_dict_values,hT,(fun b e=>by injection e with e;subst e;exact ⟨o,ho,hx.2.1⟩),?_⟩;refine A1w rfl (A3w ?_);refine A3d A2Q hT PySem.F.entry_dict_values (A4W _) (meets_dict_values (bV X.prog X.w) a hs) ⟨⟨vs,dat.dictOf⟩,?_⟩;exact ⟨.ref s1.heap.objs.size,_,I1.laid (o:=tY s1.heap.objs.size a) (t':=s1.toks) (fun b o q=>A0b _ q) (A0f _) (Hg ⟨_,A0n _ rfl,rfl,rfl⟩),rfl,q _ (I1.hok.fresh (A0f _))⟩
theorem K8:∀ {κ:Type}{kvs:List (κ×V)}{vs:List (κ×Value)},KV kvs vs->Vals (kvs.map (·.2)) (vs.map (·.2))
 | _,[],[],_=>.nil
 | _,_::_,_::_,.cons h t=>.cons h.2 (K8 t)
inductive S5 (xs:List V) (H:Hp) (Q:VK):Prop
 | mk (v a:Addr) (kvs:List 0x2B) (_:xs=[.ref v]) (_:H v=some (tY v a)) (_:H a=some 0x24) (_:∀ p,H p=none->Q (.ref p) (upd H p (.lst (kvs.map (·.2))))):S5 xs H Q
theorem Hh (hin:X.A.handled=none):gZ X (.type "list") S5:=by
 intro pins s σ H xs us Q I r h;obtain ⟨v,a,kvs,rfl,hv,ha,q⟩:=h;obtain ⟨u,rfl,ru⟩:=vals1 r;cases ru;obtain ⟨z,hs,vs,ep,rel,dat⟩:=RZ I ha;have vw:s.heap.IsValuesView v a:=(I.hok _ _ hv).1;have hlen:vs.length=kvs.length:=rel.length.symm;refine kdl_call (kdl_values (knd:=bV X.prog X.w) (kvs:=vs) (ep:=ep)) hin ⟨vw,dat⟩ 0x2 fun h' tk acc c hk hS hI=>?_;have ev:acc.toList=vs.map (·.2):=kdl_vals_eq acc.toList (by rw [A0I,hI.1]) fun j w hj=>hI.2 j w (by simpa using hj);have hl:(kvs.map (·.2)).length<=sizeLine:=by rw [cg];exact z
 have hv2:=K8 rel;rw [<- ev] at hv2;exact ⟨.ref s.heap.objs.size,_,I.laid (o:=.lst (kvs.map (·.2))) (t':=tk) hk (A0f _) ⟨hl,acc.toList,c,hv2,hS⟩,rfl,q _ 0x48⟩
inductive S6 (xs:List V) (H:Hp) (Q:VK):Prop
 | mk (a:Addr) (kvs:List 0x2B) (_:xs=[.ref a]) (_:H a=some 0x24) (_:∀ p,H p=none->Q (.ref p) (upd H p 0x24)):S6 xs H Q
theorem jT:gZ X (.type "dict") S6:=by
 intro pins s σ H xs us Q I r h;obtain ⟨a,kvs,rfl,ha,q⟩:=h;obtain ⟨u,rfl,ru⟩:=vals1 r;cases ru;obtain ⟨z,hs,vs,rel,dd⟩:=oX I.hok ha;have hlen:vs.length=kvs.length:=rel.length.symm;have low:(s.heap.objs.size==sysModules)=false:=by
  obtain ⟨m,F⟩:=I.fr;have h1:sysModules<X.base.objs.size:=modules_low I.mod.nolimit;have h2:X.base.objs.size<=X.env.locals:=F.above;have h3:X.env.locals<s.heap.objs.size:=F.ns.lt;exact A1H.mpr (A3a (A5k (A0p h1 h2) h3))
 refine kt_call_dict (knd:=bV X.prog X.w) hs dd 0x2 fun h' hd hb=>?_;exact ⟨.ref s.heap.objs.size,_,I.laid (o:=.dK kvs) (t':=s.toks) (fun b o e=>hb.extBut _ _ (A0y (A0q e)) (A0b _ e)) (A0f _) ⟨z,low,vs,rel,hd⟩,rfl,q _ 0x48⟩
def txt:Value->Str
 | .str z _=>z
 | _=>Str.empty
def jq (P:Program) (w:World) (a:Addr) (zs:List Str):HO:=.ext fun h=>∃ es ep t,cX w h a es ep t/\ElemsOf (strKind P w) es.toList/\(es.toList.map fun e=>txt e.2).Perm zs/\zs.Nodup
theorem K9 {t:SetTable} (r:cX w h a es ep t) (el:ElemsOf (strKind P w) es.toList) (pm:(es.toList.map fun e=>txt e.2).Perm zs) (nd:zs.Nodup):cM P w H h a (jq P w a zs):=by
 refine ⟨⟨es,ep,t,r,el,pm,nd⟩,?_,fun h1 h2 p k=>?_⟩
 ·obtain ⟨o,ho,_⟩:=r.o;exact ⟨o,ho⟩
 ·obtain ⟨es,ep,t,r,x⟩:=p;exact ⟨es,ep,t,r.at fun o e=>k _ e,x⟩
theorem Inv.drew (I:Inv X pins σ H s) (d:Drawn):Inv X pins σ H { s with drawn:=d } :=
 I.step (h':=s.heap) (H':=H) (g':=s.gens) (t':=s.toks) (d':=d) (ch:=[]) (fun b hb=>by simp at hb) (fun b o _ _ _ e _=>e) (fun b o _ _ _ e _=>⟨o.slots,e⟩) (fun b o _ e n=>n) (fun b o _ e=>⟨o,e⟩) (fun b xs e=>e) (fun b u xs e=>e) (fun b ps e=>⟨#[],by rw [e];simp⟩) (fun m hm=>hm) I.hok I.bare
theorem Wz {l:List (Int×Value)} (h:ElemsOf (strKind P w) l):∀ v∈l.map (·.2),∃ t,v=.str (txt v) t:=fun v hv=>by
 obtain ⟨e,he,rfl⟩:=A0m.mp hv;obtain ⟨⟨k,hk,_⟩,_⟩:=h e he;obtain ⟨t,ht⟩:=A2R hk;exact ⟨t,by rw [ht];rfl⟩
inductive Dn (P:Program) (w:World) (xs:List V) (H:Hp) (Q:VK):Prop
 | mk (a:Addr) (zs:List Str) (_:xs=[.ref a]) (_:H a=some (jq P w a zs)) (_:zs.length<64) (_:∀ (l:Addr) (ys:List Str),H l=none->ys.Perm zs->ys.Pairwise (fun x y=>x.cps.toList<y.cps.toList)->Q (.ref l) (upd H l (.lst (ys.map V.str)))):Dn P w xs H Q
theorem Dp (h:(es.toList.map fun e=>txt e.2).Perm zs):es.size=zs.length:=by have:=h.length_eq;simpa using this
theorem qC (hin:X.A.handled=none):gZ X (.builtin "sorted") (Dn X.prog X.w):=by
 intro pins s σ H xs us Q I r h;obtain ⟨a,zs,rfl,ha,h64,q⟩:=h;obtain ⟨u,rfl,ru⟩:=vals1 r;cases ru;obtain ⟨⟨es,ep,t,raw,el,pm,nd⟩,_⟩:=I.hok _ _ ha;have hz:=Dp pm;refine N6 (Dl (E:=fun _ _=>False) hin raw fun h1 tk d vs k1 pv=>?_);have lv:vs.length=zs.length:=by rw [pv.length_eq,cg,A0I,hz]
 have str:∀ v∈vs,∃ t,v=.str (txt v) t:=fun v hv=>Wz el v (pv.mem_iff.mp hv);have pz:(vs.map txt).Perm zs:=by
  refine (pv.map txt).trans ?_;rw [A0R];exact pm
 have ndv:(vs.map txt).Nodup:=pz.nodup_iff.mpr nd;have at_:∀ i (hi:i<vs.length),∃ t,vs.getD i Value.none=.str (txt vs[i]) t:=fun i hi=>by
  obtain ⟨t,ht⟩:=str vs[i] (A0N hi);refine ⟨t,?_⟩;rw [qT,ju hi];exact ht
 have gT:∀ i (hi:i<vs.length),txt (vs.getD i Value.none)=txt vs[i]:=fun i hi=>by rw [qT,ju hi];rfl
 refine ⟨by lia,fun i j=>decide ((txt (vs.getD i Value.none)).cps.toList<(txt (vs.getD j Value.none)).cps.toList),oneType',⟨fun i j k _ _ _ x y=>?_,fun i j hi hj hij c=>?_⟩,fun h2 s' R _ hR=>?_,fun i j s' C hi hj hij _ hC=>?_,fun p tk2 h2 e hP hU k2 hS=>?_⟩
 ·exact A0j (List.lt_trans (sS x) (sS y))
 ·have c':=A2g c;rw [gT i hi,gT j hj] at c' ⊢;have ne:txt vs[i]≠txt vs[j]:=by
   have pw:=A1f.mp ndv;have li:i<(vs.map txt).length:=by rw [cg];exact hi
   have lj:j<(vs.map txt).length:=by rw [cg];exact hj
   rcases A4R hij with g | g
   ·have:=pw i j li lj g;simpa using this
   ·have:=pw j i lj li g;intro z;exact this (by simpa using z.symm)
  refine A0j ?_;rcases List.le_iff_lt_or_eq.mp (List.not_lt.mp c') with z | z
  ·exact z
  ·exact absurd (qb z.symm) ne
 ·refine kas_kind (T:=Value.type "str") h2 (fun v hv=>?_) 0x7 (by rfl) hR;obtain ⟨t,ht⟩:=str v hv;rw [ht];exact fun A Q E s _ q=>A0d q
 ·obtain ⟨t1,e1⟩:=at_ i hi;obtain ⟨t2,e2⟩:=at_ j hj;have g:=hC s'.toks;dsimp only at g;rw [e1,e2] at g ⊢;exact kas_lt_str g
 ·have lp:p.toList.length=vs.length:=by rw [A0I];exact hP.size
  have pmv:(0x26).Perm vs:=by
   have q1:p.toList.Perm (List.range vs.length):=by have:=A2z.mp hP;simpa using this
   have q2:=q1.map fun i=>vs.getD i Value.none;have ro:=rQ vs;have e0:((List.range vs.length).toArray.toList.map fun i=>vs.getD i Value.none)=(List.range vs.length).map fun i=>vs.getD i Value.none:=by simp
   rw [e0] at ro;rw [ro] at q2;exact q2
  have hv:Vals (((0x26).map txt).map V.str) 0x26:=by
   generalize hw:0x26=ws at pmv;have sw:∀ v∈ws,∃ t,v=.str (txt v) t:=fun v hv=>str v (pmv.mem_iff.mp hv);clear hw pmv hS
   induction ws with
   | nil=>exact .nil
   | cons x ws ih =>
    obtain ⟨t,ht⟩:=sw x A0h;exact .cons ⟨t,ht⟩ (ih fun v hv=>sw v (jh _ hv))
  have gl:∀ o,s.heap.get? h1.objs.size≠some o:=fun o g=>absurd (A0q (k1 _ _ g)) (A1p _);have hn:H h1.objs.size=none:=by
   cases g:H h1.objs.size with
   | none=>rfl
   | some u =>
    obtain ⟨ob,g2⟩:=(I.hok _ _ g).obj;exact absurd g2 (gl ob)
  refine ⟨.ref h1.objs.size,upd H h1.objs.size (.lst (((0x26).map txt).map V.str)),(I.drew d).a1R (t':=tk2) _ (fun b u g=>k2 b u (k1 b u g)) (fun b u g=>by rw [ak (aq g hn)];exact g) (fun b u g n=>?_),rfl,q _ _ hn ?_ ?_⟩
  ·by_cases hb:b=h1.objs.size
   ·subst hb;rw [ao] at g;cases g;exact ⟨gl,by rw [cg,cg,cg,lp,A1e];lia,_,e,hv,hS⟩
   ·rw [ak hb,n] at g;cases g
  ·exact (pmv.map txt).trans pz
  ·rw [A1f];intro i j hi hj hij;rw [cg,cg] at hi hj;simp only [A3t];have m1:p.toList[i]=pat p i:=by
    have hs:i<p.size:=by rw [<- A0I];exact hi
    unfold pat;rw [Array.getD,A5l hs];simp
   have m2:p.toList[j]=pat p j:=by
    have hs:j<p.size:=by rw [<- A0I];exact hj
    unfold pat;rw [Array.getD,A5l hs];simp
   rw [m1,m2];exact sS (hU i j hij 0x2)
def mU (zs:List Str) (z:Str):List Str:=if z∈zs then zs else zs++[z]
theorem Hi (h:zs.Nodup):(mU zs z).Nodup:=by
 unfold mU
 split
 ·exact h
 ·rename_i q
  rw [A1Z];refine ⟨h,by simp,fun a ha b hb=>?_⟩;rw [A0c.mp hb];exact fun e=>q (by rw [<- e];exact ha)
theorem S7:(mU zs z).length<=zs.length+1:=by
 unfold mU
 split
 ·lia
 ·simp
def lE (l:List Str):List Str:=l.foldl mU []
theorem yd (l:List Str) (z:Str):lE (l++[z])=mU (lE l) z:=by unfold lE;rw [List.foldl_append];rfl
theorem qD (l:List Str):(lE l).length<=l.length:=by
 have g:∀ (l:List Str) (a:List Str),(l.foldl mU a).length<=a.length+l.length:=by
  intro l
  induction l with
  | nil=>intro a;exact A0f _
  | cons x r ih =>
   intro a;rw [A1t,pN];have h1:=ih (mU a x);have h2:=S7 (zs:=a) (z:=x);lia
 have:=g l [];unfold lE
 simpa using this
def lF (P:Program) (w:World) (h:Heap) (a:Addr) (zs:List Str):Prop:=∃ es ep t,cX w h a es ep t/\ElemsOf (strKind P w) es.toList/\(es.toList.map fun e=>txt e.2).Perm zs/\zs.Nodup
theorem lF.at (x:lF P w h a zs) (k:∀ o,h.get? a=some o->h'.get? a=some o):lF P w h' a zs:=by
 obtain ⟨es,ep,t,r,q⟩:=x;exact ⟨es,ep,t,r.at k,q⟩
theorem lF.typeIs (x:lF P w s.heap a zs):s.TypeIs (.ref a) "set":=let ⟨_,_,_,r,_⟩:=x;r.typeIs
section
theorem S8 {l:List (Int×Value)} (h:ElemsOf 0x2E l) {e:Int×Value} (he:e∈l):(0x2E).is z e.2=true↔txt e.2=z:=by
 obtain ⟨⟨k,hk,_⟩,_⟩:=h e he;obtain ⟨t,ht⟩:=A2R hk;rw [ht]
 constructor
 ·intro q;have q':Value.isStrOf z (Value.str k t)=true:=q;obtain ⟨t',ht'⟩:=A2R q';injection ht' with h1 h2
 ·intro q;have e:k=z:=q;subst e;exact A4e prog w k t
theorem a1S {Q:Bool->Shared->Prop} (hs:lF prog w s.heap a zs) (room:zs.length+1<scanBound)
  (h:∀ h' b,Heap.SameBut a s.heap h'->lF prog w h' a (mU zs z)->Q b { s with heap:=h' }):wpAny 0xC A (setAddHashed a (.str z tk) ((0x2E).hash z)) Q E s:=by
 obtain ⟨es,ep,t,r,el,pm,nd⟩:=hs;have hz:=Dp pm;refine Wx r el 0x2 fun h' es' ep' t' b sb r' el' q=>h h' b sb ⟨es',ep',t',r',el',?_,Hi nd⟩;rcases q with ⟨⟨e,he,q⟩,rfl⟩ | ⟨no,pm'⟩
 ·have hm:z∈zs:=pm.mem_iff.mp (A0m.mpr ⟨e,he,(S8 el he).mp q⟩);unfold mU;rw [A0i hm];exact pm
 ·have hm:z∉zs:=fun c=>by
   obtain ⟨e,he,q⟩:=A0m.mp (pm.mem_iff.mpr c);have:=(S8 el he).mpr q;rw [no e he] at this;cases this
  unfold mU;rw [A0e hm];refine (pm'.map fun e=>txt e.2).trans ?_;rw [jP];exact pm.append_right _
theorem S9 {Q:Bool->Shared->Prop} (hs:lF prog w s.heap a zs) (room:zs.length+1<scanBound)
  (h:∀ h' b,Heap.SameBut a s.heap h'->lF prog w h' a (mU zs z)->Q b { s with heap:=h',toks:=s.toks+1 }):wpAny 0xC A (setAdd a (.str z tk)) Q E s:=by
 unfold setAdd;refine A1S (A0a ((0x2E).pyHash (k:=z) (A4e prog w z tk) ?_));exact a1S (s:={ s with toks:=s.toks+1 }) hs room h
theorem Ng (hs:lF prog w s.heap a zs) (room:zs.length+1<scanBound)
  (h:∀ h',Heap.SameBut a s.heap h'->lF prog w h' a (mU zs z)->Q .none { s with heap:=h',toks:=s.toks+1 }):wpAny 0xC A (call (.builtin "set.add") [.ref a,.str z tk]) Q E s:=by
 refine A1a PySem.F.slot_set_add hs.typeIs PySem.F.entry_set_add ?_ (PySem.F.args_set_add_2 _ _);unfold Builtin.«set.add» Builtin.Frozenset.oneOther;simp only [List.isEmpty_nil,bind_assoc];unfold Builtin.Frozenset.addrOf;refine A0a (A0d ?_)
 try dsimp only
 refine A0a (A0d ?_)
 try dsimp only
 refine A0a (S9 hs room fun h' b sb hT=>?_);exact A0d ⟨_,rfl,h h' sb hT⟩
def eU (w:World):Obj:={ cls:=.type "set",dict:=none,data:=.set #[] 0 (.fresh 0 0 (!w.params.followText "set-order")) }
theorem Ka (e:h.get? a=some (eU w)):lF prog w h a []:=by
 refine ⟨#[],0,_,⟨⟨_,e,⟨rfl,rfl,rfl⟩,rfl⟩,by rfl,by decide,fun b=>?_,fun z=>absurd z 0xA⟩,fun e he=>by simp at he,A4T _,List.nodup_nil⟩
 show (!w.params.followText "set-order")=true
 rw [b];rfl
theorem Sd (h:Q 0x17 { s with heap:=s.heap.push (eU w) }):wpAny 0xC A (newSet (.type "set")) Q E s:=by
 unfold newSet setsByText;refine A0a (A0a (A2h (A0d ?_)));dsimp only [newObj];exact A0a (wpAny_alloc (A0d h))
theorem Hj (zs:List Str) (i:Nat):(lE (zs.take i)).length<=zs.length:=A0M (qD _) (by rw [A0G];lia)
variable {R:Result->Shared->Prop}{I:Addr}{wr:List Addr}{G:Array GenState->Array GenState->Prop}{P:Nat->Value->Prop}{St:Nat->Shared->Prop}
theorem Hl (W:WalksS prog w A.in1 I fp wr G n P St) (S:Addr) (hSf:S∉fp) (zs:List Str) (hn:zs.length=n) (hval:∀ i v,P i v->∃ z t,zs[i]?=some z/\v=.str z t) (hb:n+1<scanBound) :
  ∀ (k i:Nat) (s:Shared),n - i=k->i<=n->St i s->lF prog w s.heap S (lE (zs.take i))->(∀ s',Moved (S::wr) G s s'->lF prog w s'.heap S (lE zs)->R (.ok (.ret .none)) s') ->
   codeAny 0xC A (.builtin "set.update.loop" ⟨[.ref S,.ref I],[]⟩) R s:=by
 have hSw:S∉wr:=fun h=>hSf (W.sub _ h);have sub:∀ b∈wr,b∈S::wr:=fun b hb=>jh _ hb;intro k
 induction k with
 | zero =>
  intro i s hk hi st hS hR;have hin:i=n:=by lia
  subst hin;refine A3h A3y ?_;rw [A2L A2r _]
  show wpAny _ A.in1 (pyNext (.ref I) >>= _) _ _ s
  refine A0a (W.done s _ _ st fun s' hm=>?_);rw [<- hn,A1h] at hS;exact A0d (hR s' (hm.mono sub) (hS.at fun o e=>hm.heap S _ hSw e))
 | succ k ih =>
  intro i s hk hi st hS hR;have hlt:i<n:=by lia
  refine A3h A3y ?_;rw [A2L A2r _]
  show wpAny _ A.in1 (pyNext (.ref I) >>= _) _ _ s
  refine A0a (W.item i s _ _ hlt st fun v s' hP st' hm=>?_);obtain ⟨z,t,hz,rfl⟩:=hval i v hP;have hS':=hS.at fun o e=>hm.heap S _ hSw e
  show wpAny _ A.in1 (holding [Value.str z t] (setAdd S (.str z t)) >>= _) _ _ s'
  have tb:=Hj zs i;refine A0a (A1S (S9 hS' 0x2 fun h' b sb hT=>?_));rw [<- yd] at hT;have e1:zs.take i++[z]=zs.take (i+1):=by rw [A1o,hz];rfl
  rw [e1] at hT;refine A0d ⟨A4i A2r _,ih (i+1) _ 0x2 hlt (W.frame _ s' _ _ st' (A2b _) fun b hb o e=>?_) hT fun s2 hm2 hS2=>?_⟩
  ·rw [sb.2 b (fun h:b=S=>hSf (by rw [<- h];exact hb))];exact e
  ·refine hR s2 (Moved.trans W.gtrans ((hm.mono sub).then_heap (A2b _) fun b o hb e=>?_) hm2) hS2;rw [sb.2 b (fun h:b=S=>hb (by rw [h];exact A0h))];exact e
theorem WD (a:Value) {Q₁:Value->Shared->Prop} (h:Q₁ 0x17 { s with heap:=s.heap.push (eU w) }) :
  codeAny 0xC A (.call (.builtin "set.__new__") ⟨[.type "set",a],[]⟩) (wants Q₁ E) s:=by
 refine A5p ?_
 show wpAny _ A.in1 (do checkBuiltinCall "set.__new__" ⟨[.type "set",a],[]⟩;again (.builtin "set.__new__" ⟨[.type "set",a],[]⟩)) _ _ s
 refine A0a (wpAny_of_eq (PySem.F.newCall_set_1 a) (A0d ⟨A4i PySem.F.plain_set_new _,A3h PySem.F.entry_set_new ?_⟩));rw [A2L PySem.F.plain_set_new _];unfold Builtin.«set.__new__» Builtin.Frozenset.newClass;have hsub:=sub_set_self;obtain ⟨hp,g,d,tk,os⟩:=s;dsimp only
 wp_walk
 refine A2h (A0d ?_);dsimp only;simp only [newObj];exact A0a (wpAny_alloc (A0d (A0d h)))
set_option maxRecDepth 100000 in
theorem Nh (hh:A.handled=none) (hl:s.heap.IsList l its.toArray) (hi:StrsAre its zs) (hb:zs.length+1<scanBound)
  (h:∀ (h':Heap) (tk:Nat),lF prog w h' s.heap.objs.size (lE zs)->(∀ b o,s.heap.get? b=some o->h'.get? b=some o)->Q 0x17 { s with heap:=h',toks:=tk }) :
  wpAny 0xC A (call (.type "set") [.ref l]) Q E s:=by
 obtain ⟨c,tl,hmro⟩:=A1U.mro;have m1:=A1U.made;have m2:=A1U.sub;refine wpAny_call (A5p ?_)
 show wpAny 0xC _ (callAny (.type "set") ⟨[.ref l],[]⟩) _ _ _
 refine A0d ⟨Code.quiet_builtin _ 0x6,A3h PySem.F.entry_type_call ?_⟩;rw [Around.under_plain (weight_type_call_type "set" [.ref l] []) rfl];have m3:=A1U.notType;have m4:=A1U.canCreate;have m5:=PySem.F.typeCall_set_1 (.ref l)
 repeat (any_goals (first | assumption | wp_step))
 refine A3r (WD (.ref l) (E:=E) (Q₁:=fun obj s₁=>obj=.ref s.heap.objs.size/\s₁={ s with heap:=s.heap.push (eU w) }) ⟨rfl,rfl⟩) fun r s₁ hr=>?_;rcases r with e | fl
 ·exact hr
 rcases fl with _ | _ | _ | obj
 rotate_right
 ·obtain ⟨rfl,rfl⟩:=hr;have hS:(s.heap.push (eU w)).get? s.heap.objs.size=some (eU w):=A0n _ rfl;have hT:Shared.TypeIs { s with heap:=s.heap.push (eU w) } 0x17 "set":=⟨_,hS,rfl⟩;have i1:=A1U.init.lookup;have i2:=A1U.init.bind 0x17
  repeat (any_goals (first | assumption | wp_step))
  refine A3r (codeAny_call_builtin (R:=wants (fun r s₂=>r=.none/\∃ h' tk,s₂={ s with heap:=h',toks:=tk }/\lF prog w h' s.heap.objs.size (lE zs)/\0x51) E) A1U.init.plain PySem.F.entry_set_init (check_set_init_1 hT ?_)) fun r₂ s₂ hr₂=>?_
  ·obtain ⟨ol,hol,hcl,nl,hdl⟩:=hl;obtain ⟨ocls,odict,odata,oslots⟩:=ol;simp only at hcl hdl;subst hcl;subst hdl;have hol':(s.heap.push (eU w)).get? l=some { cls:=.type "list",dict:=odict,data:=.seq its.toArray nl,slots:=oslots }:=A0b _ hol;have u1:=PySem.F.sub_list_set;have u2:=PySem.F.sub_list_frozenset;have u3:(Value.type "list"==Value.type "dict")=false:=by decide
   have hl1:(s.heap.push (eU w)).IsList l its.toArray:=⟨_,hol',rfl,nl,rfl⟩;unfold Builtin.«set.__init__» noKeywords Builtin.Frozenset.updateFrom;generalize hPI:pyIter=PI
   wp_walk
   subst hPI;refine A3m hl1 ?_;refine A0a (wpAny_runValue ?_);have lS:l<s.heap.objs.size:=A0q hol;have h3:A.in1.in1.in1.handled=none:=by simp [hh]
   have ne_:l≠(s.heap.push (eU w)).objs.size:=by
    rw [A1R];exact A0y (A2n lS)
   have nS:s.heap.objs.size∉[(s.heap.push (eU w)).objs.size,l]:=by
    rw [A1R];simp only [List.mem_cons,A0c,A0L,A1N,not_or];exact ⟨A0y (A2U _),A3a lS⟩
   have hz:its.length=zs.length:=hi.length;have hval:∀ (i:Nat) (v:Value),its.toArray[i]?=some v->∃ z t,zs[i]?=some z/\v=.str z t:=fun i v hv=>by
    have hv':its[i]?=some v:=by simpa using hv
    clear hv hol hol' hl1 hz hb h
    induction hi generalizing i with
    | nil=>simp at hv'
    | cons y t r ih =>
     cases i with
     | zero=>simp only [List.getElem?_cons_zero,Option.some.injEq] at hv';exact ⟨y,t,rfl,hv'.symm⟩
     | succ j=>exact ih j (by simpa using hv')
   refine Hl ((Walks.list h3 _ l ne_ its.toArray).toS) s.heap.objs.size nS zs (by simp [hz]) hval (by simpa [hz] using hb) _ 0 _ rfl (A0Z _) ⟨⟨_,A0n _ rfl,rfl,rfl⟩,(hl1.push _)⟩ ?hS0 ?hR
   case hS0=>exact Ka (A0b _ hS)
   case hR =>
    intro s' hm hS';obtain ⟨h',g',d',tk',os'⟩:=s';have eg:g'=s.gens:=hm.gens;have ed:d'=s.drawn:=hm.drawn;have eo:os'=s.os:=hm.os;subst eg;subst ed;subst eo;refine A0d ?_
    show wpAny _ _ (ret Value.none) _ _ _
    refine A0d ⟨rfl,h',tk',rfl,hS',fun b o e=>?_⟩;have hlt:=A0q e;have b1:b≠s.heap.objs.size:=A0y hlt;have b2:b≠(s.heap.push (eU w)).objs.size:=by
     rw [A1R];exact A0y (A2n hlt)
    exact hm.heap b o (by simp only [List.mem_cons,A0c,A0L,A1N,not_or];exact ⟨b1,b2⟩) (A0b _ (A0b _ e))
  ·rcases r₂ with e | fl₂
   ·exact hr₂
   rcases fl₂ with _ | _ | _ | r
   rotate_right
   ·obtain ⟨rfl,h',tk,rfl,hS',hk'⟩:=hr₂
    repeat (any_goals (first | assumption | wp_step))
    exact h _ _ hS' hk'
   all_goals exact hr₂.elim
 all_goals exact hr.elim
inductive Sg (X:Cx) (xs:List V) (H:Hp) (Q:VK):Prop
 | mk (p:Addr) (ss:List Str) (_:xs=[.ref p]) (_:bT X.K H p (ss.map V.str)) (_:ss.length<1000) (_:∀ l,H l=none->Q (.ref l) (upd H l (jq X.prog X.w l (lE ss)))):Sg X xs H Q
theorem Ho (hin:X.A.handled=none):gZ X (.type "set") (Sg X):=by
 intro pins s σ H xs us Q I r h;obtain ⟨p,ss,rfl,hq,hl,q⟩:=h;obtain ⟨u,rfl,ru⟩:=vals1 r;cases ru;obtain ⟨its,rv,pl,hz⟩:=I.list hq;refine Nh hin pl.isList (z7 rv) (by unfold scanBound;lia) fun h' tk hT hk=>?_;obtain ⟨es,ep,t,r0,el,pm,nd⟩:=hT;exact ⟨.ref s.heap.objs.size,_,I.laid (o:=jq X.prog X.w s.heap.objs.size (lE ss)) (t':=tk) hk (A0f _) (K9 r0 el pm nd),rfl,q _ 0x48⟩
end
end L2
namespace PySem
theorem lG:entryFor table "dict_valueiterator.__iter__"=some Builtin.«dict_keyiterator.__iter__» :=
 A4P (id':="dict_keyiterator.__iter__") (by kernel_rfl) rfl 0x6 (by kernel_rfl)
end PySem
namespace L2
open PySem PySem.Spec PyProof.Rows PySem.W
def Itv (a:Addr) (o:Obj) (kvs:List 0x61):It:=⟨fun i H=>H a=some 0x63/\i<kvs.length,fun i H v H'=>H'=H/\∃ kv,kvs[i]?=some kv/\v=kv.2,fun i H=>H a=some 0x63/\kvs.length<=i⟩
section
variable {o:Obj}
theorem Dr (it:Addr) {es:Array DictEntry} (hd:o.data=.dict es ep) :
  Turn P w K tg (Itv a o kvs) [it] it (fun i h=>h.IsValIter it a i kvs.length ep) where
 mem:=by simp
 obj:=fun i h st b hb=>by
  have e:b=it:=by simpa using hb
  subst e;obtain ⟨ob,e,c,d⟩:=st;exact ⟨ob,e,fun v z=>by rw [d] at z;cases z⟩
 keep:=fun i h h' st k=>by
  obtain ⟨ob,e,r⟩:=st;exact ⟨ob,k it 0xA ob e,r⟩
 item:=by
  intro X hP hw hK hc i pins s σ H E I hf st hg;subst hP hw hK;obtain ⟨f0,f1,f2,f3,f4,f5⟩:=hf it 0xA;obtain ⟨hg1,hg2⟩:=hg;obtain ⟨hs,vs,rel,dat⟩:=rG I hg1 hd;have hl:kvs.length=vs.length:=rel.length;obtain ⟨u,hu,ru⟩:=rel.at (ju hg2);rw [hl] at st;refine wpAny_pyNext_values_item st dat hu fun h' hit' hsb=>?_;have I1:Inv X pins σ H { s with heap:=h' }:=I.turned (t':=s.toks) (fun b ob hb e=>hsb.extBut b ob hb e) f0 f1 f3 f4 f5;obtain ⟨ob,e,cc,d⟩:=id hit';refine ⟨_,rfl,J9 (s:={ s with heap:=h' }) e cc d 0x7 ⟨(kvs[i]).2,H,I1,ru,⟨rfl,_,ju hg2,rfl⟩,?_,fun b hb=>(hf b hb).1⟩⟩;rw [hl];exact hit'
 done:=by
  intro X hP hw hK hc i pins s σ H E I hf st hg;subst hP hw hK;obtain ⟨f0,f1,f2,f3,f4,f5⟩:=hf it 0xA;obtain ⟨hg1,hg2⟩:=hg;obtain ⟨hs,vs,rel,dat⟩:=rG I hg1 hd;have hl:kvs.length=vs.length:=rel.length;rw [hl] at st hg2;exact wpAny_pyNext_values_end (I.ok.hd hc) st dat (A2e hg2) fun h' eb=>⟨rfl,I.turned (t':=s.toks) (fun b ob hb e=>eb b ob hb e) f0 f1 f3 f4 f5⟩
 self:=fun A i s Q E st h=>by
  have hT:s.TypeIs (.ref it) "dict_valueiterator":=st.typeIs;refine A3W hT A3z (A1a A3z hT PySem.lG ?_ (PySem.F.args_dict_valueiterator_iter_1 _))
  show wpAny _ _ (ret (.ref it)) _ _ s
  exact A0d ⟨_,rfl, "dict_valueiterator",_,hT,PySem.F.slot_dict_valueiterator_next.lookup,h⟩
inductive Kc (R:It->Hp->Prop) (x:V) (H1:Hp):Prop
 | mk (a:Addr) (o:Obj) (kvs:List 0x2B) (_:x=.ref a) (_:H1 a=some 0x63) (_:R (Itv a o kvs) H1):Kc R x H1
def a1T (tl:TE):TI:=fun σ H R=>tl σ H fun x H1=>Kc R x H1
theorem WK {l:Expr} (hl:PE X l tl) (hbase:attributeBase l "values" X.env (eval l X.env)=eval l X.env:=by rfl) (hline:(apos.endLine==cpos.line)=true:=by rfl) :
  PI X tg (.Call (.Attribute l "values" apos) [] [] cpos) (a1T tl):=by
 intro pins s σ H R I h;refine A2V hbase hline (cL (hl pins s σ H _ I h) fun v s1 zq=>?_);obtain ⟨x,H1,I1,r1,a,o,kvs,ex,ea,q⟩:=zq;subst ex;cases r1;obtain ⟨ho,z,hs,vs,rel,o',es,ep,ho',hx,hdd,r⟩:=id (I1.hok _ _ ea);rw [ho] at ho';cases ho';have dat:s1.heap.DictAt (bV X.prog X.w) a vs ep:=⟨o,es,ho,hx,hdd,r⟩;have hT:s1.TypeIs (.ref a) "dict":=dat.dictOf.typeIs;refine ⟨"dict", "dict.values",A1W,A2Q,PySem.F.type_dict_values,hT,(fun b e=>by injection e with e;subst e;exact ⟨o,ho,hx.2.1⟩),?_⟩;refine A1w rfl (A3w ?_);refine A3d A2Q hT PySem.F.entry_dict_values (A4W _) (meets_dict_values (bV X.prog X.w) a hs) ⟨⟨vs,dat.dictOf⟩,?_⟩;have hlen:kvs.length=vs.length:=rel.length;have I2:Inv X pins σ H1 { s1 with heap:=s1.heap.push { cls:=.type "dict_values",data:=.fields #[.ref a] } }:=I1.kept (t':=s1.toks) fun b o e=>A0b _ e;have ZS:(s1.heap.push { cls:=.type "dict_values",data:=.fields #[.ref a] }).DictAt (bV X.prog X.w) a vs ep:=dat.at' fun o e=>A0b _ e
 show wpAny _ _ (pyIter (.ref s1.heap.objs.size)) _ _ _
 refine wpAny_pyIter_values (s:={ s1 with heap:=s1.heap.push { cls:=.type "dict_values",data:=.fields #[.ref a] } }) ⟨_,A0n _ rfl,rfl,rfl⟩ ZS ?_;refine ⟨_,[_],_,_,H1,rfl,I2.kept (t':=s1.toks) fun b o e=>A0b _ e,Dr _ hdd,⟨_,A0n _ rfl,rfl,by rw [hlen];rfl⟩,fun b hb=>?_,q⟩;have e:=A0c.mp hb;subst e;exact I2.uG (A0f _) (I2.hok.fresh (A0f _))
end
theorem zL (elt target iter:Expr) (ifs:List Expr) (scope:Scope) (pos:Pos) (it acc:Value) (env:Env) :
  compTurn (.SetComp elt [⟨target,iter,ifs,0⟩] scope pos) 0 it acc env=(do
   standAt iter.pos
   match <- pyNext it with
   | none=>pure (.done .next)
   | some v =>
    letOwnedTupleGo target it v
    assign target env v
    let mut fine:=true
    for d in ifs do
     if fine then fine <- isTrue d env (eval d env)
    if fine then
     (do let u <- eval elt env;standAt elt.pos;let _ <- call (.builtin "set.add") [acc,u])
    again (.compLoop (.SetComp elt [⟨target,iter,ifs,0⟩] scope pos) 0 it acc env)):=by rfl
theorem wI {R:Result->Shared->Prop}{elt target iter ifs rest scope pos it acc env}
  (h0:codeAny 0xC A (.compLoop 0x29 0 it acc env) R s)
  (h:wpAny 0xC A (pyIter it) (fun it' s'=>codeAny 0xC A (.compLoop 0x29 0 it' acc env) R s') (notedBy 0xC A env fun x s'=>R (.error x) s') s) :
  codeAny 0xC A (.compStart 0x29 0 it acc env) R s:=by
 refine A5p ?_
 show wpAny _ _ ((compStart 0x29 0 it acc env).onRaise (fun x=>do noteFrame x env;standAt theWindowsPlace)) _ _ s
 refine wpAny_notedAt ?_;unfold compStart
 show wpAny _ _ (ask >>= _) _ _ s
 refine A0a (A2h (wpAny_ite ?_))
 split
 ·first
   | exact A0a (A0d (A0d (And.intro rfl h0)))
   | exact A0d (And.intro rfl h0)
 ·have go:∀ {Q:Fin->Shared->Prop}{E:Value->Shared->Prop},(∀ it' s',codeAny 0xC A (.compLoop 0x29 0 it' acc env) R s'->Q (.again (.compLoop 0x29 0 it' acc env)) s')->True:=fun _=>trivial;refine A0a (A2Z ?_)
  show wpAny _ _ (standAt iter.pos >>= _) _ _ s
  exact A0a (A2j (A0a (A1d h (fun it' s' h'=>A0d (And.intro rfl h')) fun _ _ x=>x)))
inductive zM (P:Program) (w:World) (J:It) (D:Addr) (σ:St) (k:Nat) (ix:List Nat) (g:TG) (tt:TT) (te:TE) (Q:VK) (H1:Hp):Prop
 | mk (W:Nat->Nat->List Str->Hp->Prop) (_:(∃ m,W 0 m [] (upd H1 D (jq P w D [])))) (_:∀ i m zs H2,W i m zs H2->H2 D=some (jq P w D zs)/\((J.stop i H2/\Q (.ref D) H2)\/(J.go i H2/\∃ N:List Str->Hp->Prop,(∀ zs H',N zs H'->∃ m',m'<m/\W (i+1) m' zs H')/\∀ x H3,J.J8 i H2 x H3->g x (jD σ k ix) H3 fun σ2 H4=>Kp (jD σ k ix) σ2/\tt σ2 H4 fun b H5=>if b=true then te σ2 H5 fun y H6=>∃ z,y=.str z/\H6 D=some (jq P w D zs)/\zs.length<1000/\N (mU zs z) (upd H6 D (jq P w D (mU zs z))) else N zs H5))):zM P w J D σ k ix g tt te Q H1
def a0q (P:Program) (w:World) (k:Nat) (ix:List Nat) (wi:TI) (g:TG) (tt:TT) (te:TE):TE:=fun σ H Q=>wi σ H fun J H1=>∀ D,H1 D=none->zM P w J D σ k ix g tt te Q H1
section
variable {elt:Expr}{ifs:List Expr}{ts fr:List Str}
theorem Ni {ob:HO}{tk:Nat} (S:fO X.N X.env.scope scope ts fr ix) (I:Inv X pins σ H s) (hf:∀ b∈fp,iU X pins H b) (hfp:∀ b∈fp,b<s.heap.objs.size)
  (hD:s.heap.objs.size<=D) (hC:s.heap.objs.size<=C) (hDC:D≠C) (hk:∀ b o,s.heap.get? b=some o->h1.get? b=some o) (hob:cM X.prog X.w (upd H D ob) h1 D ob) {m0:Str->Option Value} (hn:h1.Ns C m0) :
  Inv 0x18 [] (jD σ ts.length ix) (upd H D ob) { s with heap:=h1,toks:=tk }:=by
 have hcl:∀ x∈scope.names,x.2=.free->(X.env.cells.lookup x.1).isSome=true:=fun x hx hfx=>by
  obtain ⟨c,hc⟩:=I.ok.has x.1 (S.frs x hx hfx);rw [hc];rfl
 have Qj:∀ b,s.heap.objs.size<=b->∀ x c,X.env.cells.lookup x=some c->c≠b:=fun b hb x c e z=>by
  obtain ⟨v,q⟩:=I.cell x c e;exact absurd (A0p q.lt (by rw [z];exact hb)) (A1p _)
 have Qk:∀ x,scope.names.lookup x=some .free->∃ c,(ig X.env scope.names []).lookup x=some c/\X.env.cells.lookup x=some c:=fun x hx=>by
  obtain ⟨c,hc⟩:=rE (env:=X.env) scope.names [] (A1g hx);obtain ⟨c',hc'⟩:=lB hc;exact ⟨c',hc',cj hcl hc'⟩
 have Zy:∀ b∈fp,b∉frs X.stack:=fun b hb z=>by
  obtain ⟨_,f1,f2,_⟩:=hf b hb;rcases List.mem_cons.mp (I.yK b z) with e | e
  ·exact f1 e
  ·exact f2 e
 have hCn:H C=none:=I.hok.fresh hC;have hDn:H D=none:=I.hok.fresh hD;refine ⟨0x3F,
  rfl,I.bare,Un.laid hk hD hDn,⟨m0,hn,fun i x v e1 e2 e3=>?_⟩,fun x c e=>?_,?_,fun x c e=>?_,fun p hp=>?_,I.hok.laid hk hD hob,?_⟩
 ·show (relabel scope X.env).kind=_
  exact S.kind
 ·exact I.ok.inj x y c (cj hcl h1) (cj hcl h2)
 ·have hx':(relabel scope X.env).names.lookup x=some .cell\/(relabel scope X.env).names.lookup x=some .free:=hx;have hfree:scope.names.lookup x=some .free:=by
   rcases hx' with q | q
   ·obtain ⟨k,e,z⟩:=iC q;rcases z with z | ⟨z,_⟩
    ·subst z;exact absurd rfl (S.yV _ (A1g e))
    ·rw [e,z]
   ·obtain ⟨k,e,z⟩:=iC q;rcases z with z | ⟨_,z⟩
    ·rw [e,<- z]
    ·cases z
  obtain ⟨c,hc,_⟩:=Qk x hfree;exact ⟨c,hc⟩
 ·exact absurd (show false=true from hfx) 0x7
 ·exact A0y (A0p (hfp b hb) hC)
 ·exact (hf b hb).2.2.2.2.1 x c (cj hcl e)
 ·have f:=hf b hb;rcases f.2.2.2.1 with z | z
  ·exact I.ok.Fo b o e z
  ·exact absurd (A0p (A0q (I.ok.bs b o e).1) z) (A1p _)
 ·obtain ⟨a,i',hj,hi,hσ⟩:=Ci e2;subst hj;have e1':(ts++fr)[ts.length+a]?=some x:=e1;rw [A0S 0x2,Nat.add_sub_cancel_left] at e1';have hN:X.N[i']?=some x:=by
   have q:=A1v (fun l=>l[a]?) S.cap;simp only [jY,e1',hi] at q;exact (A0O q).symm
  have hfree:=S.capf x (wD e1');have hk':=S.frs (x,.free) (A1g hfree) rfl;obtain ⟨m,hnm,hl⟩:=I.loc;obtain ⟨u,r,lk⟩:=hl i' x v hN hσ (.inr hk');refine ⟨u,r,?_⟩;obtain ⟨c,hc,hc'⟩:=Qk x hfree;rcases lk with ⟨z,_⟩ | ⟨_,c2,e4,z⟩
  ·have z':X.env.scope.names.lookup x=some .local:=z;rcases hk' with y | y
   ·have y':X.env.scope.names.lookup x=some .cell:=y;rw [z'] at y';cases y'
   ·have y':X.env.scope.names.lookup x=some .free:=y;rw [z'] at y';cases y'
  ·have hcc:c2=c:=A0O (e4.symm.trans hc');rw [hcc] at z;obtain ⟨o,ho2,hd2⟩:=z;exact .inr ⟨q9 hfree,c,hc,o,hk _ _ ho2,hd2⟩
 ·obtain ⟨v,o,ho2,hd2⟩:=I.cell x c (cj hcl e);exact ⟨v,o,hk _ _ ho2,hd2⟩
 ·show upd H D ob C=none
  rw [ak (A0k hDC)];exact hCn
 ·show upd H D ob c=none
  rw [ak (Qj D hD x c (cj hcl e))];exact I.jZ x c (cj hcl e)
 ·exact absurd (show p∈([]:List 0x22) from hp) 0xA
 ·have e:=A1v List.length S.cap;simp only [cg] at e;rw [sX]
  show _=(ts++fr).length
  rw [iT,e]
theorem WL (x:cM P w H h a (jq P w a zs)):lF P w h a zs:=x.1
theorem Ds (x:lF P w h a zs):cM P w H h a (jq P w a zs):=by
 obtain ⟨es,ep,t,r,el,pm,nd⟩:=x;exact K9 r el pm nd
theorem lF.obj (x:lF P w h a zs):∃ o,h.get? a=some o:=by
 obtain ⟨es,ep,t,r,_⟩:=x;obtain ⟨o,ho,_⟩:=r.o;exact ⟨o,ho⟩
theorem Sh (hc:X.calm=true) (S:fO X.N X.env.scope scope ts fr ix) (hi:PI X tg iter wi)
  (hb:∀ s H fp C,PG 0x18 tg g/\PTs 0x18 ifs tt/\PE 0x18 elt te)
  (hs:∀ x,foldedSetIterable iter X.env x=pure x:=by intro _;rfl):PE X (.SetComp elt [⟨tg,iter,ifs,0⟩] scope pos) (a0q X.prog X.w ts.length ix wi g tt te):=by
 intro pins s σ H Q I h;have hcl:∀ x∈scope.names,x.2=.free->(X.env.cells.lookup x.1).isSome=true:=fun x hx hfx=>by
  obtain ⟨c,hc⟩:=I.ok.has x.1 (S.frs x hx hfx);rw [hc];rfl
 show wpAny 0x9 X.A (comprehension (.SetComp elt [⟨tg,iter,ifs,0⟩] scope pos) scope X.env (firstIterPos [⟨tg,iter,ifs,0⟩] pos) (newSet (.type "set")) false (eval iter X.env)) _ X.xe s
 refine wpAny_comprehension_free (use:=none) rfl hs (mY hcl) S.kind S.nms (cL (hi pins s σ H _ I h) fun v s1 h1=>cL h1 fun itv s2 h2=>?_);obtain ⟨it,fp,tn,J,H2,rfl,I2,T,st2,f2,hW⟩:=h2;refine Sd (wpAny_newFunctionEnv S.yV (by intro y hy;simp at hy) (fun h₁ hns₁ hsb₁=>?_) S.kind);dsimp only at hns₁ hsb₁ ⊢;generalize hH2:s2.heap.push (eU X.w)=G2 at hns₁ hsb₁ ⊢;have Zz:G2.objs.size=s2.heap.objs.size+1:=by rw [<- hH2,A1R]
 have hDC:s2.heap.objs.size≠G2.objs.size:=by rw [Zz];exact A0y (A2U _)
 have hCle:s2.heap.objs.size<=G2.objs.size:=by rw [Zz];exact A2b _
 have old:∀ b o,s2.heap.get? b=some o->h₁.get? b=some o:=fun b o e=>hsb₁.extBut b o (by rw [Zz];exact A0y (A2n (A0q e))) (A0b _ (hH2 ▸ A0b _ e));have hacc:h₁.get? s2.heap.objs.size=some (eU X.w):=hsb₁.extBut _ _ hDC (A0b _ (hH2 ▸ A0n _ rfl));have hfp:∀ b∈fp,b<s2.heap.objs.size:=fun b hb'=>by
  obtain ⟨o,e,_⟩:=T.obj _ _ st2 b hb';exact A0q e
 have IC:Inv (Bp X (ts++fr) scope s2 H2 fp G2.objs.size) [] (jD σ ts.length ix) (upd H2 s2.heap.objs.size (jq X.prog X.w s2.heap.objs.size [])) { s2 with heap:=h₁,toks:=s2.toks+([]:List (Str×Value)).length } :=
  Ni S I2 f2 hfp (A0f _) hCle hDC old (Ds (Ka hacc)) hns₁
 have st1:tn 0 h₁:=T.keep _ _ _ st2 fun b hb' o e=>old b o e;obtain ⟨W,⟨m0,w0⟩,turn⟩:=hW s2.heap.objs.size I2.fresh;obtain ⟨bg,bt,be⟩:=hb s2 H2 fp G2.objs.size;generalize hX:Bp X (ts++fr) scope s2 H2 fp G2.objs.size=Y at IC bg bt be;have eP:Y.prog=X.prog:=by rw [<- hX];rfl
 have eW:Y.w=X.w:=by rw [<- hX];rfl
 have eK:Y.K=X.K:=by rw [<- hX];rfl
 have eC:Y.calm=true:=by rw [<- hX];exact hc
 have eA:Y.A=X.A:=by rw [<- hX];rfl
 have eE:Y.env=compEnvC scope (ig X.env scope.names []) G2.objs.size X.env:=by rw [<- hX];rfl
 have eX:Y.xe=fun _ _=>False:=by rw [<- hX];rfl
 have stat:∀ {H':Hp},(∀ b∈fp,H' b=none)->∀ b∈fp,iU Y [] H' b:=fun hn b hb'=>by
  rw [<- hX];have z:=IC.ok;rw [<- hX] at z;refine ⟨hn b hb',(z.exf b hb').1,z.Ly b hb',.inl hb',(z.exf b hb').2,fun p hp=>absurd (show p∈([]:List 0x22) from hp) 0xA⟩
 have fr0:∀ b∈fp,upd H2 s2.heap.objs.size (jq X.prog X.w s2.heap.objs.size []) b=none:=fun b hb'=>by rw [ak (A0y (hfp b hb'))];exact (f2 b hb').1
 have bot:∀ {α:Type}{t:Sem α}{R:α->Shared->Prop}{E:Value->Shared->Prop}{z:Shared},wpAny (model Y.prog Y.w) Y.A t R Y.xe z->wpAny 0x9 X.A t R E z:=fun {α t R E z} q=>by
  rw [eP,eW,eA,eX] at q;exact A1d q (fun _ _ y=>y) fun _ _ y=>y.elim
 have fin:∀ (H':Hp) (s':Shared),Inv X pins σ H' s'->iU X pins H' G2.objs.size->(∃ m,s'.heap.Ns G2.objs.size m)->Q 0x5F H'->compPost 0x9 X.A X.xe none 0x45 0x5F G2.objs.size (.ok .next) s':=fun H' s' I' f' ⟨m,hm⟩ q'=>by
  refine ⟨m,hm,fun h' sb=>⟨.ref s2.heap.objs.size,H',?_,rfl,q'⟩⟩;exact I'.turned (t':=s'.toks) (fun b o hb' e=>(sb.2 b hb').trans e) f'.1 f'.2.1 f'.2.2.2.1 f'.2.2.2.2.1 f'.2.2.2.2.2
 have loop:codeAny 0x9 X.A (.compLoop (.SetComp elt [⟨tg,iter,ifs,0⟩] scope pos) 0 (.ref it) 0x5F (compEnvC scope (ig X.env scope.names []) G2.objs.size X.env))
   (compPost 0x9 X.A X.xe none 0x45 0x5F G2.objs.size) { s2 with heap:=h₁,toks:=s2.toks+([]:List (Str×Value)).length }:=by
  rw [<- eE];refine codeAny_loop rfl (fun n s'=>∃ i ys H',Inv Y [] (jD σ ts.length ix) H' s'/\tn i s'.heap/\(∀ b∈fp,H' b=none)/\W i n ys H') (fun n s3 hI=>?_) m0 ⟨0,[],_,IC,st1,fr0,w0⟩;obtain ⟨i,ys,H3,I3,st3,Yc,w3⟩:=hI
  show wpAny _ _ ((compTurn (.SetComp elt [⟨tg,iter,ifs,0⟩] scope pos) 0 (.ref it) 0x5F Y.env).onRaise (fun x=>do noteFrame x Y.env;theTreesLotGoes x)) _ _ s3
  refine wpAny_noted ?_;rw [zL];obtain ⟨hD3,hcase⟩:=turn i n ys H3 w3;rcases hcase with ⟨stop,qn⟩ | ⟨go,N,hN,step⟩
  ·have q:=T.done Y eP eW eK eC i [] s3 _ H3 (fun _ _=>False) I3 (stat Yc) st3 stop;rw [eA] at q;refine A0a (A2j (A0a (A1d q (fun r s4 ⟨hr,I4⟩=>?_) fun _ _ y=>y.elim)));subst hr;refine A0d ?_;have b4:Un (frs X.stack) fp H2 H3 s2.heap s4.heap:=by have z:=I4.base;rw [<- hX] at z;exact z
   have ok4:nZ X.prog X.w H3 s4.heap:=by have z:=I4.hok;rw [eP,eW] at z;exact z
   have os4:s4.os=s2.os:=by have z:=I4.os;rw [<- hX] at z;exact z
   have I5:Inv X pins σ H3 s4:=I2.call' os4 b4 ok4 I4.bare fun b hb'=>⟨(f2 b hb').2.2.2.1,(f2 b hb').2.1,(f2 b hb').2.2.2.2.1,(f2 b hb').2.2.2.2.2⟩;have fC:H3 G2.objs.size=none:=by have z:=I4.free;rw [eE] at z;exact z
   have nC:∃ m,s4.heap.Ns G2.objs.size m:=by obtain ⟨m,z,_⟩:=I4.loc;rw [eE] at z;exact ⟨m,z⟩
   exact fin H3 s4 I5 (I2.uG hCle fC) nC qn
  ·have q:=T.item Y eP eW eK eC i [] s3 _ H3 (fun _ _=>False) I3 (stat Yc) st3 go;rw [eA] at q;refine A0a (A2j (A0a (A1d q (fun r s4 ⟨u,hr,h4⟩=>?_) fun _ _ y=>y.elim)));subst hr;refine A0a (A1d h4 (fun _ s5 ⟨x,H5,I5,r5,y5,Pq,fr5⟩=>?_) fun _ _ y=>y.elim);have I5':=I5.pinned (stat fr5) (T.obj _ _ Pq);refine A0a (bot (cL (bg _ s5 _ H5 x u _ I5' r5 (step x H5 y5)) fun _ s6 zq=>?_));obtain ⟨σ6,H6,I6,kp6,q6⟩:=zq;refine A0a (bot (cL (bt _ s6 σ6 H6 _ I6 q6) fun ok s7 zq=>?_));obtain ⟨H7,I7,q7⟩:=zq;have again:∀ {H8:Hp}{s8:Shared}{zs:List Str}{m':Nat},Inv Y ([]++rB fp s5.heap) σ6 H8 s8->m'<n->W (i+1) m' zs H8->∃ m,m<n/\∃ i ys H',Inv Y [] (jD σ ts.length ix) H' s8/\tn i s8.heap/\(∀ b∈fp,H' b=none)/\W i m ys H':=fun {H8 s8 zs m'} I8 hm w8=>by
    refine ⟨m',hm,i+1,zs,H8,(I8.lR).weak ?_ kp6,T.keep _ _ _ Pq fun b hb' o e=>(I8.pin (b,o) (A0x _ (A0x _ (gA hb' e)))).1,fun b hb'=>?_,w8⟩
    ·rw [I8.len,I3.len]
    ·obtain ⟨o,e,d⟩:=T.obj _ _ Pq b hb';exact (I8.pin (b,o) (A0x _ (A0x _ (gA hb' e)))).2.1
   cases ok with
   | false =>
    rw [A0e 0x7] at q7;obtain ⟨m',hm,w8⟩:=hN _ _ q7;exact A0d ⟨rfl,again I7 hm w8⟩
   | true =>
    rw [A0i rfl] at q7;refine A0a (A0a (bot (cL (be _ s7 σ6 H7 _ I7 q7) fun u8 s8 zq=>?_)));obtain ⟨y8,H8,I8,r8,z8,ey,hD8,hz,n8⟩:=zq;subst ey;obtain ⟨tk8,rfl⟩:=r8;obtain ⟨m',hm,w8⟩:=hN _ _ n8;refine A0a (A2j (A0a ?_));have hS8:lF X.prog X.w s8.heap s2.heap.objs.size ys:=by have z:=I8.hok _ _ hD8;rw [eP,eW] at z;exact WL z
    refine Ng hS8 (by unfold scanBound;lia) fun h' sb hT=>?_;have new:cM Y.prog Y.w (upd H8 s2.heap.objs.size (jq X.prog X.w s2.heap.objs.size (mU ys z8))) h' s2.heap.objs.size (jq X.prog X.w s2.heap.objs.size (mU ys z8)):=by rw [eP,eW];exact Ds hT
    have I9:=kJ (t':=s8.toks+1) I8 (by rw [hD8];exact True.intro) sb hT.obj new;exact A0d (A0d ⟨rfl,again I9 hm w8⟩)
 exact wI loop (T.self _ 0 _ _ _ st1 loop)
theorem Hq {o:Obj}{k:Nat}{Q:VK} (Pv:Nat->List Str->Hp->Prop) (hl:∀ i zs H,Pv i zs H->H a=some 0x63) (h0:Pv 0 [] (upd H1 D (jq P w D []))) (hD:∀ i zs H,Pv i zs H->H D=some (jq P w D zs))
  (hs:∀ i zs H kv,kvs[i]?=some kv->Pv i zs H->g kv.2 (jD σ k ix) H fun σ2 H4=>Kp (jD σ k ix) σ2/\tt σ2 H4 fun b H5=>if b=true then te σ2 H5 fun y H6=>∃ z,y=.str z/\H6 D=some (jq P w D zs)/\zs.length<1000/\Pv (i+1) (mU zs z) (upd H6 D (jq P w D (mU zs z))) else Pv (i+1) zs H5)
  (hd:∀ zs H,Pv kvs.length zs H->Q (.ref D) H):zM P w (Itv a o kvs) D σ k ix g tt te Q H1:=by
 refine ⟨fun i m ys H=>m=kvs.length - i/\i<=kvs.length/\Pv i ys H,⟨kvs.length,by simp,A0Z _,h0⟩,?_⟩;rintro i m ys H ⟨rfl,hi,p⟩;refine ⟨hD i ys H p,?_⟩
 by_cases hlt:i<kvs.length
 ·refine .inr ⟨⟨hl _ _ _ p,hlt⟩,Pv (i+1),fun zs H' p'=>⟨kvs.length - (i+1),by lia,rfl,hlt,p'⟩,fun x H' y=>?_⟩;obtain ⟨rfl,kv,hkv,rfl⟩:=y;exact hs i ys _ kv hkv p
 ·have e:i=kvs.length:=by lia
  subst e;exact .inl ⟨⟨hl _ _ _ p,A0f _⟩,hd ys H p⟩
end
end L2
namespace M
open PySem L2
structure aM where
 n:Str
 lord:Option Str
 man:Str
 own:Int
 br:Int
 due:Int×Int
 ta:Addr
 tb:Addr
def iu:Option Str->V
 | none=>.non
 | some p=>.str p
theorem yg {o:Option Str}{p:Str}:iu o=.str p↔o=some p:=by
 cases o with
 | none=>exact ⟨fun h=>(by cases h),fun h=>(by cases h)⟩
 | some q=>exact ⟨fun h=>(by injection h with e;rw [e]),fun h=>(by injection h with e;rw [e];rfl)⟩
abbrev kv (f:aM->V) (es:List aM):List 0x61:=es.map fun e=>(Sum.inr e.n,f e)
abbrev nms (es:List aM):List Str:=es.map (·.n)
abbrev iY (es:List aM):=kv (fun e=>iu e.lord) es
abbrev hoL (es:List aM):=kv (fun e=>V.str e.man) es
abbrev lH (es:List aM):=kv (fun e=>V.int e.own) es
abbrev zN (es:List aM):=kv (fun e=>V.int e.br) es
abbrev Kd (es:List aM):=kv (fun e=>V.ref e.ta) es
abbrev qU (es:List aM):=kv (fun e=>V.ref e.tb) es
theorem key_eq {a b:Str}:(Sum.inr a:Key)=.inr b↔a=b:=⟨fun h=>by injection h,fun h=>by rw [h]⟩
theorem qF {f:aM->V}{n:Str}:∀ {es:List aM},n∉nms es->bJ (kv f es) 0x28=none
 | [],_=>rfl
 | x::r,h=>by
  have h1:x.n≠n:=fun q=>h (by rw [<- q];exact A0h)
  show bJ ((Sum.inr x.n,f x)::kv f r) _=none
  rw [eN (fun q=>h1 (key_eq.mp q))];exact qF fun q=>h (jh _ q)
theorem cG {f:aM->V}{e:aM}:∀ {es:List aM},(nms es).Nodup->e∈es->bJ (kv f es) (.inr e.n)=some (f e)
 | [],_,h=>by cases h
 | x::r,nd,h=>by
  show bJ ((Sum.inr x.n,f x)::kv f r) _=_
  have nd':=A0P.mp nd;rcases List.mem_cons.mp h with q | q
  ·subst q;exact fu rfl
  ·have ne:x.n≠e.n:=fun z=>nd'.1 (by show x.n∈nms r;rw [z];exact A0m.mpr ⟨e,q,rfl⟩)
   rw [eN (fun z=>ne (key_eq.mp z))];exact cG nd'.2 q
theorem dM {es:List aM}{n:Str} (h:n∈nms es):∃ e∈es,e.n=n:=by
 obtain ⟨e,he,q⟩:=A0m.mp h;exact ⟨e,he,q⟩
theorem gR {f:aM->V}{es:List aM} (n:Str):(bJ (kv f es) 0x28).isSome=decide (n∈nms es):=by
 by_cases h:n∈nms es
 ·rw [A0j h]
  induction es with
  | nil=>cases h
  | cons x r ih =>
   show (bJ ((Sum.inr x.n,f x)::kv f r) _).isSome=true
   by_cases q:x.n=n
   ·rw [fu (key_eq.mpr q)];rfl
   ·rw [eN (fun z=>q (key_eq.mp z))];refine ih ?_;rcases List.mem_cons.mp h with z | z
    ·exact absurd z.symm q
    ·exact z
 ·rw [A0s h,qF h];rfl
theorem gF {f g:aM->V}{es:List aM} (h:∀ e∈es,f e=g e):kv f es=kv g es:=A1I fun e he=>by rw [h e he]
theorem Sq {f:aM->V}{n:Str} (es:List aM):((kv f es).any fun x=>decide (x.1=Sum.inr n))=decide (n∈nms es):=by rw [lX,gR]
theorem vm {f:aM->V}{es:List aM}{n:Str} (h:n∈nms es):putK (kv f es) 0x28 v=kv (fun e=>if e.n=n then v else f e) es:=by
 unfold putK;rw [Sq,A0j h,A0i rfl]
 show (es.map _).map _=_
 rw [A0R];refine A1I fun e _=>?_
 show (if (Sum.inr e.n:Key)=.inr n then (Sum.inr e.n,v) else (Sum.inr e.n,f e))=(Sum.inr e.n,if e.n=n then v else f e)
 by_cases q:e.n=n
 ·rw [A0i (key_eq.mpr q),A0i q]
 ·rw [A0e (fun z=>q (key_eq.mp z)),A0e q]
theorem zO {f:aM->V}{es:List aM}{n:Str} (h:n∉nms es):putK (kv f es) 0x28 v=kv f es++[(.inr n,v)]:=Qz v (qF h)
theorem mV {f:aM->V}{es:List aM}{n:Str}:jk (kv f es) 0x28=kv f (es.filter fun e=>decide (e.n≠n)):=by
 unfold jk;rw [A3K]
 congr 1
 refine A2M fun e _=>?_
 show decide ((Sum.inr e.n:Key)≠.inr n)=decide (e.n≠n)
 exact A4f.mpr ⟨fun h q=>h (key_eq.mpr q),fun h q=>h (key_eq.mp q)⟩
theorem jx {f:aM->V}{g:aM->aM}{es:List aM} (hg:∀ e,(g e).n=e.n):kv f (es.map g)=kv (fun e=>f (g e)) es:=by
 show (es.map g).map _=_
 rw [A0R];refine A1I fun e _=>?_
 show (Sum.inr (g e).n,f (g e))=_
 rw [hg]
theorem a0r {f:aM->V}{es:List aM}{x:aM}:kv f (es++[x])=kv f es++[(.inr x.n,f x)]:=jP
theorem iZ {f:aM->V}{es:List aM}:(kv f es).length=es.length:=cg _
theorem Dt {f:aM->V}{es:List aM}{p:Str}:∀ (ss:List Str) ,(∀ s∈ss,s∈nms es)->moved (kv f es) ss p=kv (fun e=>if e.n∈ss then V.str p else f e) es:=by
 intro ss;unfold moved
 induction ss generalizing f with
 | nil=>intro _;exact gF fun e _=>by rw [A0e 0xA]
 | cons s r ih =>
  intro h;rw [A1t,vm (h s A0h),ih fun x hx=>h x (jh _ hx)];refine gF fun e _=>?_
  by_cases q:e.n∈r
  ·rw [A0i q,A0i (jh _ q)]
  ·rw [A0e q]
   by_cases z:e.n=s
   ·rw [A0i z,A0i (by rw [z];exact A0h)]
   ·rw [A0e z,A0e];intro c;rcases List.mem_cons.mp c with y | y
    ·exact z y
    ·exact q y
theorem zP {f:aM->V} (p:Key×V->Bool) (es:List aM):((kv f es).filter p).map jw=(es.filter fun e=>p (.inr e.n,f e)).map (·.n):=by
 rw [A3K,A0R];rfl
theorem Ke {f:aM->V}{es:List aM}:TK (kv f es):=fun x hx=>by
 obtain ⟨e,he,rfl⟩:=A0m.mp hx;rfl
theorem YG {es:List aM}:TV (iY es):=fun x hx=>by
 obtain ⟨e,he,rfl⟩:=A0m.mp hx
 show iu e.lord=.non\/∃ s,iu e.lord=.str s
 cases e.lord with
 | none=>exact .inl rfl
 | some p=>exact .inr ⟨p,rfl⟩
theorem a1U {es:List aM}:TV (hoL es):=fun x hx=>by
 obtain ⟨e,he,rfl⟩:=A0m.mp hx;exact .inr ⟨_,rfl⟩
def Ord:List Str->List aM->Prop
 | _,[]=>True
 | seen,e::r=>(∃ p,e.lord=some p/\p∈seen)/\Ord (e.n::seen) r
theorem Ord.snoc:∀ {r:List aM}{s:List Str}{x:aM}{p:Str},Ord s r->x.lord=some p->(p∈s\/p∈nms r)->Ord s (r++[x])
 | [],s,x,p,_,hx,h=>⟨⟨p,hx,h.elim id fun q=>by cases q⟩,True.intro⟩
 | e::r,s,x,p,⟨h1,h2⟩,hx,h=>⟨h1,Ord.snoc (r:=r) h2 hx (by
   rcases h with q | q
   ·exact .inl (jh _ q)
   ·rcases List.mem_cons.mp q with z | z
    ·exact .inl (by rw [z];exact A0h)
    ·exact .inr z)⟩
theorem Ord.map {g:aM->aM} (h1:∀ e,(g e).n=e.n) (h2:∀ e,(g e).lord=e.lord):∀ {r:List aM}{s:List Str},Ord s r->Ord s (r.map g)
 | [],_,_=>True.intro
 | e::r,s,⟨⟨p,hp,hs⟩,ho⟩=>⟨⟨p,by rw [h2,hp],hs⟩,by rw [h1];exact Ord.map h1 h2 ho⟩
theorem Ord.lord:∀ {r:List aM}{s:List Str},Ord s r->∀ e∈r,∃ p,e.lord=some p/\(p∈s\/p∈nms r)
 | e::r,s,⟨⟨p,hp,hs⟩,ho⟩,x,hx=>by
  rcases List.mem_cons.mp hx with q | q
  ·subst q;exact ⟨p,hp,.inl hs⟩
  ·obtain ⟨p',h1,h2⟩:=Ord.lord ho x q;refine ⟨p',h1,?_⟩;rcases h2 with z | z
   ·rcases List.mem_cons.mp z with y | y
    ·exact .inr (by rw [y];exact A0h)
    ·exact .inl y
   ·exact .inr (jh _ z)
def Du (e p:Str) (a:Int) (y:aM):aM:={ y with lord:=if y.lord=some e then some p else y.lord,own:=if y.n=p then y.own+a else y.own }
theorem Ord.fall {e p:Str}{a:Int}:∀ {r:List aM}{s t:List Str},Ord s r->(∀ x∈r,x.n=e->x.lord=some p)->(∀ x∈s,x≠e->x∈t)->(e∈s->p∈t)->p≠e->Ord t ((r.filter fun y=>decide (y.n≠e)).map (Du e p a))
 | [],_,_,_,_,_,_,_=>True.intro
 | y::r,s,t,⟨⟨q,hq,hs⟩,ho⟩,hl,h1,h2,hp=>by
  have tl:∀ x∈r,x.n=e->x.lord=some p:=fun x hx=>hl x (jh _ hx)
  by_cases c:y.n=e
  ·rw [A1X (by simpa using c)];have hy:=hl y A0h c;refine Ord.fall (s:=y.n::s) (t:=t) ho tl (fun x hx hne=>?_) (fun _=>?_) hp
   ·rcases List.mem_cons.mp hx with z | z
    ·exact absurd (z.trans c) hne
    ·exact h1 x z hne
   ·rw [hq] at hy;injection hy with hy;exact h1 p (hy ▸ hs) hp
  ·rw [A1u (by simpa using c),A0g];refine ⟨?_,Ord.fall (s:=y.n::s) (t:=y.n::t) ho tl (fun x hx hne=>?_) (fun hx=>?_) hp⟩
   ·show ∃ p',(if y.lord=some e then some p else y.lord)=some p'/\p'∈t
    by_cases z:y.lord=some e
    ·rw [hq] at z;injection z with z;exact ⟨p,by rw [A0i (by rw [hq,z])],h2 (z ▸ hs)⟩
    ·have:q≠e:=fun w=>z (by rw [hq,w]);exact ⟨q,by rw [A0e z,hq],h1 q hs this⟩
   ·rcases List.mem_cons.mp hx with z | z
    ·rw [z];exact A0h
    ·exact jh _ (h1 x z hne)
   ·rcases List.mem_cons.mp hx with z | z
    ·exact absurd z.symm c
    ·exact jh _ (h2 z)
theorem nP {F G:aM->Int}{es:List aM} (h:∀ y∈es,G y=F y):(es.map G).sum=(es.map F).sum:=by rw [A1I h]
theorem tZ {F G:aM->Int}{e0:aM}:∀ {es:List aM},(nms es).Nodup->e0∈es->(∀ y∈es,y.n≠e0.n->G y=F y)->(es.map G).sum=(es.map F).sum - F e0+G e0
 | [],_,h,_=>by cases h
 | x::r,nd,h,hg=>by
  have nd':=A0P.mp nd;simp only [A0g,A0z];rcases List.mem_cons.mp h with q | q
  ·subst q;rw [nP (F:=F) (G:=G) (es:=r) fun y hy=>hg y (jh _ hy) fun z=>nd'.1 (show e0.n∈nms r by rw [<- z];exact A0m.mpr ⟨y,hy,rfl⟩)]
   lia
  ·have ne:x.n≠e0.n:=fun z=>nd'.1 (show x.n∈nms r by rw [z];exact A0m.mpr ⟨e0,q,rfl⟩)
   rw [hg x A0h ne,tZ nd'.2 q fun y hy=>hg y (jh _ hy)];lia
theorem vq {F:aM->Int}{e0:aM}:∀ {es:List aM},(nms es).Nodup->e0∈es->((0x10).map F).sum=(es.map F).sum - F e0
 | [],_,h=>by cases h
 | x::r,nd,h=>by
  have nd':=A0P.mp nd;rcases List.mem_cons.mp h with q | q
  ·subst q;have:(r.filter fun y=>decide (y.n≠e0.n))=r:=List.filter_eq_self.mpr fun y hy=>by
    refine A0j fun z=>nd'.1 (show e0.n∈nms r by rw [<- z];exact A0m.mpr ⟨y,hy,rfl⟩)
   rw [A1X 0xA,this,A0g,A0z];lia
  ·have ne:x.n≠e0.n:=fun z=>nd'.1 (show x.n∈nms r by rw [z];exact A0m.mpr ⟨e0,q,rfl⟩)
   rw [A1u (by simpa using ne),A0g,A0g,A0z,A0z,vq nd'.2 q];lia
theorem sum_add {F G:aM->Int}:∀ (es:List aM),(es.map fun y=>F y+G y).sum=(es.map F).sum+(es.map G).sum
 | []=>rfl
 | x::r=>by simp only [A0g,A0z,sum_add r];lia
theorem vA {F:aM->Int}:∀ {es:List aM},(∀ y∈es,F y=0)->(es.map F).sum=0
 | [],_=>rfl
 | x::r,h=>by rw [A0g,A0z,h x A0h,vA fun y hy=>h y (jh _ hy)];rfl
theorem Ss {F:aM->Int}:∀ {es:List aM},(∀ y∈es,0<=F y)->0<=(es.map F).sum
 | [],_=>Int.le_refl _
 | x::r,h=>by
  rw [A0g,A0z];have h1:=h x A0h;have h2:=Ss (F:=F) (es:=r) fun y hy=>h y (jh _ hy);lia
def Sb (es:List aM) (q:Str):Int:=(es.map fun y=>if y.lord=some q then y.br else 0).sum
structure WF (es:List aM):Prop where
 nd:(nms es).Nodup
 hd:∃ c r,es=c::r/\c.n=""/\c.lord=none/\Ord [""] r
 bnd:∀ e∈es,0<=e.own/\0<=e.br/\e.br<=9999
 br:∀ e∈es,e.br=e.own+Sb es e.n
 ok:∀ e∈es,PyData.strOk e.n=true
theorem WF.lord {es:List aM} (W:WF es):∀ e∈es,e.n≠""->∃ p,e.lord=some p/\p∈nms es/\p≠e.n:=by
 obtain ⟨c,r,rfl,hc,hl,ho⟩:=W.hd;intro e he hne;rcases List.mem_cons.mp he with q | q
 ·rw [q] at hne;exact absurd hc hne
 ·obtain ⟨p,hp,hm⟩:=ho.lord e q;refine ⟨p,hp,?_,?_⟩
  ·rcases hm with z | z
   ·rw [A0c.mp z,<- hc];exact A0h
   ·exact jh _ z
  ·-- not its own lord
   have key:∀ {r:List aM}{s:List Str},Ord s r->(nms r).Nodup->(∀ x∈s,x∉nms r)->∀ e∈r,e.lord≠some e.n:=by
    intro r
    induction r with
    | nil=>intro s _ _ _ e he;cases he
    | cons y r ih =>
     rintro s ⟨⟨p,hp,hs⟩,ho⟩ nd hx e he;have nd':=A0P.mp nd;rcases List.mem_cons.mp he with q | q
     ·rw [q,hp];intro z;injection z with z;exact hx p hs (by rw [z];exact A0h)
     ·refine ih ho nd'.2 (fun x hxs=>?_) e q;rcases List.mem_cons.mp hxs with z | z
      ·rw [z];exact nd'.1
      ·exact fun w=>hx x z (jh _ w)
   have nd':=A0P.mp W.nd;have:=key ho nd'.2 (fun x hx=>by rw [A0c.mp hx,<- hc];exact nd'.1) e q;intro z;exact this (by rw [hp,z])
theorem WF.crown {es:List aM} (W:WF es):∀ e∈es,e.n=""->e.lord=none:=by
 obtain ⟨c,r,rfl,hc,hl,ho⟩:=W.hd;intro e he h;have nd':=A0P.mp W.nd;rcases List.mem_cons.mp he with q | q
 ·rw [q];exact hl
 ·exact absurd (show c.n∈nms r by rw [hc,<- h];exact A0m.mpr ⟨e,q,rfl⟩) nd'.1
theorem WF.mem0 {es:List aM} (W:WF es):("" : Str)∈nms es:=by
 obtain ⟨c,r,rfl,hc,_⟩:=W.hd;rw [<- hc];exact A0h
theorem WF.a0s {es:List aM} (W:WF es) {n:Str} (h:n∉nms es):∀ y∈es,y.lord≠some n:=fun y hy q=>by
 by_cases c:y.n=""
 ·rw [W.crown y hy c] at q;cases q
 ·obtain ⟨p,hp,hm,_⟩:=W.lord y hy c;rw [hp] at q;injection q with q;exact h (q ▸ hm)
theorem WF.sb0 {es:List aM} (W:WF es) {n:Str} (h:n∉nms es):Sb es n=0:=vA fun y hy=>A0e (W.a0s h y hy)
theorem WF.sbn {es:List aM} (W:WF es) (q:Str):0<=Sb es q:=Ss fun y hy=>by
 split
 ·exact (W.bnd y hy).2.1
 ·exact Int.le_refl _
theorem WF.vB {es:List aM} (W:WF es):∀ e∈es,e.own<=e.br:=fun e he=>by
 have h1:=W.br e he;have h2:=W.sbn e.n;lia
def mod (n:Str) (g:aM->aM) (es:List aM):List aM:=es.map fun y=>if y.n=n then g y else y
theorem u0 {n:Str}{g:aM->aM} (hg:∀ e,(g e).n=e.n) (es:List aM):nms (mod n g es)=nms es:=by
 unfold mod
 show (es.map _).map _=_
 rw [A0R];refine A1I fun e _=>?_
 show (if e.n=n then g e else e).n=e.n
 split
 ·exact hg e
 ·rfl
theorem cU {n:Str}{g:aM->aM}{es:List aM}{y:aM} (h:y∈mod n g es):∃ y0∈es,y=if y0.n=n then g y0 else y0:=by
 obtain ⟨y0,h0,q⟩:=A0m.mp h;exact ⟨y0,h0,q.symm⟩
theorem Sv {f:aM->V}{n:Str}{g:aM->aM} (hg:∀ e,(g e).n=e.n) (es:List aM):kv f (mod n g es)=kv (fun e=>if e.n=n then f (g e) else f e) es:=by
 unfold mod;rw [jx (g:=fun y=>if y.n=n then g y else y) (fun e=>by split;exact hg e;rfl)]
 exact gF fun e _=>by split <;> rfl
theorem eF {f:aM->V}{n:Str}{g:aM->aM} (hg:∀ e,(g e).n=e.n) (hf:∀ e,f (g e)=f e) (es:List aM):kv f (mod n g es)=kv f es:=by
 rw [Sv hg];exact gF fun e _=>by split;exact hf e;rfl
theorem Sy {n:Str}{g:aM->aM} (hg:∀ e,(g e).n=e.n) (hl:∀ e,(g e).lord=e.lord) {es:List aM} (h:∃ c r,es=c::r/\c.n=""/\c.lord=none/\Ord [""] r):∃ c r,mod n g es=c::r/\c.n=""/\c.lord=none/\Ord [""] r:=by
 obtain ⟨c,r,rfl,hc,hcl,ho⟩:=h;refine ⟨_,_,rfl,?_,?_,Ord.map (fun e=>?_) (fun e=>?_) ho⟩
 ·show (if c.n=n then g c else c).n=""
  split
  ·rw [hg,hc]
  ·exact hc
 ·show (if c.n=n then g c else c).lord=none
  split
  ·rw [hl,hcl]
  ·exact hcl
 ·show (if e.n=n then g e else e).n=e.n
  split
  ·exact hg e
  ·rfl
 ·show (if e.n=n then g e else e).lord=e.lord
  split
  ·exact hl e
  ·rfl
theorem a0t {n:Str}{g:aM->aM} (hl:∀ e,(g e).lord=e.lord) {es:List aM}{e0:aM} (nd:(nms es).Nodup) (h0:e0∈es) (hn:e0.n=n) (q:Str):Sb (mod n g es) q=Sb es q+(if e0.lord=some q then (g e0).br - e0.br else 0):=by
 unfold Sb mod;rw [A0R];rw [tZ (F:=fun y=>if y.lord=some q then y.br else 0) (e0:=e0) nd h0 (fun y hy ne=>?_)]
 ·show _ - (if e0.lord=some q then e0.br else 0)+(if (if e0.n=n then g e0 else e0).lord=some q then (if e0.n=n then g e0 else e0).br else 0)=_
  rw [A0i hn,hl]
  by_cases c:e0.lord=some q
  ·rw [A0i c,A0i c,A0i c];lia
  ·rw [A0e c,A0e c,A0e c];lia
 ·show (if (if y.n=n then g y else y).lord=some q then (if y.n=n then g y else y).br else 0)=_
  have c:¬ y.n=n:=by rw [<- hn];exact ne
  rw [A0e c]
theorem a0u (es:List aM) (x:aM) (q:Str):Sb (es++[x]) q=Sb es q+(if x.lord=some q then x.br else 0):=by
 unfold Sb;rw [jP,A3i];simp
theorem jH {es:List aM} (nd:(nms es).Nodup) {a b:aM} (ha:a∈es) (hb:b∈es) (h:a.n=b.n):a=b:=by
 induction es with
 | nil=>cases ha
 | cons x r ih =>
  have nd':=A0P.mp nd;rcases List.mem_cons.mp ha with p | p <;> rcases List.mem_cons.mp hb with q | q
  ·rw [p,q]
  ·exact absurd (show x.n∈nms r by rw [<- p,h];exact A0m.mpr ⟨b,q,rfl⟩) nd'.1
  ·exact absurd (show x.n∈nms r by rw [<- q,<- h];exact A0m.mpr ⟨a,p,rfl⟩) nd'.1
  ·exact ih nd'.2 p q
theorem WF.new {es:List aM} (W:WF es) {e0 x:aM}{g:aM->aM}{a:Int} (h0:e0∈es) (hg:∀ e,(g e).n=e.n) (hl:∀ e,(g e).lord=e.lord) (ho:(g e0).own=e0.own - a) (ha:0<=a) (hb:a<=e0.own) (hx:x.n∉nms es) (hok:PyData.strOk x.n=true) (ho2:x.own=a) (hb2:x.br=a)
  (way:(x.lord=some e0.n/\(g e0).br=e0.br)\/(x.lord=e0.lord/\e0.n≠""/\(g e0).br=e0.br - a)):WF (mod e0.n g es++[x]):=by
 have onm:nms (mod e0.n g es++[x])=nms es++[x.n]:=by
  show (mod e0.n g es++[x]).map _=_
  rw [jP];have:=u0 (n:=e0.n) hg es
  show nms (mod e0.n g es)++_=_
  rw [this];rfl
 have b0:=W.bnd e0 h0;have ow:=W.vB e0 h0;have sbs:∀ q,Sb (mod e0.n g es++[x]) q=Sb es q+(if q=e0.n then e0.own - (g e0).own+((g e0).br - e0.br) else 0):=by
  intro q;rw [a0u,a0t hl W.nd h0 rfl];rcases way with ⟨w1,w2⟩ | ⟨w1,w0,w2⟩
  ·have z0:(if e0.lord=some q then (g e0).br - e0.br else 0)=(0:Int):=by rw [w2];split <;> lia
   rw [z0,w1,w2,hb2,ho]
   by_cases c:q=e0.n
   ·subst c;rw [A0i rfl,A0i rfl];lia
   ·rw [A0e c,A0e (fun z=>c (by injection z with z;exact z.symm))];lia
  ·rw [w1,w2,hb2,ho]
   split
   ·split <;> lia
   ·split <;> lia
 refine ⟨?_,?_,?_,?_,fun e he=>?_⟩
 rotate_right
 ·rcases A0v.mp he with q | q
  ·obtain ⟨y,hy,rfl⟩:=cU q
   split
   ·rw [hg];exact W.ok y hy
   ·exact W.ok y hy
  ·rw [A0c.mp q];exact hok
 ·rw [onm,A1Z];refine ⟨W.nd,by simp,fun u hu v hv=>?_⟩;rw [A0c.mp hv];exact fun z=>hx (z ▸ hu)
 ·obtain ⟨c,r,e1,e2,e3,e4⟩:=Sy (n:=e0.n) hg hl W.hd;rw [e1];have hp:∃ p,x.lord=some p/\p∈nms es:=by
   rcases way with ⟨w1,_⟩ | ⟨w1,w0,_⟩
   ·exact ⟨_,w1,A0m.mpr ⟨e0,h0,rfl⟩⟩
   ·obtain ⟨p,hp,hm,_⟩:=W.lord e0 h0 w0;exact ⟨p,w1.trans hp,hm⟩
  obtain ⟨p,hp,hm⟩:=hp;refine ⟨c,r++[x],rfl,e2,e3,Ord.snoc e4 hp ?_⟩;have hm':p∈nms (mod e0.n g es):=by rw [u0 hg];exact hm
  rw [e1] at hm';rcases List.mem_cons.mp hm' with z | z
  ·exact .inl (by rw [z];show c.n∈([""]:List Str);rw [e2];exact A0c.mpr rfl)
  ·exact .inr z
 ·intro e he;rcases A0v.mp he with q | q
  ·obtain ⟨y,hy,rfl⟩:=cU q;have by_:=W.bnd y hy
   split
   ·rename_i c
    obtain rfl:=jH W.nd hy h0 c;rw [ho];rcases way with ⟨_,w2⟩ | ⟨_,_,w2⟩ <;> rw [w2] <;> lia
   ·exact by_
  ·rw [A0c.mp q,ho2,hb2];lia
 ·intro e he;rcases A0v.mp he with q | q
  ·obtain ⟨y,hy,rfl⟩:=cU q;have hbr:=W.br y hy
   split
   ·rename_i c
    obtain rfl:=jH W.nd hy h0 c;rw [hg,sbs,A0i rfl];lia
   ·rename_i c
    rw [sbs,A0e c];lia
  ·rw [A0c.mp q,ho2,hb2,sbs,W.sb0 hx,A0e (fun z=>hx (by rw [z];exact A0m.mpr ⟨e0,h0,rfl⟩))];lia
theorem WF.mod {es:List aM} (W:WF es) {n:Str}{g:aM->aM} (hg:∀ e,(g e).n=e.n) (hl:∀ e,(g e).lord=e.lord) (ho:∀ e,(g e).own=e.own) (hb:∀ e,(g e).br=e.br):WF (mod n g es):=by
 have sbs:∀ q,Sb (M.mod n g es) q=Sb es q:=by
  intro q;unfold Sb M.mod;rw [A0R];refine nP fun y _=>?_
  show (if (if y.n=n then g y else y).lord=some q then (if y.n=n then g y else y).br else 0)=_
  by_cases c:y.n=n
  ·rw [A0i c,hl,hb]
  ·rw [A0e c]
 refine ⟨by rw [u0 hg];exact W.nd,Sy hg hl W.hd,fun e he=>?_,fun e he=>?_,fun e he=>?_⟩
 rotate_right
 ·obtain ⟨y,hy,rfl⟩:=cU he
  split
  ·rw [hg];exact W.ok y hy
  ·exact W.ok y hy
 ·obtain ⟨y,hy,rfl⟩:=cU he
  split
  ·rw [ho,hb];exact W.bnd y hy
  ·exact W.bnd y hy
 ·obtain ⟨y,hy,rfl⟩:=cU he;rw [sbs]
  split
  ·rw [hg,ho,hb];exact W.br y hy
  ·exact W.br y hy
def cH (e p:Str) (a:Int) (es:List aM):List aM:=(es.filter fun y=>decide (y.n≠e)).map (Du e p a)
theorem WF.fall {es:List aM} (W:WF es) {e0:aM}{p:Str} (h0:e0∈es) (hne:e0.n≠"") (hp:e0.lord=some p):WF 0x25:=by
 obtain ⟨p',hp',hpm,hpn⟩:=W.lord e0 h0 hne;obtain rfl:p=p':=by rw [hp] at hp';injection hp'
 have mem:∀ y,y∈cH e0.n p e0.own es->∃ y0∈es,y0.n≠e0.n/\y=Du e0.n p e0.own y0:=fun y hy=>by
  obtain ⟨y0,h1,h2⟩:=A0m.mp hy;obtain ⟨h3,h4⟩:=A0V.mp h1;exact ⟨y0,h3,sS h4,h2.symm⟩
 have eo:=W.br e0 h0;have sbs:∀ q,q≠e0.n->Sb 0x25 q=Sb es q - (if q=p then e0.own else 0):=by
  intro q hq;unfold Sb cH;rw [A0R];rw [vq (F:=(fun y=>if y.lord=some q then y.br else 0)∘Du e0.n p e0.own) W.nd h0]
  have val:∀ y,((fun y=>if y.lord=some q then y.br else 0)∘Du e0.n p e0.own) y=(if y.lord=some q then y.br else 0)+(if q=p then (if y.lord=some e0.n then y.br else 0) else 0):=by
   intro y
   show (if (if y.lord=some e0.n then some p else y.lord)=some q then y.br else 0)=_
   by_cases c:y.lord=some e0.n
   ·rw [A0i c,c,A0e (fun z:some e0.n=some q=>hq (by injection z with z;exact z.symm)),A0i rfl]
    by_cases d:q=p
    ·rw [A0i d,d,A0i rfl];lia
    ·rw [A0e d,A0e (fun z=>d (by injection z with z;exact z.symm))];rfl
   ·rw [A0e c,A0e c]
    split <;> split <;> lia
  rw [nP (fun y _=>val y),sum_add,val e0,hp,A0e (fun z:some p=some e0.n=>hpn (by injection z))]
  by_cases d:q=p
  ·subst d;rw [A0i rfl,A0i rfl,A0i rfl];have e1:(es.map fun y=>if q=q then (if y.lord=some e0.n then y.br else 0) else 0).sum=Sb es e0.n:=by
    unfold Sb;exact nP fun y _=>A0i rfl
   rw [e1];lia
  ·rw [A0e d,A0e d,A0e (fun z=>d (by injection z with z;exact z.symm))];have e1:(es.map fun y=>if q=p then (if y.lord=some e0.n then y.br else 0) else 0).sum=0:=vA fun y _=>A0e d
   rw [e1];lia
 refine ⟨?_,?_,?_,?_,fun y hy=>?_⟩
 rotate_right
 ·obtain ⟨y0,h1,h2,rfl⟩:=mem y hy;exact W.ok y0 h1
 ·have:nms 0x25=(nms es).filter fun n=>decide (n≠e0.n):=by
   unfold cH
   show ((es.filter _).map _).map _=_
   rw [A0R,A3K];rfl
  rw [this];exact W.nd.filter _
 ·obtain ⟨c,r,rfl,hc,hcl,ho⟩:=W.hd;unfold cH;rw [A1u (by simpa [hc] using fun z=>hne z.symm),A0g];refine ⟨_,_,rfl,hc,?_,Ord.fall ho (fun x hx hxn=>?_) (fun x hx _=>hx) (fun hx=>absurd (A0c.mp hx) hne) hpn⟩
  ·show (if c.lord=some e0.n then some p else c.lord)=none
   rw [hcl,A0e (fun z=>by cases z)]
  ·rw [jH W.nd (jh _ hx) h0 hxn];exact hp
 ·intro y hy;obtain ⟨y0,h1,h2,rfl⟩:=mem y hy;have b:=W.bnd y0 h1;have be:=W.bnd e0 h0;refine ⟨?_,b.2⟩
  show 0<=(if y0.n=p then y0.own+e0.own else y0.own)
  split <;> lia
 ·intro y hy;obtain ⟨y0,h1,h2,rfl⟩:=mem y hy;have b:=W.br y0 h1
  show y0.br=(if y0.n=p then y0.own+e0.own else y0.own)+Sb _ y0.n
  rw [sbs _ h2]
  split <;> lia
theorem Kf {b:Int} (h:0<b):0<sgn t b:=by
 unfold sgn;rw [A0e 0x2];exact Int.ofNat_lt.mpr (kO 0x2)
theorem Kg {b k:Int} (hb:0<b) (hk:0<k):oA (t * k) (b * k)=oA t b:=by
 have h:=a0g (Wi (t:=t) (b:=b) 0x2) (v9 0x2) (A2Y (Kf (t:=t) hb) hk);have e1:nM t b * (sgn t b * k)=t * k:=by rw [<- A3k,A3f (nM t b),tX 0x2]
 have e2:jR t b * (sgn t b * k)=b * k:=by rw [<- A3k,A3f (jR t b),qx 0x2]
 rw [e1,e2] at h;unfold oA;rw [h.1,h.2]
theorem Nj {s:Int×Int}{a b:Int} (hs:0<s.2) (hb:0<b):Yy s (oA (s.1 * a) (s.2 * b))=oA (s.1 * (b - a)) (s.2 * b):=by
 have hB:0<s.2 * b:=A2Y hs hb;have hk:=Kf (t:=s.1 * a) hB;have e1:=tX (t:=s.1 * a) (b:=s.2 * b) 0x2;have e2:=qx (t:=s.1 * a) (b:=s.2 * b) 0x2;have hy:=v9 (t:=s.1 * a) (b:=s.2 * b) 0x2;unfold Yy
 show oA (s.1 * jR (s.1 * a) (s.2 * b) - nM (s.1 * a) (s.2 * b) * s.2) (s.2 * jR (s.1 * a) (s.2 * b))=_
 rw [<- Kg (A2Y hs hy) hk,<- Kg (t:=s.1 * (b - a)) hB hs];generalize jR (s.1 * a) (s.2 * b)=y at e2;generalize nM (s.1 * a) (s.2 * b)=x at e1;generalize sgn (s.1 * a) (s.2 * b)=k at e1 e2;have c1:(s.1 * y - x * s.2) * k=s.1 * (b - a) * s.2:=by
  have q1:(s.1 * y - x * s.2) * k=s.1 * (k * y) - (k * x) * s.2:=by
   rw [Int.sub_mul,A3k,A3f y k,A3k,A3f s.2 k,<- A3k x k,A3f x k]
  rw [q1,e1,e2,Int.mul_sub,Int.sub_mul,A3f s.2 b,A3k s.1 b]
 have c2:s.2 * y * k=s.2 * b * s.2:=by rw [A3k,A3f y k,e2,A3f s.2 (s.2 * b)]
 rw [c1,c2]
theorem SJ {l m:List Int} (h:l.Perm m):l.sum=m.sum:=by
 induction h with
 | nil=>rfl
 | cons x _ ih=>rw [A0z,A0z,ih]
 | swap x y l=>rw [A0z,A0z,A0z,A0z];lia
 | trans _ _ h1 h2=>rw [h1,h2]
theorem Nk {l m:List Nat} (h:l.Perm m):l.sum=m.sum:=by
 induction h with
 | nil=>rfl
 | cons x _ ih=>rw [A0z,A0z,ih]
 | swap x y l=>rw [A0z,A0z,A0z,A0z];lia
 | trans _ _ h1 h2=>rw [h1,h2]
def Np (es:List aM) (n:Str):Int:=((es.find? fun e=>decide (e.n=n)).map (·.br)).getD 0
theorem a0v {es:List aM} (nd:(nms es).Nodup) {e:aM} (he:e∈es):es.find? (fun x=>decide (x.n=e.n))=some e:=by
 induction es with
 | nil=>cases he
 | cons x r ih =>
  have nd':=A0P.mp nd;rcases List.mem_cons.mp he with q | q
  ·rw [q,A1M 0xA]
  ·rw [A1x (by
    have:x.n≠e.n:=fun z=>nd'.1 (show x.n∈nms r by rw [z];exact A0m.mpr ⟨e,q,rfl⟩)
    simpa using this)]
   exact ih nd'.2 q
theorem SM {es:List aM} (nd:(nms es).Nodup) {e:aM} (he:e∈es):Np es e.n=e.br:=by unfold Np;rw [a0v nd he];rfl
theorem Dv {F:aM->Int} (c:aM->Bool):∀ es:List aM,((es.filter c).map F).sum=(es.map fun y=>if c y=true then F y else 0).sum
 | []=>rfl
 | x::r=>by
  have ih:=Dv (F:=F) c r
  by_cases h:c x=true
  ·rw [A1u h,A0g,A0g,A0z,A0z,A0i h,ih]
  ·rw [A1X h,A0g,A0z,A0e h,ih];lia
theorem yh {es:List aM} (nd:(nms es).Nodup) {q:Str} (h:ss.Perm ((es.filter fun y=>decide (y.lord=some q)).map (·.n))):(ss.map (Np es)).sum=Sb es q:=by
 rw [SJ (h.map _),A0R];have:((es.filter fun y=>decide (y.lord=some q)).map (Np es∘fun x=>x.n))=(es.filter fun y=>decide (y.lord=some q)).map (·.br):=A1I fun y hy=>SM nd (A0V.mp hy).1;rw [this,Dv];unfold Sb;exact nP fun y _=>by simp only [A1J]
def wt:List aM->Str->Nat
 | [],_=>0
 | x::r,n=>if x.n=n then 2 ^ r.length else wt r n
def Sw (es:List aM) (c:aM->Bool) (ws:List aM):Nat:=(es.map fun y=>if c y=true then wt ws y.n else 0).sum
theorem uc {x:aM}{r:List aM}{c:aM->Bool}:∀ {es:List aM},(∀ y∈es,y.n≠x.n)->Sw es c (x::r)=Sw es c r
 | [],_=>rfl
 | y::es,h=>by
  have ih:=uc (x:=x) (r:=r) (c:=c) (es:=es) fun z hz=>h z (jh _ hz);unfold Sw at ih ⊢;rw [A0g,A0g,A0z,A0z,ih];have:wt (x::r) y.n=wt r y.n:=A0e fun z=>h y A0h z.symm;rw [this]
theorem SN {x:aM}{r:List aM} (nd:(nms (x::r)).Nodup):∀ y∈r,y.n≠x.n:=fun y hy z=>(A0P.mp nd).1 (show x.n∈nms r by rw [<- z];exact A0m.mpr ⟨y,hy,rfl⟩)
theorem SQ {c:aM->Bool}:∀ {r:List aM},(nms r).Nodup->Sw r c r<2 ^ r.length
 | [],_=>show 0<1 by decide
 | x::r,nd=>by
  have ih:=SQ (c:=c) (r:=r) (A0P.mp nd).2;unfold Sw;rw [A0g,A0z];have e:=uc (x:=x) (r:=r) (c:=c) (es:=r) (SN nd);unfold Sw at e ih;rw [e,pN,Nat.pow_succ];have:wt (x::r) x.n=2 ^ r.length:=A0i rfl;rw [this]
  split <;> lia
theorem T3 {e:aM}:∀ {r:List aM}{s:List Str},Ord s r->(nms r).Nodup->(∀ x∈s,x∉nms r)->e∈r->Sw r (fun y=>decide (y.lord=some e.n)) r<wt r e.n
 | x::r,s,⟨⟨p,hp,hs⟩,ho⟩,nd,hx,he=>by
  have nd':=A0P.mp nd;unfold Sw;rw [A0g,A0z];have e1:=uc (x:=x) (r:=r) (c:=fun y=>decide (y.lord=some e.n)) (es:=r) (SN nd);have nx:¬ (decide (x.lord=some e.n)=true):=fun z=>by
   have z:=sS z;rw [hp] at z;injection z with z;exact hx p hs (by rw [z];exact A0m.mpr ⟨e,he,rfl⟩)
  rw [A0e nx];unfold Sw at e1;rw [e1];rcases List.mem_cons.mp he with q | q
  ·have:wt (x::r) e.n=2 ^ r.length:=A0i (by rw [q]);rw [this];have:=SQ (c:=fun y=>decide (y.lord=some e.n)) nd'.2;unfold Sw at this;lia
  ·have:wt (x::r) e.n=wt r e.n:=A0e fun z=>nd'.1 (show x.n∈nms r by rw [z];exact A0m.mpr ⟨e,q,rfl⟩)
   rw [this];have:=T3 (e:=e) ho nd'.2 (fun y hy w=>by
    rcases List.mem_cons.mp hy with z | z
    ·exact nd'.1 (by rw [z] at w;exact w)
    ·exact hx y z (jh _ w)) q
   unfold Sw at this;lia
theorem WF.meas {es:List aM} (W:WF es) {e:aM} (he:e∈es):Sw es (fun y=>decide (y.lord=some e.n)) es<wt es e.n:=by
 obtain ⟨c,r,rfl,hc,hl,ho⟩:=W.hd;have nd':=A0P.mp W.nd;unfold Sw;rw [A0g,A0z,A0e (by show ¬ decide (c.lord=some e.n)=true;rw [hl];simp)]
 have e1:=uc (x:=c) (r:=r) (c:=fun y=>decide (y.lord=some e.n)) (es:=r) (SN W.nd);unfold Sw at e1;rw [e1];rcases List.mem_cons.mp he with q | q
 ·have:wt (c::r) e.n=2 ^ r.length:=A0i (by rw [q]);rw [this];have:=SQ (c:=fun y=>decide (y.lord=some e.n)) nd'.2;unfold Sw at this;lia
 ·have:wt (c::r) e.n=wt r e.n:=A0e fun z=>nd'.1 (show c.n∈nms r by rw [z];exact A0m.mpr ⟨e,q,rfl⟩)
  rw [this];have:=T3 (e:=e) ho nd'.2 (fun y hy w=>by rw [A0c.mp hy,<- hc] at w;exact nd'.1 w) q;unfold Sw at this;lia
theorem yj {F:aM->Nat} (c:aM->Bool):∀ es:List aM,((es.filter c).map F).sum=(es.map fun y=>if c y=true then F y else 0).sum
 | []=>rfl
 | x::r=>by
  have ih:=yj (F:=F) c r
  by_cases h:c x=true
  ·rw [A1u h,A0g,A0g,A0z,A0z,A0i h,ih]
  ·rw [A1X h,A0g,A0z,A0e h,ih];lia
theorem vC {es:List aM} (W:WF es) {e:aM} (he:e∈es)  (h:ss.Perm ((es.filter fun y=>decide (y.lord=some e.n)).map (·.n))):(ss.map (wt es)).sum<wt es e.n:=by
 have:=W.meas he;unfold Sw at this;rw [Nk (h.map _),A0R];have e2:=yj (F:=wt es∘fun x=>x.n) (fun y=>decide (y.lord=some e.n)) es;rw [e2];exact this
theorem T4 {lo:List 0x61}{m:Nat}:∀ {r:List aM}{s:List Str},Ord s r->(∀ y∈r,bJ lo (.inr y.n)=some (iu y.lord))->(∀ x∈s,∃ l,Ch lo x l/\l.length<=m)->∀ y∈r,∃ l,Ch lo y.n l/\l.length<=m+r.length
 | x::r,s,⟨⟨p,hp,hs⟩,ho⟩,hv,h,y,hy=>by
  have hx:∃ l,Ch lo x.n l/\l.length<=m+1:=by
   obtain ⟨l,h1,h2⟩:=h p hs;refine ⟨x.n::l,.up ?_ h1,by rw [pN];lia⟩;rw [hv x A0h,hp];rfl
  rcases List.mem_cons.mp hy with q | q
  ·rw [q];obtain ⟨l,h1,h2⟩:=hx;exact ⟨l,h1,by rw [pN];lia⟩
  ·obtain ⟨l,h1,h2⟩:=T4 (m:=m+1) ho (fun z hz=>hv z (jh _ hz)) (fun z hz=>by
    rcases List.mem_cons.mp hz with w | w
    ·rw [w];exact hx
    ·obtain ⟨l,h1,h2⟩:=h z w;exact ⟨l,h1,by lia⟩) y q
   exact ⟨l,h1,by rw [pN];lia⟩
theorem WF.chain {es:List aM} (W:WF es) {e:aM} (he:e∈es):∃ l,Ch (iY es) e.n l/\l.length<=es.length:=by
 have hv:∀ y∈es,bJ (iY es) (.inr y.n)=some (iu y.lord):=fun y hy=>cG W.nd hy;obtain ⟨c,r,rfl,hc,hl,ho⟩:=W.hd;have h0:Ch (iY (c::r)) "" [""]:=by
  refine .crown ?_;rw [<- hc,hv c A0h,hl];rfl
 rcases List.mem_cons.mp he with q | q
 ·rw [q,hc];exact ⟨_,h0,by simp⟩
 ·obtain ⟨l,h1,h2⟩:=T4 (m:=1) ho (fun y hy=>hv y (jh _ hy)) (fun x hx=>by rw [A0c.mp hx];exact ⟨_,h0,by simp⟩) e q;exact ⟨l,h1,by rw [pN];lia⟩
theorem sub_len {α:Type} [DecidableEq α]:∀ {l m:List α},l.Nodup->(∀ x∈l,x∈m)->l.length<=m.length
 | [],_,_,_=>A0Z _
 | x::l,m,nd,h=>by
  have nd':=A0P.mp nd;have hx:=h x A0h;have ih:=sub_len (l:=l) (m:=m.erase x) nd'.2 fun y hy=>by
   have ne:y≠x:=fun z=>nd'.1 (z ▸ hy);exact (List.mem_erase_of_ne ne).mpr (h y (jh _ hy))
  rw [List.length_erase_of_mem hx] at ih;have:=List.length_pos_of_mem hx;rw [pN];lia
theorem oF {es:List aM} (nd:(nms es).Nodup) {q:Str} (h:ss.Perm ((es.filter fun y=>decide (y.lord=some q)).map (·.n))):(∀ s∈ss,s∈nms es)/\∀ y∈es,(y.n∈ss↔y.lord=some q):=by
 refine ⟨fun s hs=>?_,fun y hy=>⟨fun hs=>?_,fun hl=>?_⟩⟩
 ·obtain ⟨y,hy,rfl⟩:=A0m.mp (h.mem_iff.mp hs);exact A0m.mpr ⟨y,(A0V.mp hy).1,rfl⟩
 ·obtain ⟨z,hz,e⟩:=A0m.mp (h.mem_iff.mp hs);obtain ⟨z1,z2⟩:=A0V.mp hz;obtain rfl:=jH nd z1 hy e;exact sS z2
 ·exact h.mem_iff.mpr (A0m.mpr ⟨y,A0V.mpr ⟨hy,A0j hl⟩,rfl⟩)
theorem Kh {es:List aM}{q:Str} (h:ss.Perm (((iY es).filter fun x=>decide (x.2=.str q)).map jw)):ss.Perm ((es.filter fun y=>decide (y.lord=some q)).map (·.n)):=by
 rw [zP] at h;have:(es.filter fun e=>decide (iu e.lord=V.str q))=es.filter fun y=>decide (y.lord=some q):=A2M fun y _=>A4f.mpr yg;rw [<- this];exact h
theorem T5 {e p:Str}{a:Int}{es:List aM}:iY (cH e p a es)=kv (fun y=>if y.lord=some e then V.str p else iu y.lord) (es.filter fun y=>decide (y.n≠e)):=by
 unfold cH iY;rw [jx (g:=Du e p a) 0xF];refine gF fun y _=>?_
 show iu (if y.lord=some e then some p else y.lord)=_
 split <;> rfl
theorem Nq {es:List aM} (nd:(nms es).Nodup) {e p:Str}{a:Int} (h:ss.Perm (((iY es).filter fun x=>decide (x.2=.str e)).map jw)):jk (moved (iY es) ss p) 0x2D=iY (cH e p a es):=by
 obtain ⟨h1,h2⟩:=oF nd (Kh h);rw [Dt ss h1,mV,T5];refine gF fun y hy=>?_;have:=h2 y (A0V.mp hy).1
 by_cases c:y.lord=some e
 ·rw [A0i c,A0i (this.mpr c)]
 ·rw [A0e c,A0e fun z=>c (this.mp z)]
theorem Nr {es:List aM} (nd:(nms es).Nodup) {e p:Str}{a:Int} (h:ss.Perm ((((es.filter fun y=>decide (y.n≠e))).filter fun y=>decide (y.lord=some e)).map (·.n))):moved (iY (es.filter fun y=>decide (y.n≠e))) ss p=iY (cH e p a es):=by
 have nd2:(nms (es.filter fun y=>decide (y.n≠e))).Nodup:=(List.filter_sublist.map _).nodup nd;obtain ⟨h1,h2⟩:=oF nd2 h;rw [Dt ss h1,T5];refine gF fun y hy=>?_;have:=h2 y hy
 by_cases c:y.lord=some e
 ·rw [A0i c,A0i (this.mpr c)]
 ·rw [A0e c,A0e fun z=>c (this.mp z)]
theorem pJ {f:aM->V}{es:List aM}{e p:Str}{a:Int} (hf:∀ y,f (Du e p a y)=f y):jk (kv f es) 0x2D=kv f (cH e p a es):=by
 rw [mV];unfold cH;rw [jx (g:=Du e p a) 0xF];exact gF fun y _=>(hf y).symm
theorem T6 {es:List aM} (nd:(nms es).Nodup) {e0 y0:aM}{p:Str} (hp:y0∈es) (hn:y0.n=p):jk (putK (lH es) (.inr p) (.int (y0.own+e0.own))) (.inr e0.n)=lH 0x25:=by
 rw [vm (by rw [<- hn];exact A0m.mpr ⟨y0,hp,rfl⟩),mV];unfold cH lH;rw [jx (g:=Du e0.n p e0.own) 0xF];refine gF fun y hy=>?_
 show (if y.n=p then V.int (y0.own+e0.own) else V.int y.own)=V.int (if y.n=p then y.own+e0.own else y.own)
 split
 ·rename_i c
  rw [jH nd (A0V.mp hy).1 hp (c.trans hn.symm)]
 ·rfl
theorem Nt {es:List aM} (nd:(nms es).Nodup) {e0 y0:aM}{p:Str} (hp:y0∈es) (hn:y0.n=p) (hne:p≠e0.n):putK (lH 0x10) (.inr p) (.int (y0.own+e0.own))=lH 0x25:=by
 rw [vm (by rw [<- hn] at hne ⊢;exact A0m.mpr ⟨y0,A0V.mpr ⟨hp,A0j hne⟩,rfl⟩)];unfold cH lH;rw [jx (g:=Du e0.n p e0.own) 0xF];refine gF fun y hy=>?_
 show (if y.n=p then V.int (y0.own+e0.own) else V.int y.own)=V.int (if y.n=p then y.own+e0.own else y.own)
 split
 ·rename_i c
  rw [jH nd (A0V.mp hy).1 hp (c.trans hn.symm)]
 ·rfl
end M
namespace L2
open PySem PySem.Spec PyProof.Rows PySem.W
theorem Kl:∀ (a b:List Nat),ltCps a b=true↔a<b
 | [],[]=>by simp [ltCps]
 | [],_::_=>by simp [ltCps]
 | _::_,[]=>by simp [ltCps]
 | x::xs,y::ys=>by
  have ih:=Kl xs ys;unfold ltCps;rw [List.cons_lt_cons_iff]
  by_cases h:x<y
  ·simp [h]
  ·by_cases h2:x=y
   ·subst h2;simp [ih]
   ·simp [h,h2]
theorem yp:∀ (l:List Str),sortedS l=true->l.Pairwise fun a b=>a.cps.toList<=b.cps.toList
 | [],_=>.nil
 | x::r,h=>by
  have key:∀ (r:List Str) (p:Str),risingS p r=true->(∀ y∈r,p.cps.toList<=y.cps.toList)/\r.Pairwise fun a b=>a.cps.toList<=b.cps.toList:=by
   intro r
   induction r with
   | nil=>intro p _;exact ⟨fun y hy=>(by cases hy),.nil⟩
   | cons x r ih =>
    intro p hp;simp only [risingS,A0Y,Bool.not_eq_true'] at hp;obtain ⟨h1,h2⟩:=ih x hp.2;have h0:p.cps.toList<=x.cps.toList:=by
     refine List.not_lt.mp fun c=>?_;rw [(Kl _ _).mpr c] at hp;exact absurd hp.1 0x7
    refine ⟨fun y hy=>?_,.cons (fun y hy=>h1 y hy) h2⟩;rcases List.mem_cons.mp hy with q | q
    ·rw [q];exact h0
    ·exact List.le_trans h0 (h1 y q)
  obtain ⟨h1,h2⟩:=key r x h;exact .cons (fun y hy=>h1 y hy) h2
theorem pK {l m:List Str} (p:l.Perm m) (h1:sortedS l=true) (h2:sortedS m=true):l=m :=
 A3H (fun a b _ _ x y=>qb (List.le_antisymm x y)) (yp l h1) (yp m h2) p
theorem Hr {l m:List Str} (p:l.Perm m) (h1:l.Pairwise fun x y=>x.cps.toList<y.cps.toList) (h2:m.Pairwise fun x y=>x.cps.toList<y.cps.toList):l=m :=
 A3H (le:=fun x y=>x.cps.toList<=y.cps.toList) (fun a b _ _ x y=>qb (List.le_antisymm x y)) (h1.imp fun q=>List.le_of_lt q) (h2.imp fun q=>List.le_of_lt q) p
theorem Km:∀ {xs:List V}{us:List Value},xs.length=us.length->(∀ (i:Nat) (x:V) (u:Value),xs[i]?=some x->us[i]?=some u->RelV x u)->Vals xs us
 | [],[],_,_=>.nil
 | [],_::_,h,_=>by simp at h
 | _::_,[],h,_=>by simp at h
 | x::xs,u::us,h,hr=>.cons (hr 0 x u rfl rfl) (Km (by simpa using h) fun i a b h1 h2=>hr (i+1) a b (by simpa using h1) (by simpa using h2))
inductive T7 (xs:List V) (H:Hp) (Q:VK):Prop
 | mk (a:Addr) (kvs:List (Prod L2.Key V)) (_:xs=[.ref a]) (_:H a=some 0x24) (_:∀ p,H p=none->Q (.ref p) (upd H p (.lst (kvs.map fun kv=>kV kv.1)))):T7 xs H Q
theorem Hs (hin:X.A.handled=none):gZ X (.type "list") T7:=by
 intro pins s σ H xs us Q I r h;obtain ⟨a,kvs,rfl,ha,q⟩:=h;obtain ⟨u,rfl,ru⟩:=vals1 r;cases ru;obtain ⟨z,hs,vs,ep,rel,dat⟩:=RZ I ha;have hlen:vs.length=kvs.length:=rel.length.symm;refine kdl_call (kdl_dict (knd:=bV X.prog X.w) (kvs:=vs) (ep:=ep) hs) hin dat 0x2 fun h' tk acc c hk hS hI=>?_;have hv:Vals (kvs.map fun kv=>kV kv.1) acc.toList:=by
  refine Km (by have h1:=hI.1;have h2:acc.toList.length=acc.size:=A0I;rw [cg];lia) fun i x u h1 h2=>?_;rw [jY] at h1;obtain ⟨kv,hkv,rfl⟩:=A0w.mp h1;obtain ⟨u',hu',_⟩:=rel.at hkv;obtain ⟨k,y,e1,e2⟩:=hI.2 i u (by rw [<- A3l];exact h2);rw [hu'] at e1;cases e1;exact QG e2
 exact ⟨.ref s.heap.objs.size,_,I.laid (o:=.lst (kvs.map fun kv=>kV kv.1)) (t':=tk) hk (A0f _) ⟨by rw [cg];exact z,acc.toList,c,hv,hS⟩,rfl,q _ 0x48⟩
theorem YH {o:Obj}{e:Str} (h:H a=some 0x63) (hv:bJ kvs 0x2D=some v):fQ H a (V.str e) (some v):=.inl ⟨kvs,.inr e,.inr ⟨_,h⟩,rfl,hv.symm⟩
end L2
namespace M
open PySem L2 PyProof.Rows
theorem rT {f:aM->V}{es:List aM}{k:Nat}{Q:VK} (p:aM->Bool) (ha:H a=some (.dK (kv f es))) (hl:es.length<=1000)
  (hd:∀ (o:Obj) (R:VK),R (.ref a) (upd H a (.gM o (.dK (kv f es))))->td σ (upd H a (.gM o (.dK (kv f es)))) R)
  (turn:∀ (o:Obj) (y:aM) (Hz:Hp) (A:V->Hp->Prop) (B:Hp->Prop),y∈es->Same (upd H a (.gM o (.dK (kv f es)))) Hz->(if p y=true then A (V.str y.n) Hz else B Hz)->g (V.str y.n) (jD σ k ix) Hz fun σ2 H4=>Kp (jD σ k ix) σ2/\tt σ2 H4 fun b H5=>if b=true then te σ2 H5 A else B H5)
  (done:∀ D Hz,Same H Hz->H D=none->Hz D=some (.lst (((es.filter p).map (·.n)).map V.str))->Q (.ref D) Hz):ZQ (Jo k ix (Ys td) g tt te) σ H Q:=by
 refine ⟨a,_,ha,fun o=>hd o _ ⟨a,o,kv f es,rfl,ao,fun D hD=>?_⟩⟩;have nD:a≠D:=aq (show (upd H a (.gM o (.dK (kv f es)))) a=some (.gM o (.dK (kv f es))) from ao) hD
 have QX:H D=none:=by rw [ak (A0k nD)] at hD;exact hD
 refine xT (o:=o) (fun i ys Hz=>ys=(((es.take i).filter p).map (·.n)).map V.str/\Same (upd H a (.gM o (.dK (kv f es)))) Hz/\Hz D=some (.lst ys)) (fun i ys Hz h=>h.2.1 _ _ ao) ⟨rfl,aP hD _,ao⟩ (fun i ys Hz h=>h.2.2) ?_ ?_
 ·rintro i ys Hz kx hkv ⟨rfl,sz,jW⟩;rw [jY] at hkv;obtain ⟨y,hy,rfl⟩:=A0w.mp hkv;refine turn o y Hz _ _ (wD hy) sz ?_;have step:(((es.take (i+1)).filter p).map (·.n)).map V.str=(((es.take i).filter p).map (·.n)).map V.str++(if p y=true then [V.str y.n] else []):=by
   rw [A1o,hy,A3e,jP,jP]
   congr 1
   cases e:p y <;> simp [e]
  by_cases c:p y=true
  ·rw [A0i c] at step ⊢;refine ⟨jW,?_,step.symm,bL sz hD,ao⟩;rw [cg,cg];have:=A0K p (es.take i);rw [A0G] at this;exact bU 0x2
  ·rw [A0e c] at step ⊢;refine ⟨by rw [step,A1s],sz,jW⟩
 ·rintro ys Hz ⟨rfl,sz,jW⟩;rw [iZ,A1h] at jW;refine ⟨sz _ _ ao,?_⟩;exact done D _ (lZ ha sz) QX (by rw [ak (A0k nD)];exact jW)
theorem rW {xs:List Str}{k:Nat}{Q:VK} (p:Str->Bool) (e:Str->V) (hs:bT K H1 a (xs.map V.str)) (hD:H1 D=none) (hl:xs.length<=1000)
  (turn:∀ (x:Str) (Hz:Hp) (A:V->Hp->Prop) (B:Hp->Prop),x∈xs->Same H1 Hz->(∀ H',Same Hz H'->if p x=true then A (e x) H' else B H')->g (V.str x) (jD σ k ix) Hz fun σ2 H4=>Kp (jD σ k ix) σ2/\tt σ2 H4 fun b H5=>if b=true then te σ2 H5 A else B H5)
  (done:∀ Hz,Same H1 Hz->Hz D=some (.lst ((xs.filter p).map e))->Q (.ref D) Hz):pD (Ze K a) D σ k ix g tt te Q H1:=by
 refine xu (xs:=xs.map V.str) (fun i ys Hz=>ys=((xs.take i).filter p).map e/\Same H1 Hz/\Hz D=some (.lst ys)) (fun i ys Hz h=>h.2.1.seq hs) ⟨rfl,aP hD _,ao⟩ (fun i ys Hz h=>h.2.2) ?_ ?_
 ·rintro i ys Hz v hv ⟨rfl,sz,jW⟩;rw [jY] at hv;obtain ⟨x,hx,rfl⟩:=A0w.mp hv;refine turn x Hz _ _ (wD hx) sz fun H' s'=>?_;have step:((xs.take (i+1)).filter p).map e=((xs.take i).filter p).map e++(if p x=true then [e x] else []):=by
   rw [A1o,hx,A3e,jP]
   congr 1
   cases c:p x <;> simp [c]
  by_cases c:p x=true
  ·rw [A0i c] at step ⊢;refine ⟨s' _ _ jW,?_,step.symm,bL (sz.trans s') hD,ao⟩;rw [cg];have:=A0K p (xs.take i);rw [A0G] at this;exact bU 0x2
  ·rw [A0e c] at step ⊢;exact ⟨by rw [step,A1s],sz.trans s',s' _ _ jW⟩
 ·rintro ys Hz ⟨rfl,sz,jW⟩;rw [cg,A1h] at jW;exact done Hz sz jW
structure Ad where
 x:Addr
 dx:Addr
 a1:Addr
 a2:Addr
 a3:Addr
 a4:Addr
 a5:Addr
 B:Addr
 l:Addr
 h:Addr
 o:Addr
 d:Addr
 kn:Addr
 dd:Addr
 kvs:List 0x61
 wd:Int
abbrev Bk (q:Ad) (H:Hp) (es:List aM) (ks:List Str):Prop:=cZ H q.B q.l q.h q.o q.d q.kn q.dd q.kvs (iY es) (hoL es) (lH es) (qU es) ks
abbrev Ln (C:Addr) (q:Ad) (H:Hp) (es:List aM):Prop:=bZ C H q.x q.dx q.a1 q.a2 q.a3 q.a4 q.a5 (iY es) (hoL es) (lH es) (Kd es) (zN es)
inductive Ht (C:Addr) (vs:List V) (H:Hp) (Q:VK) (cD:XK):Prop
 | mk (q:Ad) (es:List aM) (_:vs=[.ref q.x]) (_:Ln C q H es) (_:es.length<64) (_:∀ (r:Addr) (ss:List Str) (H':Hp),Same H H'->H r=none->H' r=some 0x49->ss.Perm (lE (es.map (·.man)))->ss.Pairwise (fun x y=>x.cps.toList<y.cps.toList)->Q (.ref r) H'):Ht C vs H Q cD
theorem a0w:aQ A5S A5S (aJ JK):=0x0
def scF1:Scope:={ kind:=.function,names:=[(".0",.local),("man",.local)],isGenerator:=false,isCoroutine:=false }
theorem csF1:fO A5S (aJ JK) scF1 ["man"] [] []:=0xB
theorem ndF1:((["man"]:List Str)++([]:List Str)).Nodup:=by decide +kernel
theorem WM (T:cW K C) (ms:mg "sorted"=none) (F:fK K "folk" "Land.folk" JK f fd):aL P w K mg base bN 1 f fd A5S (Ht C):=by
 refine F.ok a0w 0x1 0x3;obtain ⟨q,es,rfl,L,hl,k⟩:=h;refine ⟨_,aG (aZ (bF (qC hr.hd) rfl ms fZ (aj (pG (Sh rfl csF1 (WK 0xD) (fun s H fp C'=>⟨bD (i:=0) ndF1 rfl 0x8,mH,pv 0⟩))) aC))),?_⟩;have nx:=aK L.o L.l2 0xE;refine ⟨q.a2,_,L.l2,fun o=>⟨_,rfl,q.x,C,q.dx,_,_,rfl,by rw [ak nx];exact L.o,T.cl,T.n2,rfl,q.a2,o,_,rfl,ao,fun D hD=>?_⟩⟩;have nD:q.a2≠D:=aq (show (upd H q.a2 (.gM o (.dK (hoL es)))) q.a2=some (.gM o (.dK (hoL es))) from ao) hD
 have QX:H D=none:=by rw [ak (A0k nD)] at hD;exact hD
 refine Hq (fun i zs Hz=>zs=lE ((es.take i).map (·.man))/\Same (upd H q.a2 (.gM o (.dK (hoL es)))) Hz/\Hz D=some (jq P w D zs)) (fun i zs Hz h=>h.2.1 _ _ ao) ⟨rfl,aP hD _,ao⟩ (fun i zs Hz h=>h.2.2) ?_ ?_
 ·rintro i zs Hz kx hkv ⟨rfl,sz,jW⟩;rw [jY] at hkv;obtain ⟨y,hy,rfl⟩:=A0w.mp hkv;refine ⟨Kp.set rfl (Kp.refl _),jQ ⟨_,rfl,y.man,rfl,jW,?_,?_,bL sz hD,ao⟩⟩
  ·have:=qD ((es.take i).map (·.man));rw [cg,A0G] at this;lia
  ·rw [A1o,hy,jP];exact (yd _ _).symm
 ·rintro zs Hz ⟨rfl,sz,jW⟩;rw [iZ,A1h] at jW;have s2:=lZ L.l2 sz;refine ⟨sz _ _ ao,D,_,rfl,by rw [ak (A0k nD)];exact jW,?_,fun l ys hl0 hp hs=>?_⟩
  ·have:=qD (es.map (·.man));rw [cg] at this;lia
  ·exact k l ys _ (bL s2 (s2.free hl0)) (s2.free hl0) ao hp hs
abbrev WQ:Stmt:=top 53
abbrev a0x:Stmt:=top 54
abbrev WR:Stmt:=top 55
abbrev a0y:Stmt:=top 72
def Ap (q:Ad):Prop:=[q.a1,q.a2,q.a3,q.a4,q.a5,q.B,q.l,q.h,q.o,q.d,q.kn,q.dd].Nodup
theorem dD {l:List Addr} (h:l.Nodup) (i j:Nat)  (ha:l[i]?=some a) (hb:l[j]?=some b) (hij:i≠j):a≠b:=by
 obtain ⟨h1,e1⟩:=A0l.mp ha;obtain ⟨h2,e2⟩:=A0l.mp hb;intro q;exact hij ((List.getElem_inj h).mp (by rw [e1,e2,q]))
inductive Dw (vs:List V) (H:Hp) (Q:VK) (cD:XK):Prop
 | mk (q:Ad) (es:List aM) (ks:List Str) (e:Str) (_:vs=[.ref q.B,.str e]) (_:Ap q) (_:Bk q H es ks) (_:(nms es).Nodup) (_:es.length<64) (_:∀ (r:Addr) (ss:List Str) (H':Hp),Same H H'->H r=none->H' r=some 0x49->ss.Perm ((es.filter fun y=>decide (y.lord=some e)).map (·.n))->sortedS ss=true->Q (.ref r) H'):Dw vs H Q cD
inductive T8 (vs:List V) (H:Hp) (Q:VK) (cD:XK):Prop
 | mk (q:Ad) (es:List aM) (ks:List Str) (m:Str) (_:vs=[.ref q.B,.str m]) (_:Ap q) (_:Bk q H es ks) (_:(nms es).Nodup) (_:es.length<64) (_:∀ (r:Addr) (ss:List Str) (H':Hp),Same H H'->H r=none->H' r=some 0x49->ss.Perm ((es.filter fun y=>decide (y.man=m)).map (·.n))->sortedS ss=true->Q (.ref r) H'):T8 vs H Q cD
inductive T9 (vs:List V) (H:Hp) (Q:VK) (cD:XK):Prop
 | mk (q:Ad) (es:List aM) (ks:List Str) (e:Str) (l:List Str) (_:vs=[.ref q.B,.str e]) (_:Ap q) (_:Bk q H es ks) (_:WF es) (_:e∈nms es) (_:Ch (iY es) e l) (_:l.length<=1000) (_:∀ (r:Addr) (H':Hp),Same H H'->H r=none->H' r=some (.lst (l.map V.str))->Q (.ref r) H'):T9 vs H Q cD
theorem Nu (o:Option Str) (e:Str):Pr (iu o) (V.str e)=true:=by cases o <;> rfl
theorem Tc {o:Option Str}{e:Str}:decide (iu o=V.str e)=decide (o=some e):=A4f.mpr yg
theorem cZ.gl {q:Ad}{es:List aM} (b:Bk q H es ks):fQ H q.B (V.str "lords") (some (.ref q.l)):=gQ b.b b.vl
theorem cZ.gh {q:Ad}{es:List aM} (b:Bk q H es ks):fQ H q.B (V.str "holders") (some (.ref q.h)):=gQ b.b b.vh
theorem cZ.go {q:Ad}{es:List aM} (b:Bk q H es ks):fQ H q.B (V.str "own") (some (.ref q.o)):=gQ b.b b.vo
theorem cZ.gd {q:Ad}{es:List aM} (b:Bk q H es ks):fQ H q.B (V.str "due") (some (.ref q.d)):=gQ b.b b.vd
theorem cZ.gk {q:Ad}{es:List aM} (b:Bk q H es ks):fQ H q.B (V.str "known") (some (.ref q.kn)):=gQ b.b b.vk
theorem cZ.gx {q:Ad}{es:List aM} (b:Bk q H es ks):fQ H q.B (V.str "dead") (some (.ref q.dd)):=gQ b.b b.vx
theorem Ov {f:aM->V}{es:List aM}{e:aM} (h:H a=some (.dK (kv f es))) (nd:(nms es).Nodup) (he:e∈es):fQ H a (V.str e.n) (some (f e)):=gQ h (cG nd he)
theorem a1V:aQ A5H A5H (aJ WQ):=0x0
def a1W:Scope:={ kind:=.function,names:=[(".0",.local),("_law_one",.local),("_law_book_here",.free),("_law_estate",.free)],isGenerator:=false,isCoroutine:=false }
theorem a1X:fO A5H (aJ WQ) a1W ["_law_one"] A5H [0,1]:=0xB
theorem a1Y:((["_law_one"]:List Str)++(A5H:List Str)).Nodup:=by decide +kernel
theorem a0z (ms:mg "sorted"=none) (F:fK K "_law_under" "_law_under" WQ f fd):aL P w K mg base bN 1 f fd A5H Dw:=by
 refine F.ok a1V 0x1 0x3;obtain ⟨q,es,ks,e,rfl,ap,bk,nd,hl,k⟩:=h;refine ⟨_,aG (aZ (bF fU rfl ms fZ (aj (pG (gW rfl a1X (tR 0x1A) (fun s H fp C'=>⟨bD (i:=0) a1Y rfl 0x8,mJ (aV dO (bf (u1 hr) 0x5E 0x3A 0x5) (pv 2) (bH _)),pv 0⟩))) aC))),?_⟩;have nB:q.B≠q.l:=dD ap 5 6 rfl rfl 0x7;have gB:∀ {o:Obj}{Hz:Hp},Same (upd H q.l (.gM o (.dK (iY es)))) Hz->fQ Hz q.B (V.str "lords") (some (.ref q.l)):=fun sz=>gQ (sz _ _ (by rw [ak nB];exact bk.b)) bk.vl;refine rT (fun y=>decide (y.lord=some e)) bk.l 0x2 (fun o R hR=>⟨_,rfl,q.B,_,rfl,gB (Same.refl _),hR⟩) (fun o y Hz A B hy sz hAB=>?_) (fun D Hz sz QX jW=>?_)
 ·refine ⟨Kp.set rfl (Kp.refl _),_,rfl,q.B,_,rfl,gB sz,_,rfl,q.l,_,rfl,YH (sz _ _ ao) (cG nd hy),_,rfl,Nu _ _,_,rfl,?_⟩;rw [Tc];refine iQ 0x54 0x54
  ·rw [A0i c] at hAB;exact ⟨_,rfl,hAB⟩
  ·rw [A0e c] at hAB;exact hAB
 ·refine ⟨D,_,rfl,bT.of jW,?_,fun l ss hl0 hp hs=>?_⟩
  ·rw [cg];exact A0X (A0K _ _) hl
  ·exact k l ss _ (bL sz (sz.free hl0)) (sz.free hl0) ao hp hs
theorem a1Z:aQ A5U A5U (aJ WR):=0x0
def a2a:Scope:={ kind:=.function,names:=[(".0",.local),("_law_one",.local),("_law_book_here",.free),("_law_man",.free)],isGenerator:=false,isCoroutine:=false }
theorem a2b:fO A5U (aJ WR) a2a ["_law_one"] A5U [0,1]:=0xB
theorem a2c:((["_law_one"]:List Str)++(A5U:List Str)).Nodup:=by decide +kernel
theorem a0A (ms:mg "sorted"=none) (F:fK K "_law_held" "_law_held" WR f fd):aL P w K mg base bN 1 f fd A5U T8:=by
 refine F.ok a1Z 0x1 0x3;obtain ⟨q,es,ks,m,rfl,ap,bk,nd,hl,k⟩:=h;refine ⟨_,aG (aZ (bF fU rfl ms fZ (aj (pG (gW rfl a2b (tR 0x1A) (fun s H fp C'=>⟨bD (i:=0) a2c rfl 0x8,mJ (aV dO (bf (u1 hr) 0x5E 0x3A 0x5) (pv 2) (bH _)),pv 0⟩))) aC))),?_⟩;have nB:q.B≠q.h:=dD ap 5 7 rfl rfl 0x7;have gB:∀ {o:Obj}{Hz:Hp},Same (upd H q.h (.gM o (.dK (hoL es)))) Hz->fQ Hz q.B (V.str "holders") (some (.ref q.h)):=fun sz=>gQ (sz _ _ (by rw [ak nB];exact bk.b)) bk.vh;refine rT (fun y=>decide (y.man=m)) bk.h 0x2 (fun o R hR=>⟨_,rfl,q.B,_,rfl,gB (Same.refl _),hR⟩) (fun o y Hz A B hy sz hAB=>?_) (fun D Hz sz QX jW=>?_)
 ·refine ⟨Kp.set rfl (Kp.refl _),_,rfl,q.B,_,rfl,gB sz,_,rfl,q.h,_,rfl,YH (sz _ _ ao) (cG nd hy),_,rfl,rfl,_,rfl,?_⟩;rw [jc];refine iQ 0x54 0x54
  ·rw [A0i c] at hAB;exact ⟨_,rfl,hAB⟩
  ·rw [A0e c] at hAB;exact hAB
 ·refine ⟨D,_,rfl,bT.of jW,?_,fun l ss hl0 hp hs=>?_⟩
  ·rw [cg];exact A0X (A0K _ _) hl
  ·exact k l ss _ (bL sz (sz.free hl0)) (sz.free hl0) ao hp hs
theorem Dz:∀ ss:List Str,dJ H (ss.map V.str) (ss.map PyData.str)
 | []=>.nil
 | x::r=>.cons (.str x) (Dz r)
theorem yq:∀ {ss:List Str},(∀ s∈ss,PyData.strOk s=true)->PyData.canLayAll0 (ss.map PyData.str)=true
 | [],_=>by simp [PyData.canLayAll0]
 | x::r,h=>by simp [PyData.canLayAll0,PyData.canLay0,h x A0h,yq fun s hs=>h s (jh _ hs)]
theorem DG (h:∀ s∈ss,PyData.strOk s=true):(PyData.list (ss.map .str)).canLay0=true:=by
 have:=yq h
 simpa [PyData.canLay0] using this
theorem yr:∀ ss:List Str,PyData.depthAll (ss.map PyData.str)<=2
 | []=>by simp [PyData.depthAll]
 | x::r=>by
  have:=yr r;simp [PyData.depthAll,PyData.depth];lia
theorem Td (ss:List Str):(PyData.list (ss.map .str)).depth<=8:=by
 have:=yr ss;simp [PyData.depth];lia
theorem strs_nil:∀ ss:List Str,PyData.eqv (.list (ss.map .str)) (.list [])=decide (ss=[])
 | []=>by simp [PyData.eqv,PyData.eqvAll]
 | x::r=>by simp [PyData.eqv,PyData.eqvAll]
theorem Te (x:V) (xs:List V):gw (x::xs) (some 1) none=xs:=by
 unfold gw;have e1:HT.eV (x::xs).length 0 (some 1)=1:=by
  unfold HT.eV;simp
 have e2:HT.eV (x::xs).length (x::xs).length none=xs.length+1:=rfl;rw [e1,e2];simp
theorem YJ:∀ (es:List aM) (n:Str),wt es n<=2 ^ es.length
 | [],_=>A0Z _
 | x::r,n=>by
  unfold wt;rw [pN,Nat.pow_succ];have:=YJ r n;have h2:0<2 ^ r.length:=Nat.pow_pos 0x7
  split <;> lia
theorem Tf:∀ {es:List aM}{n:Str},n∈nms es->1<=wt es n
 | x::r,n,h=>by
  unfold wt;have h2:0<2 ^ r.length:=Nat.pow_pos 0x7
  split
  ·lia
  ·rename_i c
   rcases List.mem_cons.mp h with q | q
   ·exact absurd q.symm c
   ·exact Tf q
theorem Hu {es:List aM}:∀ {ss:List Str},(∀ s∈ss,s∈nms es)->ss.length<=(ss.map (wt es)).sum
 | [],_=>A0f _
 | x::r,h=>by
  have h1:=Tf (h x A0h);have h2:=Hu (es:=es) (ss:=r) fun s hs=>h s (jh _ hs);rw [pN,A0g,A0z];lia
theorem DK:aQ ["_law_book_here", "_law_estate", "_law_found", "_law_ahead_here"] A5H (aJ a0x):=0x0
inductive WT (vs:List V) (H:Hp) (Q:VK) (cD:XK):Prop
 | mk (q:Ad) (es:List aM) (ks:List Str) (e:aM) (_:vs=[.ref q.B,.str e.n]) (_:Ap q) (_:Bk q H es ks) (_:WF es) (_:e∈es) (_:es.length<=18) (_:∀ H':Hp,Same H H'->Q (.int e.br) H'):WT vs H Q cD
theorem a0B (F:fK K "_law_breadth" "_law_breadth" a0x f fd)  (G1:aL P w K mg base bN 1 g1 d1 A5H Dw) (M1:Ms K mg "_law_under" g1 d1 A5H):aL P w K mg base bN 2 f fd A5H WT:=by
 refine F.ok DK 0x1 0x3;obtain ⟨q,es,ks,e,rfl,ap,bk,W,he,hl,k⟩:=h;refine ⟨_,au (aU (i:=2) DK.nd rfl 0x8 (bf (u1 hr) 0x1A 0x11 0x5))
  (au (aU (i:=3) DK.nd rfl 0x8 (bC G1 hr rfl M1.m M1.k M1.b .nil aY (aj 0x3A 0x33)))
  (au (lO A0W (aV (Qy hr.units) (pv 3) (eG aC) (bH _))
   (au (aU (i:=2) DK.nd rfl 0x8 (aR dH (pv 2) (bf (u1 hr) 0x1A (aO bI (pv 3) aA 0x5) 0x5)))
   (aG (aU (i:=3) DK.nd rfl 0x8 (aR pC (dY jC (pv 3) (cA aA) fj) (bC G1 hr rfl M1.m M1.k M1.b .nil aY (aj 0x3A (aj (aO bI (pv 3) aA 0x5) aC))))))))
  (aG (aZ (pv 2))))),?_⟩
 have hw:2 ^ es.length<=262144:=A0M (A2I 0x7 hl) 0x7;refine ⟨_,rfl,q.B,_,rfl,bk.go,_,rfl,q.o,_,rfl,Ov bk.o W.nd he,?_⟩;refine ⟨_,rfl,_,rfl,q,es,ks,e.n,rfl,ap,bk,W.nd,by lia,fun t ss H1 s1 ht0 ht1 hp hs=>?_⟩;refine ⟨fun m σ Hx=>∃ (found:Int) (t:Addr) (ss:List Str),m=(ss.map (wt es)).sum/\σ=[some (.ref q.B),some (.str e.n),some (.int found),some (.ref t)]/\Same H Hx/\Hx t=some 0x49/\(∀ s∈ss,s∈nms es)/\found+(ss.map (Np es)).sum=e.br/\(ss.map (wt es)).sum<=262144,⟨_,e.own,t,ss,rfl,rfl,s1,ht1,(oF W.nd hp).1,?_,?_⟩,?_⟩
 ·rw [yh W.nd hp];exact (W.br e he).symm
 ·have:=vC W he hp;have h2:=YJ es e.n;lia
 rintro m σ Hx ⟨found,t,ss,rfl,rfl,sx,tx,hm,hf,hb⟩;refine ⟨_,rfl,small 0xA,fun z hz=>?_⟩;have sz:=aP hz (.lst []);refine ⟨_,_,.lst (sz _ _ tx) (Dz ss),.lst ao .nil,DG (fun s hs=>by obtain ⟨y,hy,rfl⟩:=dM (hm s hs);exact W.ok y hy),DG (ss:=[]) (fun _ h=>nomatch h),Td ss,_,rfl,?_⟩
 rw [strs_nil];cases ss with
 | nil =>
  refine cu ⟨_,rfl,?_⟩;have:found=e.br:=by simpa using hf
  rw [this];exact k _ (sx.trans sz)
 | cons x r =>
  refine dB ?_;obtain ⟨y,hy,rfl⟩:=dM (hm x A0h);have sxz:=sx.trans sz;have bz:=bk.same sxz;have tz:=sz _ _ tx;rw [A0g,A0z] at hf hb;have lr:=Hu (es:=es) (ss:=r) fun s hs=>hm s (jh _ hs);refine ⟨fun σ' H'=>∃ (found:Int) (t:Addr) (ss:List Str),(ss.map (wt es)).sum<wt es y.n+(r.map (wt es)).sum/\σ'=[some (.ref q.B),some (.str e.n),some (.int found),some (.ref t)]/\Same H H'/\H' t=some 0x49/\(∀ s∈ss,s∈nms es)/\found+(ss.map (Np es)).sum=e.br/\(ss.map (wt es)).sum<=262144,fun σ' H' ⟨fo,t',ss',q1,q2⟩=>⟨_,by rw [A0g,A0z];exact q1,fo,t',ss',rfl,q2⟩,?_⟩;refine ⟨_,rfl,_,rfl,q.B,_,rfl,bz.go,_,rfl,t,_,_,_,rfl,rfl,bT.of tz,aH (j:=0) rfl,q.o,_,rfl,Ov bz.o W.nd hy,_,_,rfl,rfl,?_⟩;refine ⟨_,rfl,_,rfl,t,_,rfl,bT.of tz,fun c hc=>?_⟩;rw [A0g,Te];have sc:=aP hc (.lst (r.map V.str));have bc:=bz.same sc;refine ⟨_,rfl,_,rfl,t,_,_,_,rfl,rfl,bT.of (sc _ _ tz),aH (j:=0) rfl,q,es,ks,y.n,rfl,ap,bc,W.nd,by lia,fun u su H2 s2 hu0 hu1 hpu hsu=>?_⟩;have hum:=vC W hy hpu;have hus:=yh W.nd hpu;have humm:=(oF W.nd hpu).1;have lu:=Hu humm;refine ⟨c,u,_,_,rfl,rfl,s2 _ _ ao,hu1,?_,fun v hv=>?_⟩
  ·rw [cg,cg];exact small 0x2
  have e2:r.map V.str++su.map V.str=(r++su).map V.str:=by rw [jP]
  rw [e2];refine ⟨_,v,r++su,?_,rfl,bL ((sxz.trans sc).trans s2) (((sxz.trans sc).trans s2).free hv),ao,fun s hs=>?_,?_,?_⟩
  ·rw [jP,A3i];lia
  ·rcases A0v.mp hs with z | z
   ·exact hm s (jh _ z)
   ·exact humm s z
  ·rw [jP,A3i,hus];have b1:=SM W.nd hy;have b2:=W.br y hy;rw [b1] at hf;lia
  ·rw [jP,A3i];lia
theorem Ko {e:Str}{l:List Str} (h:Ch lo e l):∃ r,l=e::r:=by cases h <;> exact ⟨_,rfl⟩
theorem YK:aQ ["_law_book_here", "_law_estate", "_law_found"] A5H (aJ a0y):=0x0
theorem Kq (l0:List Str) (y:Str):wX ((l0++[y]).map V.str) (-1)=some (V.str y):=by
 rw [jP];exact Ce _ _
theorem a0C (F:fK K "_law_chain" "_law_chain" a0y f fd):aL P w K mg base bN 1 f fd A5H T9:=by
 refine F.ok YK 0x1 0x3;obtain ⟨q,es,ks,e,l,rfl,ap,bk,W,he,hc,hl,k⟩:=h;refine ⟨_,au (aU (i:=2) YK.nd rfl 0x8 (eG 0x33))
  (au (lO A0W (aV oV (aO bI (pv 2) (wM rC aA) 0x5) aN (bH _))
   (aG (bO (jj A0H A0T A0U dR (pv 2) (aj (bf (u1 hr) 0x1A (aO bI (pv 2) (wM rC aA) 0x5) 0x5) aC)))))
  (aG (aZ (pv 2)))),?_⟩
 refine ⟨_,rfl,small 0xA,fun t ht=>?_⟩;have s1:=aP ht (.lst [V.str e]);obtain ⟨r0,hr0⟩:=Ko hc;refine ⟨fun m σ Hx=>∃ (pre:List Str) (cur:Str) (rest:List Str),m=rest.length/\l=pre++cur::rest/\Ch (iY es) cur (cur::rest)/\cur∈nms es/\σ=[some (.ref q.B),some (.str e),some (.ref t)]/\Same H Hx/\Hx t=some (.lst ((pre++[cur]).map V.str)),⟨_,[],e,r0,rfl,hr0,hr0 ▸ hc,he,rfl,s1,ao⟩,?_⟩;rintro m σ Hx ⟨pre,cur,rest,rfl,hle,hch,hcm,rfl,sx,tx⟩;have bx:=bk.same sx;obtain ⟨y,hy,rfl⟩:=dM hcm;have hvy:=cG (f:=fun e=>iu e.lord) W.nd hy;refine ⟨_,rfl,_,rfl,t,_,_,_,rfl,rfl,bT.of tx,Kq pre y.n,rfl,_,rfl,?_⟩;rw [jc]
 by_cases c:y.n=""
 ·rw [A0j c];refine cu ⟨_,rfl,?_⟩;have:rest=[]:=by
   generalize hz:y.n::rest=z at hch;cases hch with
   | crown _=>injection hz
   | up hv _ =>
    rw [hvy,W.crown y hy c] at hv;cases hv
  rw [this] at hle;exact k t Hx sx ht (by rw [tx,hle])
 ·rw [A0s c];obtain ⟨p,hp1,hp2,_⟩:=W.lord y hy c;have g1:=Ov bx.l W.nd hy;rw [hp1] at g1;have hrest:∃ r',rest=p::r'/\Ch (iY es) p (p::r'):=by
   generalize hz:y.n::rest=z at hch;cases hch with
   | crown hv =>
    rw [hvy,hp1] at hv;cases hv
   | up hv h2 =>
    rw [hvy,hp1] at hv;injection hv with hv;injection hv with hv;injection hz with _ hz;obtain ⟨r',hr'⟩:=Ko h2;rw [hz];rw [hr'] at h2 ⊢;rw [hv];exact ⟨r',rfl,h2⟩
  obtain ⟨r',rfl,hch2⟩:=hrest;have hlen:pre.length+(r'.length+2)=l.length:=by rw [hle];simp
  refine dB ⟨fun σ' H'=>∃ (pre:List Str) (cur:Str) (rest:List Str),rest.length<(p::r').length/\l=pre++cur::rest/\Ch (iY es) cur (cur::rest)/\cur∈nms es/\σ'=[some (.ref q.B),some (.str e),some (.ref t)]/\Same H H'/\H' t=some (.lst ((pre++[cur]).map V.str)),fun σ' H' ⟨a,b,c,q1,q2⟩=>⟨_,q1,a,b,c,rfl,q2⟩,?_⟩;refine ⟨_,rfl,.inl ⟨rfl,_,bT.of tx⟩,_,rfl,q.B,_,rfl,bx.gl,_,rfl,_,rfl,t,_,_,_,rfl,rfl,bT.of tx,Kq pre y.n,q.l,_,rfl,g1,t,_,_,rfl,rfl,tx,?_,?_⟩
  ·rw [cg,iT,A0t];exact bU 0x2
  ·refine ⟨pre++[y.n],p,r',by rw [pN];lia,by rw [hle];simp,hch2,hp2,rfl,bL sx ht,?_⟩;rw [ao,jP (l₂:=[p])];rfl
abbrev a0D:Stmt:=top 58
abbrev sNew:Stmt:=top 60
abbrev BQ (q:Ad) (H:Hp) (lo ho ow du:List 0x61) (ks:List Str):Prop:=cZ H q.B q.l q.h q.o q.d q.kn q.dd q.kvs lo ho ow du ks
section
variable {q:Ad}{l':List 0x61}
theorem cZ.ul (ap:Ap q) (b:BQ q H lo ho ow du ks):BQ q (upd H q.l (.dK l')) l' ho ow du ks :=
 ⟨by rw [ak (dD ap 5 6 rfl rfl 0x7)];exact b.b,b.vl,b.vh,b.vo,b.vd,b.vk,b.vx,ao,by rw [ak (dD ap 7 6 rfl rfl 0x7)];exact b.h,by rw [ak (dD ap 8 6 rfl rfl 0x7)];exact b.o,by rw [ak (dD ap 9 6 rfl rfl 0x7)];exact b.d,by rw [ak (dD ap 10 6 rfl rfl 0x7)];exact b.k,by rw [ak (dD ap 11 6 rfl rfl 0x7)];exact b.x,b.len⟩
theorem cZ.uh (ap:Ap q) (b:BQ q H lo ho ow du ks):BQ q (upd H q.h (.dK l')) lo l' ow du ks :=
 ⟨by rw [ak (dD ap 5 7 rfl rfl 0x7)];exact b.b,b.vl,b.vh,b.vo,b.vd,b.vk,b.vx,by rw [ak (dD ap 6 7 rfl rfl 0x7)];exact b.l,ao,by rw [ak (dD ap 8 7 rfl rfl 0x7)];exact b.o,by rw [ak (dD ap 9 7 rfl rfl 0x7)];exact b.d,by rw [ak (dD ap 10 7 rfl rfl 0x7)];exact b.k,by rw [ak (dD ap 11 7 rfl rfl 0x7)];exact b.x,b.len⟩
theorem cZ.uo (ap:Ap q) (b:BQ q H lo ho ow du ks):BQ q (upd H q.o (.dK l')) lo ho l' du ks :=
 ⟨by rw [ak (dD ap 5 8 rfl rfl 0x7)];exact b.b,b.vl,b.vh,b.vo,b.vd,b.vk,b.vx,by rw [ak (dD ap 6 8 rfl rfl 0x7)];exact b.l,by rw [ak (dD ap 7 8 rfl rfl 0x7)];exact b.h,ao,by rw [ak (dD ap 9 8 rfl rfl 0x7)];exact b.d,by rw [ak (dD ap 10 8 rfl rfl 0x7)];exact b.k,by rw [ak (dD ap 11 8 rfl rfl 0x7)];exact b.x,b.len⟩
theorem cZ.ud (ap:Ap q) (b:BQ q H lo ho ow du ks):BQ q (upd H q.d (.dK l')) lo ho ow l' ks :=
 ⟨by rw [ak (dD ap 5 9 rfl rfl 0x7)];exact b.b,b.vl,b.vh,b.vo,b.vd,b.vk,b.vx,by rw [ak (dD ap 6 9 rfl rfl 0x7)];exact b.l,by rw [ak (dD ap 7 9 rfl rfl 0x7)];exact b.h,by rw [ak (dD ap 8 9 rfl rfl 0x7)];exact b.o,ao,by rw [ak (dD ap 10 9 rfl rfl 0x7)];exact b.k,by rw [ak (dD ap 11 9 rfl rfl 0x7)];exact b.x,b.len⟩
theorem cZ.uk (ap:Ap q) (b:BQ q H lo ho ow du ks):BQ q (upd H q.kn (.lst (ks'.map V.str))) lo ho ow du ks' :=
 ⟨by rw [ak (dD ap 5 10 rfl rfl 0x7)];exact b.b,b.vl,b.vh,b.vo,b.vd,b.vk,b.vx,by rw [ak (dD ap 6 10 rfl rfl 0x7)];exact b.l,by rw [ak (dD ap 7 10 rfl rfl 0x7)];exact b.h,by rw [ak (dD ap 8 10 rfl rfl 0x7)];exact b.o,by rw [ak (dD ap 9 10 rfl rfl 0x7)];exact b.d,ao,by rw [ak (dD ap 11 10 rfl rfl 0x7)];exact b.x,b.len⟩
theorem cZ.kl (b:BQ q H lo ho ow du ks):fQ H q.B (V.str "lords") (some (.ref q.l)):=gQ b.b b.vl
theorem cZ.kh (b:BQ q H lo ho ow du ks):fQ H q.B (V.str "holders") (some (.ref q.h)):=gQ b.b b.vh
theorem cZ.ko (b:BQ q H lo ho ow du ks):fQ H q.B (V.str "own") (some (.ref q.o)):=gQ b.b b.vo
theorem cZ.kd (b:BQ q H lo ho ow du ks):fQ H q.B (V.str "due") (some (.ref q.d)):=gQ b.b b.vd
theorem cZ.kk (b:BQ q H lo ho ow du ks):fQ H q.B (V.str "known") (some (.ref q.kn)):=gQ b.b b.vk
end
def dw (q:Ad) (H H':Hp):Prop:=∀ c u,c≠q.l->c≠q.h->c≠q.o->c≠q.d->c≠q.kn->H c=some u->H' c=some u
theorem dw.trans {q:Ad} (a:dw q H H1) (b:dw q H1 H2):dw q H H2:=fun c u h1 h2 h3 h4 h5 e=>b c u h1 h2 h3 h4 h5 (a c u h1 h2 h3 h4 h5 e)
theorem dw.ul {q:Ad}:dw q H (upd H q.l o):=fun c u h1 h2 h3 h4 h5 e=>by rw [ak h1];exact e
theorem dw.uh {q:Ad}:dw q H (upd H q.h o):=fun c u h1 h2 h3 h4 h5 e=>by rw [ak h2];exact e
theorem dw.uo {q:Ad}:dw q H (upd H q.o o):=fun c u h1 h2 h3 h4 h5 e=>by rw [ak h3];exact e
theorem dw.ud {q:Ad}:dw q H (upd H q.d o):=fun c u h1 h2 h3 h4 h5 e=>by rw [ak h4];exact e
theorem dw.uk {q:Ad}:dw q H (upd H q.kn o):=fun c u h1 h2 h3 h4 h5 e=>by rw [ak h5];exact e
theorem dw.same {q:Ad} (s:Same H H'):dw q H H':=fun c u _ _ _ _ _ e=>s c u e
theorem fV {q:Ad}{r:Addr} (b:BQ q H lo ho ow du ks) (o:dw q H H') (h:H r=some 0x3E):H' r=some 0x3E :=
 o r _ (aK h b.l 0x4) (aK h b.h 0x4) (aK h b.o 0x4) (aK h b.d 0x4) (aK h b.k 0x4) h
inductive Tg (vs:List V) (H:Hp) (Q:VK) (cD:XK):Prop
 | mk (q:Ad) (lo ho ow du:List 0x2B) (ks:List Str) (r:Addr) (xs:List V) (e n man lord:Str) (due:Addr) (a own:Int) (_:vs=[.ref q.B,.ref r,.str lord,.ref due]) (_:Ap q) (_:BQ q H lo ho ow du ks) (_:H r=some 0x3E) (_:xs[2]?=some (.str e)) (_:xs[3]?=some (.str n)) (_:xs[4]?=some (.str man)) (_:xs[5]?=some (.int a)) (_:bJ (putK ow 0x28 (.int a)) 0x2D=some (.int own)) (_:lo.length<=800) (_:ho.length<=800) (_:ow.length<=800) (_:du.length<=800) (_:ks.length<=800) (_:∀ H':Hp,BQ q H' (putK lo 0x28 (.str lord)) (putK ho 0x28 (.str man)) (putK (putK ow 0x28 (.int a)) 0x2D (.int (own - a))) (putK du 0x28 (.ref due)) (ks++[n])->dw q H H'->Q .non H'):Tg vs H Q cD
inductive a0E (vs:List V) (H:Hp) (Q:VK) (cD:XK):Prop
 | mk (q:Ad) (es:List aM) (ks:List Str) (e0:aM) (p:Str) (_:vs=[.ref q.B,.str e0.n]) (_:Ap q) (_:Bk q H es ks) (_:WF es) (_:e0∈es) (_:e0.n≠"") (_:e0.lord=some p) (_:es.length<64) (_:∀ H':Hp,Bk q H' 0x25 ks->dw q H H'->Q .non H'):a0E vs H Q cD
theorem a2d:aQ A5O A5O (aJ sNew):=0x0
theorem a0F (F:fK K "_law_new" "_law_new" sNew f fd):aL P w K mg base bN 1 f fd A5O Tg:=by
 refine F.ok a2d 0x1 0x3;obtain ⟨q,lo,ho,ow,du,ks,r,xs,e,n,man,lord,due,a,own,rfl,ap,bk,hx,x2,x3,x4,x5,hown,l1,l2,l3,l4,l5,k⟩:=h;refine ⟨_,au (eO (u1 hr) 0x1A 0x19 (pv 2) rfl)
  (au (eO (u1 hr) 0x1A 0x19 0x19 rfl)
  (au (eO (u1 hr) 0x1A 0x19 0x19 rfl)
  (au (eO (u1 hr) 0x1A 0x19 (pv 3) rfl)
  (au (oh (u1 hr) 0x1A 0x19 0x19 yN (fun _ _ _=>rfl))
  (aG (bO (jj A0H A0T A0U dR 0x1A (aj 0x19 aC)))))))),?_⟩
 refine ⟨_,rfl,_,rfl,q.B,_,rfl,bk.kl,_,rfl,r,_,_,_,rfl,rfl,bR.of hx,aH (j:=3) x3,q.l,_,rfl,iR.k (k:=.inr n) bk.l (bU 0x2),?_⟩;have b1:=bk.ul (l':=putK lo 0x28 (.str lord)) ap;have o1:dw q H (upd H q.l (.dK (putK lo 0x28 (.str lord)))):=dw.ul;have hx1:=fV bk o1 hx;generalize upd H q.l (.dK (putK lo 0x28 (.str lord)))=H1 at b1 o1 hx1 ⊢;refine ⟨_,rfl,r,_,_,_,rfl,rfl,bR.of hx1,aH (j:=4) x4,_,rfl,q.B,_,rfl,b1.kh,_,rfl,r,_,_,_,rfl,rfl,bR.of hx1,aH (j:=3) x3,q.h,_,rfl,iR.k (k:=.inr n) b1.h (bU 0x2),?_⟩;have b2:=b1.uh (l':=putK ho 0x28 (.str man)) ap;have o2:=o1.trans (dw.uh (H:=H1) (o:=.dK (putK ho 0x28 (.str man))));have hx2:=fV bk o2 hx;generalize upd H1 q.h (.dK (putK ho 0x28 (.str man)))=H2 at b2 o2 hx2 ⊢;refine ⟨_,rfl,r,_,_,_,rfl,rfl,bR.of hx2,aH (j:=5) x5,_,rfl,q.B,_,rfl,b2.ko,_,rfl,r,_,_,_,rfl,rfl,bR.of hx2,aH (j:=3) x3,q.o,_,rfl,iR.k (k:=.inr n) b2.o (bU 0x2),?_⟩;have b3:=b2.uo (l':=putK ow 0x28 (.int a)) ap;have o3:=o2.trans (dw.uo (H:=H2) (o:=.dK (putK ow 0x28 (.int a))));have hx3:=fV bk o3 hx;generalize upd H2 q.o (.dK (putK ow 0x28 (.int a)))=H3 at b3 o3 hx3 ⊢;refine ⟨_,rfl,_,rfl,q.B,_,rfl,b3.kd,_,rfl,r,_,_,_,rfl,rfl,bR.of hx3,aH (j:=3) x3,q.d,_,rfl,iR.k (k:=.inr n) b3.d (bU 0x2),?_⟩;have b4:=b3.ud (l':=putK du 0x28 (.ref due)) ap;have o4:=o3.trans (dw.ud (H:=H3) (o:=.dK (putK du 0x28 (.ref due))));have hx4:=fV bk o4 hx;generalize upd H3 q.d (.dK (putK du 0x28 (.ref due)))=H4 at b4 o4 hx4 ⊢;have hl3:=cV ow 0x28 (.int a);refine ⟨_,rfl,q.B,_,rfl,b4.ko,_,rfl,r,_,_,_,rfl,rfl,bR.of hx4,aH (j:=2) x2,q.o,_,rfl,gQ b4.o hown,_,rfl,r,_,_,_,rfl,rfl,bR.of hx4,aH (j:=5) x5,_,_,rfl,rfl,_,iR.k (k:=.inr e) b4.o (bU 0x2),?_⟩;have b5:=b4.uo (l':=putK (putK ow 0x28 (.int a)) 0x2D (.int (own - a))) ap;have o5:=o4.trans (dw.uo (H:=H4) (o:=.dK (putK (putK ow 0x28 (.int a)) 0x2D (.int (own - a)))));have hx5:=fV bk o5 hx;generalize upd H4 q.o (.dK (putK (putK ow 0x28 (.int a)) 0x2D (.int (own - a))))=H5 at b5 o5 hx5 ⊢;refine ⟨_,rfl,q.B,_,rfl,b5.kk,.inl ⟨rfl,_,bT.of b5.k⟩,_,rfl,r,_,_,_,rfl,rfl,bR.of hx5,aH (j:=3) x3,q.kn,_,_,rfl,rfl,b5.k,(by rw [cg];exact bU 0x2),?_⟩;have e1:ks.map V.str++[V.str n]=(ks++[n]).map V.str:=by rw [jP];rfl
 rw [e1];exact k _ (b5.uk ap) (o5.trans dw.uk)
theorem Ti:aQ ["_law_book_here", "_law_estate", "_law_lord", "_law_one"] A5H (aJ a0D):=0x0
theorem DN (h:H a=none) (h2:H b=some o):a≠b:=fun q=>by rw [q,h2] at h;cases h
theorem isD (h:H a=some 0x24):IsD H a:=.inl ⟨kvs,.inl h⟩
theorem a2e (F:fK K "_law_fall" "_law_fall" a0D f fd)  (G1:aL P w K mg base bN 1 g1 d1 A5H Dw) (M1:Ms K mg "_law_under" g1 d1 A5H):aL P w K mg base bN 2 f fd A5H a0E:=by
 refine F.ok Ti 0x1 0x3;obtain ⟨q,es,ks,e0,p,rfl,ap,bk,W,he,hne,hp,hl,k⟩:=h;refine ⟨_,au (aU (i:=2) Ti.nd rfl 0x8 (qm 0x1A 0x11 ⟨rfl,rfl,rfl,rfl⟩))
  (au (oh (u1 hr) 0x1A (pv 2) (qm 0x1A 0x11 ⟨rfl,rfl,rfl,rfl⟩) PN (fun _ _ _=>rfl))
  (au (bO (qm 0x1A 0x11 ⟨rfl,rfl,rfl,rfl⟩))
  (au (bO (qm 0x1A 0x11 ⟨rfl,rfl,rfl,rfl⟩))
  (aG (iz A0W rfl (gH (bC G1 hr rfl M1.m M1.k M1.b .nil aY (aj 0x3A 0x33))) (bD (i:=3) Ti.nd rfl 0x8) (aG (eO (u1 hr) 0x1A (pv 3) (pv 2) rfl))))))),?_⟩
 obtain ⟨p',hp',hpm,hpn⟩:=W.lord e0 he hne;obtain rfl:p=p':=by rw [hp] at hp';injection hp'
 obtain ⟨y0,hy0,DP⟩:=dM hpm;have v1:=cG (f:=fun e=>iu e.lord) W.nd he;rw [hp] at v1;refine ⟨_,rfl,q.B,_,rfl,bk.kl,q.l,rfl,isD bk.l,_,rfl,_,.inr e0.n,_,bk.l,rfl,v1,?_⟩;rw [mV];have b1:=cZ.ul (l':=iY 0x10) ap bk;have o1:dw q H (upd H q.l (.dK (iY 0x10))):=dw.ul;generalize upd H q.l (.dK (iY 0x10))=H1 at b1 o1 ⊢;have gp:=Ov b1.o W.nd hy0;rw [DP] at gp;refine ⟨_,rfl,q.B,_,rfl,b1.ko,_,rfl,q.o,_,rfl,gp,_,rfl,q.B,_,rfl,b1.ko,q.o,rfl,isD b1.o,_,rfl,_,.inr e0.n,_,b1.o,rfl,cG W.nd he,?_⟩;rw [mV];have b2:=b1.uo (l':=lH 0x10) ap;have o2:=o1.trans (dw.uo (H:=H1) (o:=.dK (lH 0x10)));generalize upd H1 q.o (.dK (lH 0x10))=H2 at b2 o2 ⊢;have fl:(0x10).length<=es.length:=A0K _ _;refine ⟨_,_,rfl,rfl,_,iR.k (k:=.inr p) b2.o (by rw [iZ];exact bU 0x2),?_⟩;rw [Nt W.nd hy0 DP hpn];have b3:=b2.uo (l':=lH 0x25) ap;have o3:=o2.trans (dw.uo (H:=H2) (o:=.dK (lH 0x25)));generalize upd H2 q.o (.dK (lH 0x25))=H3 at b3 o3 ⊢;refine ⟨_,rfl,q.B,_,rfl,b3.kh,q.h,rfl,isD b3.h,_,rfl,_,.inr e0.n,_,b3.h,rfl,cG W.nd he,?_⟩;rw [mV];have b4:=b3.uh (l':=hoL 0x10) ap;have o4:=o3.trans (dw.uh (H:=H3) (o:=.dK (hoL 0x10)));generalize upd H3 q.h (.dK (hoL 0x10))=H4 at b4 o4 ⊢;refine ⟨_,rfl,q.B,_,rfl,b4.kd,q.d,rfl,isD b4.d,_,rfl,_,.inr e0.n,_,b4.d,rfl,cG W.nd he,?_⟩;rw [mV];have b5:=b4.ud (l':=qU 0x10) ap;have o5:=o4.trans (dw.ud (H:=H4) (o:=.dK (qU 0x10)));generalize upd H4 q.d (.dK (qU 0x10))=H5 at b5 o5 ⊢;have nd1:(nms 0x10).Nodup:=(List.filter_sublist.map _).nodup W.nd;generalize hes1:0x10=es1 at b5 nd1 fl
 let g2:aM->aM:=fun y=>{ y with own:=if y.n=p then y.own+e0.own else y.own }
 have m1:iY (es1.map g2)=iY es1:=jx (g:=g2) fun _=>rfl;have m2:hoL (es1.map g2)=hoL es1:=jx (g:=g2) fun _=>rfl;have m3:lH (es1.map g2)=lH 0x25:=by
  unfold cH;rw [hes1]
  show kv _ (es1.map g2)=kv _ (es1.map _)
  rw [jx (g:=g2) 0xF,jx (g:=Du e0.n p e0.own) 0xF];rfl
 have m4:qU (es1.map g2)=qU es1:=jx (g:=g2) fun _=>rfl;have b6:Bk q H5 (es1.map g2) ks:=by
  show BQ q H5 (iY (es1.map g2)) (hoL (es1.map g2)) (lH (es1.map g2)) (qU (es1.map g2)) ks
  rw [m1,m2,m3,m4];exact b5
 have nd2:(nms (es1.map g2)).Nodup:=by
  have:nms (es1.map g2)=nms es1:=by
   show (es1.map g2).map _=_
   rw [A0R];rfl
  rw [this];exact nd1
 refine ⟨_,rfl,_,rfl,q,es1.map g2,ks,e0.n,rfl,ap,b6,nd2,by rw [cg];lia,fun r ss H6 s6 hr0 hr1 hpp hs=>?_⟩;have hpp1:ss.Perm ((es1.filter fun y=>decide (y.lord=some e0.n)).map (·.n)):=by
  rw [A3K,A0R] at hpp;exact hpp
 have hsl:ss.length<=es1.length:=by
  rw [hpp1.length_eq,cg];exact A0K _ _
 have b7:=b5.same s6;have o6:=o5.trans (dw.same (q:=q) s6);refine ⟨r,rfl,⟨_,bT.of hr1⟩,iB (K:=K) (a:=r) (xs:=ss.map V.str) (fun i σ Hx=>(∃ u3,σ=[some (.ref q.B),some (.str e0.n),some (.str p),u3])/\Hx r=some 0x49/\BQ q Hx (moved (iY es1) (ss.take i) p) (hoL es1) (lH 0x25) (qU es1) ks/\dw q H Hx/\r≠q.l)
  ⟨⟨none,rfl⟩,hr1,b7,o6,DN hr0 b5.l⟩ (fun i σ Hx _ h=>bT.of h.2.1) ?_ ?_⟩
 ·rintro i v σ Hx hv ⟨⟨u3,rfl⟩,rx,bx,ox,nr⟩;rw [jY] at hv;obtain ⟨n,hn,rfl⟩:=A0w.mp hv;have hml:=xU (iY es1) p (ss.take i);rw [A0G,iZ] at hml;refine ⟨_,rfl,_,rfl,q.B,_,rfl,bx.kl,_,rfl,q.l,_,rfl,iR.k (k:=.inr n) bx.l (bU 0x2),?_⟩;have em:moved (iY es1) (ss.take (i+1)) p=putK (moved (iY es1) (ss.take i) p) 0x28 (.str p):=by rw [A1o,hn];exact v8 _ _ _ _
  refine ⟨⟨_,rfl⟩,by rw [ak nr];exact rx,?_,ox.trans dw.ul,nr⟩;rw [em];exact bx.ul ap
 ·rintro σ Hx ⟨⟨u3,rfl⟩,rx,bx,ox,nr⟩;rw [cg,A1h] at bx;subst hes1;rw [Nr (a:=e0.own) W.nd hpp1] at bx;refine k Hx ?_ ox;have f1:hoL 0x25=hoL 0x10:=jx (g:=Du e0.n p e0.own) fun _=>rfl;have f2:qU 0x25=qU 0x10:=jx (g:=Du e0.n p e0.own) fun _=>rfl
  show BQ q Hx (iY 0x25) (hoL 0x25) (lH 0x25) (qU 0x25) ks
  rw [f1,f2];exact bx
inductive Rw
 | grant (e n m:Str) (a s:Int)
 | part (e n m:Str) (a:Int)
 | convey (e m:Str)
 | eZ (e:Str)
def Rw.vs (dy:Int):Rw->List V
 | .grant e n m a s=>[.str "grant",.int dy,.str e,.str n,.str m,.int a,.int s]
 | .part e n m a=>[.str "part",.int dy,.str e,.str n,.str m,.int a]
 | .convey e m=>[.str "convey",.int dy,.str e,.str m]
 | .eZ e=>[.str "surrender",.int dy,.str e]
def Rw.est:Rw->Str
 | .grant e _ _ _ _=>e
 | .part e _ _ _=>e
 | .convey e _=>e
 | .eZ e=>e
def Rw.new:Rw->Option Str
 | .grant _ n _ _ _=>some n
 | .part _ n _ _=>some n
 | _=>none
def Rw.acr:Rw->Int
 | .grant _ _ _ a _=>a
 | .part _ _ _ a=>a
 | _=>0
def Rw.Tx:Rw->Prop
 | .grant e n m _ _=>PyData.strOk e=true/\PyData.strOk n=true/\PyData.strOk m=true
 | .part e n m _=>PyData.strOk e=true/\PyData.strOk n=true/\PyData.strOk m=true
 | .convey e m=>PyData.strOk e=true/\PyData.strOk m=true
 | .eZ e=>PyData.strOk e=true
def Rw.Ok (ls:List Str):Rw->Prop
 | .grant _ n _ a s=>n∈ls/\1<=a/\a<=9999/\0<=s/\s<=9999
 | .part e n _ a=>n∈ls/\1<=a/\a<=9999/\e≠""
 | .convey e _=>e≠""
 | .eZ e=>e≠""
def dZ (es:List aM) (ks:List Str) (y:aM):Rw->Prop
 | .grant e n _ a _=>y∈es/\y.n=e/\n∉ks/\a<=y.own
 | .part e n _ a=>y∈es/\y.n=e/\n∉ks/\a<=y.own
 | .convey e _=>y∈es/\y.n=e
 | .eZ e=>y∈es/\y.n=e
def oM (a:Int) (y:aM):aM:={ y with own:=y.own - a }
def oN (a:Int) (t b:Addr) (y:aM):aM:={ y with own:=y.own - a,br:=y.br - a,due:=oA (y.due.1 * (y.br - a)) (y.due.2 * y.br),ta:=t,tb:=b }
def oO (m:Str) (y:aM):aM:={ y with man:=m }
def tE (e n m:Str) (a s:Int) (t b:Addr):aM:=⟨n,some e,m,a,a,(s,1),t,b⟩
def tG (y:aM) (n m:Str) (a:Int) (t b:Addr):aM:=⟨n,y.lord,m,a,a,oA (y.due.1 * a) (y.due.2 * y.br),t,b⟩
def stp (y:aM) (es:List aM) (t1 t2 b1 b2:Addr):Rw->List aM
 | .grant _ n m a s=>mod y.n (oM a) es++[tE y.n n m a s t1 b1]
 | .part _ n m a=>mod y.n (oN a t2 b2) es++[tG y n m a t1 b1]
 | .convey _ m=>mod y.n (oO m) es
 | .eZ _=>cH y.n (y.lord.getD "") y.own es
def stK (ks:List Str):Rw->List Str
 | .grant _ n _ _ _=>ks++[n]
 | .part _ n _ _=>ks++[n]
 | _=>ks
theorem jJ {f:aM->V}{es:List aM}{y:aM}{g:aM->aM} (hg:∀ e,(g e).n=e.n) (nd:(nms es).Nodup) (hy:y∈es):kv f (mod y.n g es)=putK (kv f es) (.inr y.n) (f (g y)):=by
 rw [Sv hg,vm (A0m.mpr ⟨y,hy,rfl⟩)];refine gF fun e he=>?_
 split
 ·rename_i c
  rw [jH nd he hy c]
 ·rfl
theorem cQ {f:aM->V}{es:List aM}{n:Str}{g:aM->aM}{x:aM} (hg:∀ e,(g e).n=e.n) (h:x.n∉nms es):kv f (mod n g es++[x])=putK (kv f (mod n g es)) (.inr x.n) (f x):=by
 rw [a0r,zO (by rw [u0 hg];exact h)]
theorem vD {f:aM->V}{es:List aM}{e n:Str}{u:V} (he:e∈nms es) (hn:n∉nms es):putK (putK (kv f es) 0x28 v) 0x2D u=putK (putK (kv f es) 0x2D u) 0x28 v:=by
 have ne:n≠e:=fun z=>hn (z ▸ he);rw [zO hn,vm he,zO hn];unfold putK;have ha:((kv f es++[(Sum.inr n,v)]).any fun x=>decide (x.1=Sum.inr e))=true:=by
  rw [List.any_append,Sq,A0j he];rfl
 rw [A0i ha,jP,A0R]
 congr 1
 ·refine A1I fun y _=>?_
  show (if (Sum.inr y.n:Key)=.inr e then (Sum.inr y.n,u) else (Sum.inr y.n,f y))=(Sum.inr y.n,if y.n=e then u else f y)
  by_cases q:y.n=e
  ·rw [A0i (key_eq.mpr q),A0i q]
  ·rw [A0e (fun z=>q (key_eq.mp z)),A0e q]
 ·show [if (Sum.inr n:Key)=.inr e then (Sum.inr n,u) else (Sum.inr n,v)]=_
  rw [A0e fun z=>ne (key_eq.mp z)]
structure Pu (es:List aM) (ks ls:List Str) (j:Nat) (wd:Int):Prop where
 W:WF es
 bd:∀ e∈es,Bd (10+5 * j) e.due
 kn:∀ e∈es,e.n≠""->e.n∈ks
 ln:es.length<=1+j
 lk:ks.length<=j
 nl:∀ e∈es,e.n=""\/e.n∈ls
 tot:(es.map (·.own)).sum=wd
structure Rel (C:Addr) (q:Ad) (H:Hp) (es:List aM) (ks:List Str) (ls:List Str) (j:Nat):Prop where
 ap:Ap q
 L:Ln C q H es
 B:Bk q H es ks
 W:WF es
 fr:∀ e∈es,jy H e.ta e.due.1 e.due.2/\jy H e.tb e.due.1 e.due.2/\Bd (10+5 * j) e.due
 kn:∀ e∈es,e.n≠""->e.n∈ks
 ln:es.length<=1+j
 lk:ks.length<=j
 nl:∀ e∈es,e.n=""\/e.n∈ls
 tot:(es.map (·.own)).sum=q.wd
theorem Rel.same {q:Ad}{es:List aM} (r:Rel C q H es ks ls j) (s:Same H H'):Rel C q H' es ks ls j :=
 ⟨r.ap,r.L.same s,r.B.same s,r.W,fun e he=>⟨s _ _ (r.fr e he).1,s _ _ (r.fr e he).2.1,(r.fr e he).2.2⟩,r.kn,r.ln,r.lk,r.nl,r.tot⟩
theorem Pu.new {es:List aM} (r:Pu es ks ls j wd) {n:Str} (h:n∉ks) (h0:n≠""):n∉nms es:=fun c=>by
 obtain ⟨y,hy,rfl⟩:=dM c;exact h (r.kn y hy h0)
theorem a0G {es:List aM}{bG:Rw}{y:aM} (r:Pu es ks ls j wd) (hok:bG.Ok ls):∀ e∈stp y es t1 t2 b1 b2 bG,e.n=""\/e.n∈ls:=by
 intro z hz;cases bG with
 | grant e n m a s =>
  rcases A0v.mp hz with c | c
  ·obtain ⟨z0,h0,rfl⟩:=cU c;have e1:(if z0.n=y.n then oM a z0 else z0).n=z0.n:=by split <;> rfl
   rw [e1];exact r.nl z0 h0
  ·rw [A0c.mp c];exact .inr hok.1
 | part e n m a =>
  rcases A0v.mp hz with c | c
  ·obtain ⟨z0,h0,rfl⟩:=cU c;have e1:(if z0.n=y.n then oN a t2 b2 z0 else z0).n=z0.n:=by split <;> rfl
   rw [e1];exact r.nl z0 h0
  ·rw [A0c.mp c];exact .inr hok.1
 | convey e m =>
  obtain ⟨z0,h0,rfl⟩:=cU hz;have e1:(if z0.n=y.n then oO m z0 else z0).n=z0.n:=by split <;> rfl
  rw [e1];exact r.nl z0 h0
 | eZ e =>
  obtain ⟨z0,h0,rfl⟩:=A0m.mp hz;exact r.nl z0 (A0V.mp h0).1
theorem zQ {es:List aM}{y:aM}{g:aM->aM} (nd:(nms es).Nodup) (hy:y∈es):((mod y.n g es).map (·.own)).sum=(es.map (·.own)).sum - y.own+(g y).own:=by
 unfold mod;rw [A0R,tZ (F:=(·.own)) (e0:=y) nd hy fun z _ ne=>?_]
 ·show _ - y.own+(if y.n=y.n then g y else y).own=_
  rw [A0i rfl]
 ·show (if z.n=y.n then g z else z).own=z.own
  rw [A0e ne]
theorem WW {es:List aM}{bG:Rw}{y:aM} (W:WF es) (hst:dZ es ks y bG) (hok:bG.Ok ls):((0x21).map (·.own)).sum=(es.map (·.own)).sum:=by
 cases bG with
 | grant e n m a s =>
  obtain ⟨hy,rfl,_⟩:=hst
  show ((mod y.n (oM a) es++[tE y.n n m a s t1 b1]).map (·.own)).sum=_
  rw [jP,A3i,zQ W.nd hy]
  show _ - y.own+(y.own - a)+(a+0)=_
  lia
 | part e n m a =>
  obtain ⟨hy,rfl,_⟩:=hst
  show ((mod y.n (oN a t2 b2) es++[tG y n m a t1 b1]).map (·.own)).sum=_
  rw [jP,A3i,zQ W.nd hy]
  show _ - y.own+(y.own - a)+(a+0)=_
  lia
 | convey e m =>
  obtain ⟨hy,rfl⟩:=hst
  show ((0x23).map (·.own)).sum=_
  rw [zQ W.nd hy]
  show _ - y.own+y.own=_
  lia
 | eZ e =>
  obtain ⟨hy,rfl⟩:=hst;obtain ⟨p,hp,hpm,hpn⟩:=W.lord y hy hok;obtain ⟨z,hz,hzn⟩:=dM hpm;have ep:y.lord.getD ""=p:=by rw [hp];rfl
  show ((cH y.n (y.lord.getD "") y.own es).map (·.own)).sum=_
  rw [ep];unfold cH;rw [A0R,vq (F:=(·.own)∘Du y.n p y.own) W.nd hy];have e1:(es.map ((·.own)∘Du y.n p y.own)).sum=(es.map (·.own)).sum - z.own+(z.own+y.own):=by
   rw [tZ (F:=(·.own)) (e0:=z) W.nd hz fun u _ ne=>?_]
   ·show _ - z.own+(if z.n=p then z.own+y.own else z.own)=_
    rw [A0i hzn]
   ·show (if u.n=p then u.own+y.own else u.own)=u.own
    rw [A0e (by rw [<- hzn];exact ne)]
  rw [e1]
  show _ - (if y.n=p then y.own+y.own else y.own)=_
  rw [A0e (A0k hpn)];lia
theorem a0H {es:List aM}{bG:Rw}{y:aM} (r:Pu es ks ls j wd) (hst:dZ es ks y bG) (hok:bG.Ok ls) (hls:∀ n∈ls,n≠""/\PyData.strOk n=true) :
  WF 0x21/\(∀ e∈stp y es t1 t2 b1 b2 bG,e.n≠""->e.n∈stK ks bG)/\(0x21).length<=1+(j+1)/\(stK ks bG).length<=j+1:=by
 have lk:=r.lk;have ln:=r.ln;have ml:∀ (n:Str) (g:aM->aM),(mod n g es).length=es.length:=fun n g=>cg _;cases bG with
 | grant e n m a s =>
  obtain ⟨hy,rfl,hn,ha⟩:=hst;obtain ⟨h1,h2,h3,h4,h5⟩:=hok;have hx:=r.new hn (hls n h1).1;refine ⟨WF.new r.W hy (x:=tE y.n n m a s t1 b1) 0xF 0xF rfl 0x2 ha hx (hls n h1).2 rfl rfl (.inl ⟨rfl,rfl⟩),fun z hz hne=>?_,?_,?_⟩
  ·rcases A0v.mp hz with c | c
   ·obtain ⟨z0,h0,rfl⟩:=cU c;refine A1m _ ?_;have e1:(if z0.n=y.n then oM a z0 else z0).n=z0.n:=by split <;> rfl
    rw [e1] at hne ⊢;exact r.kn z0 h0 hne
   ·rw [A0c.mp c];exact A0x _ (A0c.mpr rfl)
  ·show (mod y.n (oM a) es++[tE y.n n m a s t1 b1]).length<=_
   rw [iT,ml,A0t];lia
  ·show (ks++[n]).length<=_
   rw [iT,A0t];lia
 | part e n m a =>
  obtain ⟨hy,rfl,hn,ha⟩:=hst;obtain ⟨h1,h2,h3,h4⟩:=hok;have hx:=r.new hn (hls n h1).1;refine ⟨WF.new r.W hy (x:=tG y n m a t1 b1) 0xF 0xF rfl 0x2 ha hx (hls n h1).2 rfl rfl (.inr ⟨rfl,h4,rfl⟩),fun z hz hne=>?_,?_,?_⟩
  ·rcases A0v.mp hz with c | c
   ·obtain ⟨z0,h0,rfl⟩:=cU c;refine A1m _ ?_;have e1:(if z0.n=y.n then oN a t2 b2 z0 else z0).n=z0.n:=by split <;> rfl
    rw [e1] at hne ⊢;exact r.kn z0 h0 hne
   ·rw [A0c.mp c];exact A0x _ (A0c.mpr rfl)
  ·show (mod y.n (oN a t2 b2) es++[tG y n m a t1 b1]).length<=_
   rw [iT,ml,A0t];lia
  ·show (ks++[n]).length<=_
   rw [iT,A0t];lia
 | convey e m =>
  refine ⟨WF.mod r.W 0xF 0xF 0xF fun _=>rfl,fun z hz hne=>?_,?_,?_⟩
  ·obtain ⟨z0,h0,rfl⟩:=cU hz;have e1:(if z0.n=y.n then oO m z0 else z0).n=z0.n:=by split <;> rfl
   rw [e1] at hne ⊢;exact r.kn z0 h0 hne
  ·show (0x23).length<=_
   rw [ml];lia
  ·show ks.length<=_
   lia
 | eZ e =>
  obtain ⟨hy,rfl⟩:=hst;obtain ⟨p,hp,_,_⟩:=r.W.lord y hy hok;have ep:y.lord.getD ""=p:=by rw [hp];rfl
  refine ⟨?_,fun z hz hne=>?_,?_,?_⟩
  ·show WF (cH y.n (y.lord.getD "") y.own es)
   rw [ep];exact WF.fall r.W hy hok hp
  ·obtain ⟨z0,h0,rfl⟩:=A0m.mp hz;exact r.kn z0 (A0V.mp h0).1 hne
  ·show (cH y.n (y.lord.getD "") y.own es).length<=_
   unfold cH;rw [cg];have:=A0K (fun x=>decide (x.n≠y.n)) es;lia
  ·show ks.length<=_
   lia
end M
namespace L2
open PySem
open AutoSeq1 (wpAny_loadPart')
open PySem.Spec PyProof.Rows PySem.W
section
variable {M:Model}
end
def fD:V->Bool
 | .int _=>true
 | .str x=>PyData.strOk x
 | _=>false
def gK:V->PyData
 | .int i=>.int i
 | .str x=>.str x
 | _=>.none
theorem jU:∀ xs:List V,xs.all fD=true->dJ H xs (xs.map gK)
 | [],_=>.nil
 | x::xs,h=>by
  rw [A2O,A0Y] at h;refine .cons ?_ (jU xs h.2);cases x with
  | int i=>exact .int i
  | str z=>exact .str z
  | _=>cases h.1
theorem Tj {a b:V} (ha:fD a=true) (hb:fD b=true):PyData.eqv (gK a) (gK b)=decide (a=b):=by
 cases a with
 | int i =>
  cases b with
  | int j =>
   show (i==j)=decide (V.int i=V.int j)
   rw [A1i];simp
  | str z=>exact (A0s (show ¬ V.int i=V.str z from fun e=>by cases e)).symm
  | _=>cases hb
 | str x =>
  cases b with
  | int j=>exact (A0s (show ¬ V.str x=V.int j from fun e=>by cases e)).symm
  | str z =>
   show (x==z)=decide (V.str x=V.str z)
   rw [A1i];simp
  | _=>cases hb
 | _=>cases ha
theorem kY:∀ xs ys:List V,xs.all fD=true->ys.all fD=true->PyData.eqvAll (xs.map gK) (ys.map gK)=decide (xs=ys)
 | [],[],_,_=>rfl
 | [],_::_,_,_=>(A0s (fun e=>by cases e)).symm
 | _::_,[],_,_=>(A0s (fun e=>by cases e)).symm
 | x::xs,y::ys,hx,hy=>by
  rw [A2O,A0Y] at hx hy
  show (PyData.eqv (gK x) (gK y)&&PyData.eqvAll (xs.map gK) (ys.map gK))=_
  rw [Tj hx.1 hy.1,kY xs ys hx.2 hy.2,A1i];simp
theorem jr:∀ xs:List V,xs.all fD=true->PyData.canLayAll0 (xs.map gK)=true
 | [],_=>rfl
 | x::xs,h=>by
  rw [A2O,A0Y] at h;rw [A0g,PyData.canLayAll0,jr xs h.2];cases x with
  | int i=>rfl
  | str z =>
   show (PyData.strOk z&&true)=true
   rw [show PyData.strOk z=true from h.1];rfl
  | _=>cases h.1
theorem nQ:∀ xs:List V,PyData.depthAll (xs.map gK)<=1
 | []=>by decide
 | x::xs=>by
  rw [A0g,PyData.depthAll];have:=nQ xs;have e:PyData.depth (gK x)<=1:=by cases x <;> exact A1j rfl
  lia
def iJ (H:Hp):List Addr->List (List V)->Prop:=Paired fun a r=>H a=some (.tup r)
theorem zR:∀ {as:List Addr}{us:List Value},Vals (as.map V.ref) us->us=as.map Value.ref
 | [],_,r=>by cases r;rfl
 | a::as,_,r=>by
  rw [A0g] at r;cases r with
  | cons r1 r2=>cases r1;rw [zR r2];rfl
theorem any_rows:∀ {as:List Addr}{rows:List (List V)},iJ H as rows->(as.map Value.ref).any (fun u=>match u with | .ref a=>(match H a with | some (.tup q)=>decide (q=r) | _=>false) | _=>false)=rows.any fun q=>decide (q=r)
 | _,_,.nil=>rfl
 | a::as,q::rows,.cons h t=>by
  rw [A0g,A2t,A2t,any_rows t]
  show ((match H a with | some (.tup q)=>decide (q=r) | _=>false)||_)=_
  rw [h]
theorem vG:∀ {as:List Addr}{rows:List (List V)},iJ H as rows->∀ a∈as,∃ q∈rows,H a=some (.tup q)
 | _,_,.nil,a,h=>nomatch h
 | _::_,q::_,.cons h t,a,ha=>by
  rcases List.mem_cons.mp ha with rfl | ha
  ·exact ⟨q,A0h,h⟩
  ·obtain ⟨q',m,e⟩:=vG t a ha;exact ⟨q',jh _ m,e⟩
end L2
namespace M
open PySem L2 PyProof.Rows
abbrev a0I:Stmt:=top 57
theorem zT (h:Str) (l:List Str):inV (V.str h) (l.map V.str)=decide (h∈l):=by
 unfold inV
 induction l with
 | nil=>rfl
 | cons x r ih =>
  rw [A0g,A2t,ih]
  show ((x==h)||decide (h∈r))=_
  rw [A1i,Bool.or_eq_true,A1K,A1K,List.mem_cons,A3L]
  constructor
  ·rintro (e | e)
   ·exact .inl e.symm
   ·exact .inr e
  ·rintro (e | e)
   ·exact .inl e.symm
   ·exact .inr e
theorem rY (l:List Str):(l.map V.str).all pZ=true:=by
 rw [List.all_map];exact A1G.mpr fun x _=>rfl
theorem gP {k:Str}{b:Bool}{A:Prop} (h:decide (k∈ls)=b) (g:if b=true then A else B):if (if (false:Bool)=true then !inV (V.str k) (ls.map V.str) else inV (V.str k) (ls.map V.str))=true then A else B:=by
 rw [A0e A0o,zT,h];exact g
theorem lJ {k l:Str}{b:Bool}{A:Prop} (h:decide (k=l)=b) (g:if b=true then A else B):if decide (V.str k=V.str l)=true then A else B:=by
 rw [jc,h];exact g
theorem zU {k l:Str}{b:Bool}{A:Prop} (h:decide (k=l)=b) (g:if (!b)=true then A else B):if (!decide (V.str k=V.str l))=true then A else B:=by
 rw [jc,h];exact g
theorem qG {h:Str}{l:List Str}{A:Prop} (h1:h∈l->A) (h2:h∉l->B):if (if (false:Bool)=true then !inV (V.str h) (l.map V.str) else inV (V.str h) (l.map V.str))=true then A else B:=by
 rw [A0e A0o,zT];exact iQ (fun c=>h1 (sS c)) fun c=>h2 fun z=>c (A0j z)
def WX:TT:=fun _ _ _=>False
theorem Nv:PT X e WX:=fun _ _ _ _ _ _ h=>h.elim
theorem vH {es:List aM} (nd:(nms es).Nodup) {y y':aM} (h1:y∈es) (h2:y'∈es) (e:y.n=y'.n):y=y':=by
 obtain ⟨i,hi⟩:=A4b.mp h1;obtain ⟨j,hj⟩:=A4b.mp h2;have a:(nms es)[i]?=some y.n:=by rw [jY,hi];rfl
 have b:(nms es)[j]?=some y.n:=by rw [jY,hj,e];rfl
 have li:=(A0l.mp a).1;have:=(List.getElem?_inj li nd).mp (a.trans b.symm);subst this;rw [hi] at hj;exact A0O hj
inductive Wd (es:List aM) (ks:List Str) (bG:Rw):Str->Prop
 | no:bG.est∉nms es->Wd es ks bG "nowhere"
 | tk {n:Str}:bG.new=some n->bG.est∈nms es->n∈ks->Wd es ks bG "taken"
 | ac {n:Str}{y:aM}:bG.new=some n->y∈es->y.n=bG.est->n∉ks->y.own<bG.acr->Wd es ks bG "acres"
 | st {y:aM}:dZ es ks y bG->Wd es ks bG "stands"
theorem dZ.est {es:List aM}{y:aM}{bG:Rw} (h:dZ es ks y bG):y∈es/\y.n=bG.est/\(∀ n,bG.new=some n->n∉ks/\bG.acr<=y.own):=by
 cases bG with
 | grant e n m a s=>exact ⟨h.1,h.2.1,fun z hz=>by injection hz with hz;subst hz;exact h.2.2⟩
 | part e n m a=>exact ⟨h.1,h.2.1,fun z hz=>by injection hz with hz;subst hz;exact h.2.2⟩
 | convey e m=>exact ⟨h.1,h.2,fun z hz=>nomatch hz⟩
 | eZ e=>exact ⟨h.1,h.2,fun z hz=>nomatch hz⟩
theorem Wd.uniq {es:List aM}{bG:Rw}{z':Str} (nd:(nms es).Nodup) (h:Wd es ks bG z) (h':Wd es ks bG z'):z=z':=by
 have mem:∀ {y:aM},y∈es->y.n=bG.est->bG.est∈nms es:=fun hy e=>e ▸ A0m.mpr ⟨_,hy,rfl⟩;have one:∀ {y y':aM},y∈es->y'∈es->y.n=bG.est->y'.n=bG.est->y=y':=fun {y y'} h1 h2 e1 e2=>vH nd h1 h2 (e1.trans e2.symm);cases h with
 | no h1 =>
  cases h' with
  | no _=>rfl
  | tk _ h2 _=>exact absurd h2 h1
  | ac _ h2 h3 _ _=>exact absurd (mem h2 h3) h1
  | st h2=>exact absurd (mem h2.est.1 h2.est.2.1) h1
 | tk e1 h1 h2 =>
  cases h' with
  | no h3=>exact absurd h1 h3
  | tk _ _ _=>rfl
  | ac e2 _ _ h3 _=>rw [e1] at e2;injection e2 with e2;subst e2;exact absurd h2 h3
  | st h3=>exact absurd h2 (h3.est.2.2 _ e1).1
 | ac e1 hy hn h2 h3 =>
  cases h' with
  | no h4=>exact absurd (mem hy hn) h4
  | tk e2 _ h4=>rw [e1] at e2;injection e2 with e2;subst e2;exact absurd h4 h2
  | ac _ _ _ _ _=>rfl
  | st h4 =>
   have:=one hy h4.est.1 hn h4.est.2.1;subst this;have:=(h4.est.2.2 _ e1).2;lia
 | st h1 =>
  cases h' with
  | no h4=>exact absurd (mem h1.est.1 h1.est.2.1) h4
  | tk e2 _ h4=>exact absurd h4 (h1.est.2.2 _ e2).1
  | ac e2 hy hn _ h4 =>
   have:=one hy h1.est.1 hn h1.est.2.1;subst this;have:=(h1.est.2.2 _ e2).2;lia
  | st _=>rfl
inductive Tn (vs:List V) (H:Hp) (Q:VK) (cD:XK):Prop
 | mk (q:Ad) (es:List aM) (ks:List Str) (r:Addr) (bG:Rw) (dy:Int) (_:vs=[.ref q.B,.ref r]) (_:Ap q) (_:Bk q H es ks) (_:(nms es).Nodup) (_:H r=some (.tup (Rw.vs dy bG))) (_:∀ (z:Str) (H':Hp),Same H H'->Wd es ks bG z->Q (.str z) H'):Tn vs H Q cD
theorem DQ:aQ ["_law_book_here", "_law_row_here", "_law_kind", "_law_man"] A5J (aJ a0I):=0x0
theorem a0J (F:fK K "_law_why" "_law_why" a0I f fd):aL P w K mg base bN 1 f fd A5J Tn:=by
 refine F.ok DQ 0x1 0x3;obtain ⟨q,es,ks,r,bG,dy,rfl,ap,b0,nd,hx,k⟩:=h;refine ⟨_,(au (aU (i:=2) DQ.nd rfl 0x8 0x19)
  (au (bQ (PW.pt (pA (aV iV (pv 2) (cN (aj aN (aj aN (aj aN (aj aN aC))))) 0x16) (mq (Fv (Mu (u1 hr) 0x19 0x1A) 0x16)))) (aG (aZ aN)) aX)
  (au (bQ (PW.pt (pA (aV iV (pv 2) (cN (aj aN (aj aN aC))) 0x16) (mq (aV iV 0x19 0x1A 0x16)))) (aG (aZ aN)) aX)
  (au (aU (i:=3) DQ.nd rfl 0x8 0x19)
  (au (bQ (aV iV (pv 2) (cN (aj aN (aj aN aC))) 0x16) (aG (aU (i:=3) DQ.nd rfl 0x8 0x19)) aX)
  (au (bQ (aV dO (pv 2) aN (bH _)) (aG (aU (i:=3) DQ.nd rfl 0x8 0x19)) aX)
  (au (bQ (PW.pt (pA (aV oV (pv 2) aN (bH _)) (mq (aV iV (pv 3) 0x1A 0x16)))) (aG (aZ aN)) aX)
  (au (bQ (PW.pt (pA (aV iV (pv 2) (cN (aj aN (aj aN aC))) 0x16) (mq (aV Pz 0x19 (bf (u1 hr) 0x1A 0x19 0x5) (bH _))))) (aG (aZ aN)) aX)
  (au (bQ (PW.pt (pA (aV dO (pv 2) aN (bH _)) (mq Nv))) cB aX)
  (aG (aZ aN))))))))))),?_⟩
 cases bG with
 | grant e n m a s =>
  refine ⟨_,rfl,r,_,_,_,rfl,rfl,bR.of hx,aH (j:=0) rfl,?_⟩;refine ⟨_,rfl,small 0xA,fun t1 ht1=>⟨t1,_,rfl,.inr (bR.of ao),rfl,rfl,_,rfl,gP (k:="grant") (ls:=A6h) (b:=true) 0x6 ?_⟩⟩
  apply 0o1 H t1 ht1 n1 hk0 H1
  have s1:=(Same.refl H).trans n1;have b1:=b0.same n1;have x1:=n1 _ _ hx;refine dB ?_;refine 0x1F;rw [gR]
  by_cases he:e∈nms es
  rotate_left
  ·rw [A0s he];refine dB ?_;exact k _ _ s1 (.no he)
  rw [A0j he];refine cu ?_;obtain ⟨y,hy,rfl⟩:=dM he;refine ⟨_,rfl,small 0xA,fun t2 Nx=>⟨t2,_,rfl,.inr (bR.of ao),rfl,rfl,_,rfl,gP (k:="grant") (ls:=A6c) (b:=true) 0x6 ?_⟩⟩
  apply 0o1 H1 t2 Nx n2 hk0 H2
  have s2:=s1.trans n2;have b2:=b1.same n2;have x2:=n2 _ _ x1;refine dB ?_;refine ⟨_,rfl,r,_,_,_,rfl,rfl,bR.of x2,aH (j:=3) rfl,_,rfl,q.B,_,rfl,b2.gk,q.kn,_,rfl,.inl (bT.of b2.k),rfl,rY _,_,rfl,qG (fun hk=>?_) (fun hn=>?_)⟩
  ·exact k _ _ s2 (.tk rfl he hk)
  refine ⟨_,rfl,r,_,_,_,rfl,rfl,bR.of x2,aH (j:=2) rfl,?_⟩;refine ⟨_,rfl,small 0xA,fun t3 Tp=>⟨t3,_,rfl,.inr (bR.of ao),rfl,rfl,_,rfl,gP (k:="grant") (ls:=A6c) (b:=true) 0x6 ?_⟩⟩
  apply 0o1 H2 t3 Tp n3 hk0 H3
  have s3:=s2.trans n3;have b3:=b2.same n3;have x3:=n3 _ _ x2;refine dB ?_;refine ⟨_,rfl,r,_,_,_,rfl,rfl,bR.of x3,aH (j:=4) rfl,?_⟩;refine ⟨_,rfl,rfl,_,rfl,lJ (b:=false) 0x6 ?_⟩;refine cu ?_;refine ⟨_,rfl,rfl,_,rfl,zU (b:=false) 0x6 ?_⟩;refine dB 0x32;refine ⟨_,rfl,small 0xA,fun t4 WY=>⟨t4,_,rfl,.inr (bR.of ao),rfl,rfl,_,rfl,gP (k:="grant") (ls:=A6c) (b:=true) 0x6 ?_⟩⟩
  apply 0o1 H3 t4 WY n4 hk0 H4
  have s4:=s3.trans n4;have b4:=b3.same n4;have x4:=n4 _ _ x3;refine dB ?_;refine 0x5D;refine iQ (fun hgt=>?_) (fun hle=>?_)
  ·exact k _ _ s4 (.ac rfl hy rfl hn (by have h:=hgt;simp only [A1J] at h;exact h))
  refine ⟨_,rfl,rfl,_,rfl,lJ (b:=false) 0x6 (cu (cu ?_))⟩;exact k _ _ s4 (.st (y:=y) ⟨hy,rfl,hn,by have h:=hle;simp only [A1J] at h;lia⟩)
 | part e n m a =>
  refine ⟨_,rfl,r,_,_,_,rfl,rfl,bR.of hx,aH (j:=0) rfl,?_⟩;refine ⟨_,rfl,small 0xA,fun t1 ht1=>⟨t1,_,rfl,.inr (bR.of ao),rfl,rfl,_,rfl,gP (k:="part") (ls:=A6h) (b:=true) 0x6 ?_⟩⟩
  apply 0o1 H t1 ht1 n1 hk0 H1
  have s1:=(Same.refl H).trans n1;have b1:=b0.same n1;have x1:=n1 _ _ hx;refine dB ?_;refine 0x1F;rw [gR]
  by_cases he:e∈nms es
  rotate_left
  ·rw [A0s he];refine dB ?_;exact k _ _ s1 (.no he)
  rw [A0j he];refine cu ?_;obtain ⟨y,hy,rfl⟩:=dM he;refine ⟨_,rfl,small 0xA,fun t2 Nx=>⟨t2,_,rfl,.inr (bR.of ao),rfl,rfl,_,rfl,gP (k:="part") (ls:=A6c) (b:=true) 0x6 ?_⟩⟩
  apply 0o1 H1 t2 Nx n2 hk0 H2
  have s2:=s1.trans n2;have b2:=b1.same n2;have x2:=n2 _ _ x1;refine dB ?_;refine ⟨_,rfl,r,_,_,_,rfl,rfl,bR.of x2,aH (j:=3) rfl,_,rfl,q.B,_,rfl,b2.gk,q.kn,_,rfl,.inl (bT.of b2.k),rfl,rY _,_,rfl,qG (fun hk=>?_) (fun hn=>?_)⟩
  ·exact k _ _ s2 (.tk rfl he hk)
  refine ⟨_,rfl,r,_,_,_,rfl,rfl,bR.of x2,aH (j:=2) rfl,?_⟩;refine ⟨_,rfl,small 0xA,fun t3 Tp=>⟨t3,_,rfl,.inr (bR.of ao),rfl,rfl,_,rfl,gP (k:="part") (ls:=A6c) (b:=true) 0x6 ?_⟩⟩
  apply 0o1 H2 t3 Tp n3 hk0 H3
  have s3:=s2.trans n3;have b3:=b2.same n3;have x3:=n3 _ _ x2;refine dB ?_;refine ⟨_,rfl,r,_,_,_,rfl,rfl,bR.of x3,aH (j:=4) rfl,?_⟩;refine ⟨_,rfl,rfl,_,rfl,lJ (b:=false) 0x6 ?_⟩;refine cu ?_;refine ⟨_,rfl,rfl,_,rfl,zU (b:=false) 0x6 ?_⟩;refine dB 0x32;refine ⟨_,rfl,small 0xA,fun t4 WY=>⟨t4,_,rfl,.inr (bR.of ao),rfl,rfl,_,rfl,gP (k:="part") (ls:=A6c) (b:=true) 0x6 ?_⟩⟩
  apply 0o1 H3 t4 WY n4 hk0 H4
  have s4:=s3.trans n4;have b4:=b3.same n4;have x4:=n4 _ _ x3;refine dB ?_;refine 0x5D;refine iQ (fun hgt=>?_) (fun hle=>?_)
  ·exact k _ _ s4 (.ac rfl hy rfl hn (by have h:=hgt;simp only [A1J] at h;exact h))
  refine ⟨_,rfl,rfl,_,rfl,lJ (b:=false) 0x6 (cu (cu ?_))⟩;exact k _ _ s4 (.st (y:=y) ⟨hy,rfl,hn,by have h:=hle;simp only [A1J] at h;lia⟩)
 | convey e m =>
  refine ⟨_,rfl,r,_,_,_,rfl,rfl,bR.of hx,aH (j:=0) rfl,?_⟩;refine ⟨_,rfl,small 0xA,fun t1 ht1=>⟨t1,_,rfl,.inr (bR.of ao),rfl,rfl,_,rfl,gP (k:="convey") (ls:=A6h) (b:=true) 0x6 ?_⟩⟩
  apply 0o1 H t1 ht1 n1 hk0 H1
  have s1:=(Same.refl H).trans n1;have b1:=b0.same n1;have x1:=n1 _ _ hx;refine dB ?_;refine 0x1F;rw [gR]
  by_cases he:e∈nms es
  rotate_left
  ·rw [A0s he];refine dB ?_;exact k _ _ s1 (.no he)
  rw [A0j he];refine cu ?_;obtain ⟨y,hy,rfl⟩:=dM he;refine ⟨_,rfl,small 0xA,fun t2 Nx=>⟨t2,_,rfl,.inr (bR.of ao),rfl,rfl,_,rfl,gP (k:="convey") (ls:=A6c) (b:=false) 0x6 ?_⟩⟩
  apply 0o1 H1 t2 Nx n2 hk0 H2
  have s2:=s1.trans n2;have b2:=b1.same n2;have x2:=n2 _ _ x1;refine cu ?_;refine ⟨_,rfl,r,_,_,_,rfl,rfl,bR.of x2,aH (j:=2) rfl,?_⟩;refine ⟨_,rfl,small 0xA,fun t3 Tp=>⟨t3,_,rfl,.inr (bR.of ao),rfl,rfl,_,rfl,gP (k:="convey") (ls:=A6c) (b:=false) 0x6 ?_⟩⟩
  apply 0o1 H2 t3 Tp n3 hk0 H3
  have s3:=s2.trans n3;have b3:=b2.same n3;have x3:=n3 _ _ x2;refine cu ?_;refine ⟨_,rfl,rfl,_,rfl,lJ (b:=true) 0x6 ?_⟩;refine dB ⟨_,rfl,r,_,_,_,rfl,rfl,bR.of x3,aH (j:=3) rfl,?_⟩;refine ⟨_,rfl,rfl,_,rfl,zU (b:=false) 0x6 ?_⟩;refine dB 0x32;refine ⟨_,rfl,small 0xA,fun t4 WY=>⟨t4,_,rfl,.inr (bR.of ao),rfl,rfl,_,rfl,gP (k:="convey") (ls:=A6c) (b:=false) 0x6 ?_⟩⟩
  apply 0o1 H3 t4 WY n4 hk0 H4
  have s4:=s3.trans n4;have b4:=b3.same n4;have x4:=n4 _ _ x3;refine cu ?_;refine ⟨_,rfl,rfl,_,rfl,lJ (b:=false) 0x6 (cu (cu ?_))⟩;exact k _ _ s4 (.st (y:=y) ⟨hy,rfl⟩)
 | eZ e =>
  refine ⟨_,rfl,r,_,_,_,rfl,rfl,bR.of hx,aH (j:=0) rfl,?_⟩;refine ⟨_,rfl,small 0xA,fun t1 ht1=>⟨t1,_,rfl,.inr (bR.of ao),rfl,rfl,_,rfl,gP (k:="surrender") (ls:=A6h) (b:=true) 0x6 ?_⟩⟩
  apply 0o1 H t1 ht1 n1 hk0 H1
  have s1:=(Same.refl H).trans n1;have b1:=b0.same n1;have x1:=n1 _ _ hx;refine dB ?_;refine 0x1F;rw [gR]
  by_cases he:e∈nms es
  rotate_left
  ·rw [A0s he];refine dB ?_;exact k _ _ s1 (.no he)
  rw [A0j he];refine cu ?_;obtain ⟨y,hy,rfl⟩:=dM he;refine ⟨_,rfl,small 0xA,fun t2 Nx=>⟨t2,_,rfl,.inr (bR.of ao),rfl,rfl,_,rfl,gP (k:="surrender") (ls:=A6c) (b:=false) 0x6 ?_⟩⟩
  apply 0o1 H1 t2 Nx n2 hk0 H2
  have s2:=s1.trans n2;have b2:=b1.same n2;have x2:=n2 _ _ x1;refine cu ?_;refine ⟨_,rfl,r,_,_,_,rfl,rfl,bR.of x2,aH (j:=2) rfl,?_⟩;refine ⟨_,rfl,small 0xA,fun t3 Tp=>⟨t3,_,rfl,.inr (bR.of ao),rfl,rfl,_,rfl,gP (k:="surrender") (ls:=A6c) (b:=false) 0x6 ?_⟩⟩
  apply 0o1 H2 t3 Tp n3 hk0 H3
  have s3:=s2.trans n3;have b3:=b2.same n3;have x3:=n3 _ _ x2;refine cu ?_;refine ⟨_,rfl,rfl,_,rfl,lJ (b:=false) 0x6 ?_⟩;refine cu ?_;refine ⟨_,rfl,rfl,_,rfl,zU (b:=true) 0x6 ?_⟩;refine cu ?_;refine ⟨_,rfl,small 0xA,fun t4 WY=>⟨t4,_,rfl,.inr (bR.of ao),rfl,rfl,_,rfl,gP (k:="surrender") (ls:=A6c) (b:=false) 0x6 ?_⟩⟩
  apply 0o1 H3 t4 WY n4 hk0 H4
  have s4:=s3.trans n4;have b4:=b3.same n4;have x4:=n4 _ _ x3;refine cu ?_;refine ⟨_,rfl,rfl,_,rfl,lJ (b:=false) 0x6 (cu (cu ?_))⟩;exact k _ _ s4 (.st (y:=y) ⟨hy,rfl⟩)
abbrev sDo:Stmt:=top 61
def Ny (q:Ad) (H H':Hp):Prop:=∀ c u,c≠q.a1->c≠q.a2->c≠q.a3->c≠q.a4->c≠q.a5->H c=some u->H' c=some u
def Vp (y:aM) (t1 t2:Addr) (H:Hp):Rw->Prop
 | .grant _ _ _ _ s=>jy H t1 s 1
 | .part _ _ _ a=>jy H t1 (oA (y.due.1 * a) (y.due.2 * y.br)).1 (oA (y.due.1 * a) (y.due.2 * y.br)).2/\jy H t2 (oA (y.due.1 * (y.br - a)) (y.due.2 * y.br)).1 (oA (y.due.1 * (y.br - a)) (y.due.2 * y.br)).2
 | .convey _ _=>True
 | .eZ _=>True
inductive a0K (vs:List V) (H:Hp) (Q:VK) (cD:XK):Prop
 | mk (q:Ad) (es:List aM) (ks:List Str) (r:Addr) (bG:Rw) (y:aM) (dy:Int) (_:vs=[.ref q.B,.ref r]) (_:Ap q) (_:Bk q H es ks) (_:WF es) (_:jy H y.tb y.due.1 y.due.2) (_:Bd 400 y.due) (_:H r=some (.tup (Rw.vs dy bG))) (_:dZ es ks y bG) (_:(∀ e n m a s,bG=.grant e n m a s->n∉nms es)) (_:(∀ e n m a,bG=.part e n m a->n∉nms es/\1<=a/\a<=9999/\e≠"")) (_:(∀ e,bG=.eZ e->e≠"")) (_:es.length<=18) (_:ks.length<=60) (_:∀ b1 b2 H',(∀ t1 t2,Bk q H' 0x21 (stK ks bG))->Vp y b1 b2 H' bG->dw q H H'->Q .non H'):a0K vs H Q cD
theorem gq {k l:Str}{A:Prop} (h:decide (k=l)=false) (g:B):if decide (V.str k=V.str l)=true then A else B:=lJ h (cu g)
theorem Kr {k l:Str}{A:Prop} (h:decide (k=l)=true) (g:A):if decide (V.str k=V.str l)=true then A else B:=lJ h (dB g)
theorem a0L:aQ ["_law_book_here", "_law_row_here", "_law_whole", "_law_wide", "_law_taker_here", "_law_estate"] A5J (aJ sDo):=0x0
theorem a2f (F:fK K "_law_do" "_law_do" sDo f fd) 
  (G1:aL P w K mg base bN 1 g1 d1 A5O Tg) (M1:Ms K mg "_law_new" g1 d1 A5O)
  (G2:aL P w K mg base bN 2 g2 d2 A5H WT) (M2:Ms K mg "_law_breadth" g2 d2 A5H)
  (G3:aL P w K mg base bN 1 g3 d3 ["_law_top", "_law_bottom"] xV) (M3:Ms K mg "_law_low" g3 d3 ["_law_top", "_law_bottom"])
  (G4:aL P w K mg base bN 2 g4 d4 A5H a0E) (M4:Ms K mg "_law_fall" g4 d4 A5H) :
  aL P w K mg base bN 3 f fd A5J a0K:=by
 refine F.ok a0L 0x1 0x3;obtain ⟨q,es,ks,r,bG,y,dy,rfl,ap,bk,W,hfr,hbd,hx,hst,hgr,hpa,hsu,hl,hk,k⟩:=h;have G1:=aL.mono (k:=2) G1 0x2;have G3:=aL.mono (k:=2) G3 0x2;refine ⟨_,(au (bQ (aV dO 0x19 aN (bH _)) (aG (bO (bC G1 hr rfl M1.m M1.k M1.b .nil aY (aj 0x3A (aj 0x11 (aj 0x19 (aj (cN (aj 0x19 (aj aA aC))) aC))))))) aX)
  (au (bQ (aV dO 0x19 aN (bH _)) (au (aU (i:=2) a0L.nd rfl 0x8 (bf (u1 hr) 0x1A 0x19 0x5))
  (au (aU (i:=3) a0L.nd rfl 0x8 (bC G2 hr rfl M2.m M2.k M2.b .nil aY (aj 0x3A (aj 0x19 aC))))
  (au (bO (bC G1 hr rfl M1.m M1.k M1.b .nil aY (aj 0x3A (aj 0x11 (aj (bf (u1 hr) 0x1A 0x19 0x5) (aj (bC G3 hr rfl M3.m M3.k M3.b .nil aY (aj (aR jF (aO bA (pv 2) aA 0x5) 0x19) (aj (aR jF (aO bA (pv 2) aA 0x5) (pv 3)) aC))) aC))))))
  (aG (eO (u1 hr) 0x1A 0x19 (bC G3 hr rfl M3.m M3.k M3.b .nil aY (aj (aR jF (aO bA (pv 2) aA 0x5) (aR pB (pv 3) 0x19)) (aj (aR jF (aO bA (pv 2) aA 0x5) (pv 3)) aC))) rfl))))) aX)
  (au (bQ (aV dO 0x19 aN (bH _)) (aG (eO (u1 hr) 0x1A 0x19 0x19 rfl)) aX)
  (au (bQ (aV dO 0x19 aN (bH _)) (aG (bO (bC G4 hr rfl M4.m M4.k M4.b .nil aY (aj 0x3A (aj 0x19 aC))))) aX)
  (au (bQ (aV dO 0x19 aN (bH _)) cB aX)
  (au (bQ (aV dO 0x19 aN (bH _)) cB aX)
  (aG (bQ (aV dO 0x19 aN (bH _)) cB aX)))))))),?_⟩
 have kl:∀ {f:aM->V},(kv f es).length<=800:=by intro f;rw [iZ];lia
 cases bG with
 | grant e n m a s =>
  obtain ⟨hy,rfl,hn,ha⟩:=hst;have hnn:=hgr _ _ _ _ _ rfl;refine 0x41;refine ⟨_,rfl,_,rfl,_,rfl,r,_,_,_,rfl,rfl,bR.of hx,aH (j:=2) rfl,_,rfl,r,_,_,_,rfl,rfl,bR.of hx,aH (j:=6) rfl,small 0xA,fun t ht=>?_⟩
  apply 0o1 H t ht s1 ht1 H1
  have b1:=bk.same s1;have x1:=s1 _ _ hx;refine ⟨q,_,_,_,_,ks,r,_,y.n,n,m,y.n,t,a,y.own,rfl,ap,b1,x1,rfl,rfl,rfl,rfl,?_,kl,kl,kl,kl,by lia,fun H' b' o'=>?_⟩
  ·rw [bK,A0e (fun z=>hnn (by rw [<- key_eq.mp z];exact A0m.mpr ⟨y,hy,rfl⟩))];exact cG W.nd hy
  have x2:=fV b1 o' x1;have Nx:=fV b1 o' ht1;refine 0x1D;refine 0x1D;refine 0x1D;refine 0x1D;refine 0x1D;refine 0x1D;refine k t 0 H' (fun c1 c2=>?_) Nx ((dw.same s1).trans o');have DP:y.n∈nms es:=A0m.mpr ⟨y,hy,rfl⟩;rw [vD DP hnn] at b';have e1:iY (stp y es c1 c2 t 0 (.grant y.n n m a s))=putK (iY es) 0x28 (.str y.n):=by
   show kv _ (mod y.n (oM a) es++[tE y.n n m a s c1 t])=_
   rw [cQ (g:=oM a) (x:=tE y.n n m a s c1 t) 0xF hnn,eF (g:=oM a) 0xF 0xF];rfl
  have e2:hoL (stp y es c1 c2 t 0 (.grant y.n n m a s))=putK (hoL es) 0x28 (.str m):=by
   show kv _ (mod y.n (oM a) es++[tE y.n n m a s c1 t])=_
   rw [cQ (g:=oM a) (x:=tE y.n n m a s c1 t) 0xF hnn,eF (g:=oM a) 0xF 0xF];rfl
  have e3:lH (stp y es c1 c2 t 0 (.grant y.n n m a s))=putK (putK (lH es) (.inr y.n) (.int (y.own - a))) 0x28 (.int a):=by
   show kv _ (mod y.n (oM a) es++[tE y.n n m a s c1 t])=_
   rw [cQ (g:=oM a) (x:=tE y.n n m a s c1 t) 0xF hnn,jJ (g:=oM a) 0xF W.nd hy];rfl
  have e4:qU (stp y es c1 c2 t 0 (.grant y.n n m a s))=putK (qU es) 0x28 (.ref t):=by
   show kv _ (mod y.n (oM a) es++[tE y.n n m a s c1 t])=_
   rw [cQ (g:=oM a) (x:=tE y.n n m a s c1 t) 0xF hnn,eF (g:=oM a) 0xF 0xF];rfl
  show BQ q H' _ _ _ _ (ks++[n])
  rw [e1,e2,e3,e4];exact b'
 | part e n m a =>
  obtain ⟨hy,rfl,hn,ha⟩:=hst;obtain ⟨hnn,h2,h3,h4⟩:=hpa _ _ _ _ rfl;obtain ⟨p,hp,_,_⟩:=W.lord y hy h4;have hbb:=W.bnd y hy;have hob:=W.vB y hy;have DP:y.n∈nms es:=A0m.mpr ⟨y,hy,rfl⟩;have q1:=jz hbd.1 0x7;have q2:=jz hbd.2.2 0x7;have q3:a.natAbs<nH:=jz (e:=5) 0x2 0x7;have q4:y.br.natAbs<nH:=jz (e:=5) 0x2 0x7;have q5:(y.br - a).natAbs<nH:=jz (e:=5) 0x2 0x7;have q6:(y.due.2 * y.br).natAbs<nH:=jz (nO (f:=5) hbd.2.2 0x2) 0x7;have q7:y.due.2 * y.br≠0:=A3X (A2Y hbd.2.1 0x2);have gl:∀ {Hx:Hp},Bk q Hx es ks->fQ Hx q.l (V.str y.n) (some (.str p)):=fun b=>by
   have:=Ov b.l W.nd hy;rw [hp] at this;exact this
  refine 0x1E;refine 0x41;refine ⟨_,rfl,q.B,_,rfl,bk.gd,_,rfl,r,_,_,_,rfl,rfl,bR.of hx,aH (j:=2) rfl,q.d,_,rfl,Ov bk.d W.nd hy,?_⟩;refine ⟨_,rfl,_,rfl,r,_,_,_,rfl,rfl,bR.of hx,aH (j:=2) rfl,q,es,ks,y,rfl,ap,bk,W,hy,hl,fun H1 s1=>?_⟩;have b1:=bk.same s1;have x1:=s1 _ _ hx;have f1:H1 y.tb=some (.tup [.int y.due.1,.int y.due.2]):=s1 _ _ hfr;refine ⟨_,rfl,_,rfl,_,rfl,q.B,_,rfl,b1.gl,_,rfl,r,_,_,_,rfl,rfl,bR.of x1,aH (j:=2) rfl,q.l,_,rfl,gl b1,?_⟩;refine ⟨_,rfl,y.tb,_,_,_,rfl,rfl,bR.of f1,aH (j:=0) rfl,_,rfl,r,_,_,_,rfl,rfl,bR.of x1,aH (j:=5) rfl,_,_,rfl,rfl,⟨q1,q3⟩,_,rfl,y.tb,_,_,_,rfl,rfl,bR.of f1,aH (j:=1) rfl,_,rfl,_,_,rfl,rfl,⟨q2,q4⟩,_,_,rfl,q7,q6,fun t ht=>?_⟩
  apply 0o1 H1 t ht s2 Nx H2
  have b2:=b1.same s2;have x2:=s2 _ _ x1;have f2:=s2 _ _ f1;have o2:=dw.same (q:=q) (s1.trans s2);refine ⟨q,_,_,_,_,ks,r,_,y.n,n,m,p,t,a,y.own,rfl,ap,b2,x2,rfl,rfl,rfl,rfl,?_,kl,kl,kl,kl,by lia,fun H3 b3 o3=>?_⟩
  ·rw [bK,A0e (fun z=>hnn (by rw [<- key_eq.mp z];exact DP))];exact cG W.nd hy
  have x3:=fV b2 o3 x2;have f3:=fV b2 o3 f2;have Tp:=fV b2 o3 Nx;have o4:=o2.trans o3;refine ⟨_,rfl,y.tb,_,_,_,rfl,rfl,bR.of f3,aH (j:=0) rfl,_,rfl,_,rfl,r,_,_,_,rfl,rfl,bR.of x3,aH (j:=5) rfl,_,_,rfl,rfl,_,_,rfl,rfl,⟨q1,q5⟩,_,rfl,y.tb,_,_,_,rfl,rfl,bR.of f3,aH (j:=1) rfl,_,rfl,_,_,rfl,rfl,⟨q2,q4⟩,_,_,rfl,q7,q6,fun u hu=>?_⟩
  apply 0o1 H3 u hu s5 hu5 H5
  have b5:=b3.same s5;have x5:=s5 _ _ x3;have ht5:=s5 _ _ Tp;have o5:=o4.trans (dw.same (q:=q) s5);have kl2:(putK (qU es) 0x28 (.ref t)).length<=801:=A0M (cV _ _ _) (Nat.succ_le_succ kl);refine ⟨_,rfl,q.B,_,rfl,b5.kd,_,rfl,r,_,_,_,rfl,rfl,bR.of x5,aH (j:=2) rfl,q.d,_,rfl,iR.k (k:=.inr y.n) b5.d (bU 0x2),?_⟩;have b6:=b5.ud (l':=putK (putK (qU es) 0x28 (.ref t)) (.inr y.n) (.ref u)) ap;have o6:=o5.trans 0x35;have x6:=fV b5 0x35 x5;have ht6:=fV b5 0x35 ht5;have hu6:=fV b5 0x35 hu5;generalize upd H5 q.d (.dK (putK (putK (qU es) 0x28 (.ref t)) (.inr y.n) (.ref u)))=H6 at b6 o6 x6 ht6 hu6 ⊢;refine 0x27;refine 0x27;refine 0x27;refine 0x27;refine 0x27;refine k t u H6 (fun c1 c2=>?_) ⟨ht6,hu6⟩ o6;rw [vD DP hnn,vD DP hnn] at b6;have e1:iY (stp y es c1 c2 t u (.part y.n n m a))=putK (iY es) 0x28 (.str p):=by
   show kv _ (mod y.n (oN a c2 u) es++[tG y n m a c1 t])=_
   rw [cQ (g:=oN a c2 u) (x:=tG y n m a c1 t) 0xF hnn,eF (g:=oN a c2 u) 0xF 0xF]
   show putK _ _ (iu y.lord)=_
   rw [hp];rfl
  have e2:hoL (stp y es c1 c2 t u (.part y.n n m a))=putK (hoL es) 0x28 (.str m):=by
   show kv _ (mod y.n (oN a c2 u) es++[tG y n m a c1 t])=_
   rw [cQ (g:=oN a c2 u) (x:=tG y n m a c1 t) 0xF hnn,eF (g:=oN a c2 u) 0xF 0xF];rfl
  have e3:lH (stp y es c1 c2 t u (.part y.n n m a))=putK (putK (lH es) (.inr y.n) (.int (y.own - a))) 0x28 (.int a):=by
   show kv _ (mod y.n (oN a c2 u) es++[tG y n m a c1 t])=_
   rw [cQ (g:=oN a c2 u) (x:=tG y n m a c1 t) 0xF hnn,jJ (g:=oN a c2 u) 0xF W.nd hy];rfl
  have e4:qU (stp y es c1 c2 t u (.part y.n n m a))=putK (putK (qU es) (.inr y.n) (.ref u)) 0x28 (.ref t):=by
   show kv _ (mod y.n (oN a c2 u) es++[tG y n m a c1 t])=_
   rw [cQ (g:=oN a c2 u) (x:=tG y n m a c1 t) 0xF hnn,jJ (g:=oN a c2 u) 0xF W.nd hy];rfl
  show BQ q H6 _ _ _ _ (ks++[n])
  rw [e1,e2,e3,e4];exact b6
 | convey e m =>
  obtain ⟨hy,rfl⟩:=hst;refine 0x1E;refine 0x1E;refine 0x41;refine ⟨_,rfl,r,_,_,_,rfl,rfl,bR.of hx,aH (j:=3) rfl,_,rfl,q.B,_,rfl,bk.gh,_,rfl,r,_,_,_,rfl,rfl,bR.of hx,aH (j:=2) rfl,q.h,_,rfl,iR.k (k:=.inr y.n) bk.h (bU (A0X kl 0x7)),?_⟩;have b1:=cZ.uh (l':=putK (hoL es) (.inr y.n) (.str m)) ap bk;have o1:=dw.uh (q:=q) (H:=H) (o:=.dK (putK (hoL es) (.inr y.n) (.str m)));have x1:=fV bk o1 hx;generalize upd H q.h (.dK (putK (hoL es) (.inr y.n) (.str m)))=H1 at b1 o1 x1 ⊢;refine 0x1C;refine 0x1C;refine 0x1C;refine 0x1C;refine k 0 0 H1 (fun c1 c2=>?_) True.intro o1;have e2:hoL 0x23=putK (hoL es) (.inr y.n) (.str m):=jJ (g:=oO m) 0xF W.nd hy;have e1:iY 0x23=iY es:=eF (g:=oO m) 0xF 0xF es;have e3:lH 0x23=lH es:=eF (g:=oO m) 0xF 0xF es;have e4:qU 0x23=qU es:=eF (g:=oO m) 0xF 0xF es
  show BQ q H1 (iY 0x23) (hoL 0x23) (lH 0x23) (qU 0x23) ks
  rw [e1,e2,e3,e4];exact b1
 | eZ e =>
  obtain ⟨hy,rfl⟩:=hst;have hne:=hsu _ rfl;obtain ⟨p,hp,_,_⟩:=W.lord y hy hne;have ep:y.lord.getD ""=p:=by rw [hp];rfl
  refine 0x1E;refine 0x1E;refine 0x1E;refine 0x41;refine ⟨_,rfl,_,rfl,r,_,_,_,rfl,rfl,bR.of hx,aH (j:=2) rfl,q,es,ks,y,p,rfl,ap,bk,W,hy,hne,hp,by lia,fun H1 b1 o1=>?_⟩;have x1:=fV bk o1 hx;refine 0x1C;refine 0x1C;refine 0x1C;refine k 0 0 H1 (fun c1 c2=>?_) True.intro o1
  show Bk q H1 (cH y.n (y.lord.getD "") y.own es) ks
  rw [ep];exact b1
section
variable {es:List aM}{bG:Rw}{y:aM}
theorem Pu.up {k:Nat} (r:Pu es ks ls j wd) (h:j<=k):Pu es ks ls k wd :=
 ⟨r.W,fun e he=>(r.bd e he).mono 0x2,r.kn,by have:=r.ln;lia,by have:=r.lk;lia,r.nl,r.tot⟩
theorem Pu.step (R:Pu es ks ls j wd) (hst:dZ es ks y bG) (hok:bG.Ok ls) (hls:∀ n∈ls,n≠""/\PyData.strOk n=true):Pu 0x21 (stK ks bG) ls (j+1) wd:=by
 obtain ⟨w1,w2,w3,w4⟩:=a0H (t1:=t1) (t2:=t2) (b1:=b1) (b2:=b2) R hst hok hls;refine ⟨w1,?_,w2,w3,w4,a0G R hok,(WW R.W hst hok).trans R.tot⟩;have old:∀ y0∈es,Bd (10+5 * (j+1)) y0.due:=fun y0 h0=>(R.bd y0 h0).mono 0x2;cases bG with
 | grant e n m a s =>
  obtain ⟨hy,rfl,hn,ha⟩:=hst;obtain ⟨h1,h2,h3,h4,h5⟩:=hok;intro z hz;rcases A0v.mp hz with c | c
  ·obtain ⟨y0,h0,rfl⟩:=cU c;have:=old y0 h0
   split
   ·exact this
   ·exact this
  ·rw [A0c.mp c]
   show Bd _ (s,1)
   have hp:10 ^ 5<=10 ^ (10+5 * (j+1)):=A2I 0x7 0x2;refine ⟨A0p ?_ hp,by show (0:Int)<1;decide,A0p ?_ hp⟩
   ·show s.natAbs<10 ^ 5
    lia
   ·show (1:Int).natAbs<10 ^ 5
    decide
 | part e n m a =>
  obtain ⟨hy,rfl,hn,ha⟩:=hst;obtain ⟨h1,h2,h3,h4⟩:=hok;have bd:=R.bd y hy;have bb:=R.W.bnd y hy;have ob:=R.W.vB y hy;have hB0:0<y.due.2 * y.br:=A2Y bd.2.1 0x2;have e5:10+5 * j+5=10+5 * (j+1):=by lia
  have m2:=nO (f:=5) bd.2.2 (show y.br.natAbs<10 ^ 5 by lia)
  have m1:=nO (f:=5) bd.1 (show a.natAbs<10 ^ 5 by lia)
  have m3:=nO (f:=5) bd.1 (show (y.br - a).natAbs<10 ^ 5 by lia)
  rw [e5] at m1 m2 m3;intro z hz;rcases A0v.mp hz with c | c
  ·obtain ⟨y0,h0,rfl⟩:=cU c
   split
   ·rename_i hc
    obtain rfl:=jH R.W.nd h0 hy hc;exact GD hB0 m3 m2
   ·exact old y0 h0
  ·rw [A0c.mp c];exact GD hB0 m1 m2
 | convey e m =>
  intro z hz;obtain ⟨y0,h0,rfl⟩:=cU hz;have:=old y0 h0
  split
  ·exact this
  ·exact this
 | eZ e =>
  intro z hz;obtain ⟨y0,h0,rfl⟩:=A0m.mp hz;exact old y0 (A0V.mp h0).1
theorem DW (sel:aM->Addr) {u1 u2:Addr} (nd:(nms es).Nodup) (hst:dZ es ks y bG) (old:∀ e∈es,jy H (sel e) e.due.1 e.due.2) (f:Vp y u1 u2 H bG)
  (g1:∀ a (z:aM),sel (oM a z)=sel z) (g2:∀ a z,sel (oN a t2 b2 z)=u2) (g3:∀ m z,sel (oO m z)=sel z) (g4:∀ e p a z,sel (Du e p a z)=sel z) (x1:∀ e n m a s,sel (tE e n m a s t1 b1)=u1) (x2:∀ z n m a,sel (tG z n m a t1 b1)=u1) :
  ∀ e∈stp y es t1 t2 b1 b2 bG,jy H (sel e) e.due.1 e.due.2:=by
 cases bG with
 | grant e n m a s =>
  obtain ⟨hy,rfl,hn,ha⟩:=hst;intro z hz;rcases A0v.mp hz with c | c
  ·obtain ⟨y0,h0,rfl⟩:=cU c;have:=old y0 h0
   split
   ·rw [g1];exact this
   ·exact this
  ·rw [A0c.mp c,x1];exact f
 | part e n m a =>
  obtain ⟨hy,rfl,hn,ha⟩:=hst;obtain ⟨fa,fb⟩:=f;intro z hz;rcases A0v.mp hz with c | c
  ·obtain ⟨y0,h0,rfl⟩:=cU c
   split
   ·rename_i hc
    obtain rfl:=jH nd h0 hy hc;rw [g2];exact fb
   ·exact old y0 h0
  ·rw [A0c.mp c,x2];exact fa
 | convey e m =>
  intro z hz;obtain ⟨y0,h0,rfl⟩:=cU hz;have:=old y0 h0
  split
  ·rw [g3];exact this
  ·exact this
 | eZ e =>
  intro z hz;obtain ⟨y0,h0,rfl⟩:=A0m.mp hz;rw [g4];exact old y0 (A0V.mp h0).1
end
section
variable {q:Ad}{es:List aM}{y:aM}{Q:VK}{E:XK}
def Ks (C:Addr) (q:Ad) (H:Hp) (es:List aM) (y:aM) (bG:Rw) (Q:VK):Prop:=∀ t1 t2 H',(∀ b1 b2,Ln C q H' 0x21)->Vp y t1 t2 H' bG->Ny q H H'->Q .non H'
theorem Tq {e n m:Str}{a s:Int} (R:Pu es ks ls j wd) (L:Ln C q H es) (a5:Gp q.a1 q.a2 q.a3 q.a4 q.a5) (fr:∀ e∈es,jy H e.ta e.due.1 e.due.2) (hst:dZ es ks y (.grant e n m a s)) (hok:Rw.Ok ls (.grant e n m a s)) (hls:∀ n∈ls,n≠""/\PyData.strOk n=true) (hj:j<=60) (k:Ks C q H es y (.grant e n m a s) Q):tV C [.ref q.x,.str e,.str n,.str m,.int a,.int s] H Q E:=by
 have W:=R.W;have ln:=R.ln;have kl:∀ {f:aM->V},(kv f es).length<=800:=by intro f;rw [iZ];lia
 obtain ⟨hy,rfl,hn,ha⟩:=hst;obtain ⟨h1,h2,h3,h4,h5⟩:=hok;have hnn:=R.new hn (hls n h1).1;refine ⟨q.x,q.dx,q.a1,q.a2,q.a3,q.a4,q.a5,_,_,_,_,_,y.n,n,m,a,s,y.own,rfl,L,a5,cG W.nd hy,A0M kl 0x7,A0M kl 0x7,kl,A0M kl 0x7,A0M kl 0x7,fun t ht=>?_⟩;have nt:∀ {b:Addr}{u:HO},H b=some u->t≠b:=fun hb z=>by rw [z,hb] at ht;cases ht
 refine k t 0 _ (fun c1 c2=>?_) ?_ ?_
 ·have e1:iY (stp y es t 0 c1 c2 (.grant y.n n m a s))=putK (iY es) 0x28 (.str y.n):=by
   show kv _ (mod y.n (oM a) es++[tE y.n n m a s t c1])=_
   rw [cQ (g:=oM a) (x:=tE y.n n m a s t c1) 0xF hnn,eF (g:=oM a) 0xF 0xF];rfl
  have e2:hoL (stp y es t 0 c1 c2 (.grant y.n n m a s))=putK (hoL es) 0x28 (.str m):=by
   show kv _ (mod y.n (oM a) es++[tE y.n n m a s t c1])=_
   rw [cQ (g:=oM a) (x:=tE y.n n m a s t c1) 0xF hnn,eF (g:=oM a) 0xF 0xF];rfl
  have e3:lH (stp y es t 0 c1 c2 (.grant y.n n m a s))=putK (putK (lH es) (.inr y.n) (.int (y.own - a))) 0x28 (.int a):=by
   show kv _ (mod y.n (oM a) es++[tE y.n n m a s t c1])=_
   rw [cQ (g:=oM a) (x:=tE y.n n m a s t c1) 0xF hnn,jJ (g:=oM a) 0xF W.nd hy];rfl
  have e4:Kd (stp y es t 0 c1 c2 (.grant y.n n m a s))=putK (Kd es) 0x28 (.ref t):=by
   show kv _ (mod y.n (oM a) es++[tE y.n n m a s t c1])=_
   rw [cQ (g:=oM a) (x:=tE y.n n m a s t c1) 0xF hnn,eF (g:=oM a) 0xF 0xF];rfl
  have e5:zN (stp y es t 0 c1 c2 (.grant y.n n m a s))=putK (zN es) 0x28 (.int a):=by
   show kv _ (mod y.n (oM a) es++[tE y.n n m a s t c1])=_
   rw [cQ (g:=oM a) (x:=tE y.n n m a s t c1) 0xF hnn,eF (g:=oM a) 0xF 0xF];rfl
  show bZ C _ q.x q.dx q.a1 q.a2 q.a3 q.a4 q.a5 _ _ _ _ _
  rw [e1,e2,e3,e4,e5];have x1:=aK L.o L.l1 0x4;have x2:=aK L.o L.l2 0x4;have x3:=aK L.o L.l3 0x4;have x4:=aK L.o L.l4 0x4;have x5:=aK L.o L.l5 0x4;unfold rK;refine ⟨?_,?_,?_,?_,?_,ao⟩
  ·rw [ak x5,ak x4,ak x3,ak x2,ak x1,ak (A0k (nt L.o)),ak x3];exact L.o
  ·rw [ak a5.n15,ak a5.n14,ak a5.n13,ak a5.n12,ao]
  ·rw [ak a5.n25,ak a5.n24,ak a5.n23,ao]
  ·rw [ak a5.n35,ak a5.n34,ao]
  ·rw [ak a5.n45,ao]
 ·show rK _ _ _ _ _ _ _ _ _ _ _ _ _ _ _ _ t=some (.tup [.int s,.int 1])
  unfold rK;rw [ak (nt L.l5),ak (nt L.l4),ak (nt L.l3),ak (nt L.l2),ak (nt L.l1),ao]
 ·intro c u c1 c2 c3 c4 c5 hc;unfold rK;rw [ak c5,ak c4,ak c3,ak c2,ak c1,ak (A0k (nt hc)),ak c3];exact hc
theorem X3 {e n m:Str}{a:Int} (R:Pu es ks ls j wd) (L:Ln C q H es) (a5:Gp q.a1 q.a2 q.a3 q.a4 q.a5) (fr:∀ e∈es,jy H e.ta e.due.1 e.due.2) (hst:dZ es ks y (.part e n m a)) (hok:Rw.Ok ls (.part e n m a)) (hls:∀ n∈ls,n≠""/\PyData.strOk n=true) (hj:j<=60) (k:Ks C q H es y (.part e n m a) Q):oE C [.ref q.x,.str e,.str n,.str m,.int a] H Q E:=by
 have W:=R.W;have ln:=R.ln;have kl:∀ {f:aM->V},(kv f es).length<=800:=by intro f;rw [iZ];lia
 obtain ⟨hy,rfl,hn,ha⟩:=hst;obtain ⟨h1,h2,h3,h4⟩:=hok;have hnn:=R.new hn (hls n h1).1;obtain ⟨p,hp,_,_⟩:=W.lord y hy h4;have hfr:=fr y hy;have hbd:=R.bd y hy;have hbb:=W.bnd y hy;have hob:=W.vB y hy;refine ⟨q.x,q.dx,q.a1,q.a2,q.a3,q.a4,q.a5,_,_,_,_,_,y.n,n,m,p,y.ta,a,y.own,y.br,y.due,rfl,L,a5,(by rw [cG W.nd hy,hp];rfl),cG W.nd hy,cG W.nd hy,cG W.nd hy,hfr,hbd.mono 0x2,by lia,by lia,by lia,kl,kl,kl,kl,kl,fun g r' H' hg hr0 hgr L' f1 f2 out=>?_⟩;rw [Nj hbd.2.1 0x2] at f2;refine k g r' H' (fun c1 c2=>?_) ⟨f1,f2⟩ out;have e1:iY (stp y es g r' c1 c2 (.part y.n n m a))=putK (iY es) 0x28 (.str p):=by
  show kv _ 0x5B=_
  rw [cQ (g:=oN a r' c2) (x:=tG y n m a g c1) 0xF hnn,eF (g:=oN a r' c2) 0xF 0xF]
  show putK _ _ (iu y.lord)=_
  rw [hp];rfl
 have e2:hoL (stp y es g r' c1 c2 (.part y.n n m a))=putK (hoL es) 0x28 (.str m):=by
  show kv _ 0x5B=_
  rw [cQ (g:=oN a r' c2) (x:=tG y n m a g c1) 0xF hnn,eF (g:=oN a r' c2) 0xF 0xF];rfl
 have e3:lH (stp y es g r' c1 c2 (.part y.n n m a))=putK (putK (lH es) (.inr y.n) (.int (y.own - a))) 0x28 (.int a):=by
  show kv _ 0x5B=_
  rw [cQ (g:=oN a r' c2) (x:=tG y n m a g c1) 0xF hnn,jJ (g:=oN a r' c2) 0xF W.nd hy];rfl
 have e4:Kd (stp y es g r' c1 c2 (.part y.n n m a))=putK (putK (Kd es) (.inr y.n) (.ref r')) 0x28 (.ref g):=by
  show kv _ 0x5B=_
  rw [cQ (g:=oN a r' c2) (x:=tG y n m a g c1) 0xF hnn,jJ (g:=oN a r' c2) 0xF W.nd hy];rfl
 have e5:zN (stp y es g r' c1 c2 (.part y.n n m a))=putK (putK (zN es) (.inr y.n) (.int (y.br - a))) 0x28 (.int a):=by
  show kv _ 0x5B=_
  rw [cQ (g:=oN a r' c2) (x:=tG y n m a g c1) 0xF hnn,jJ (g:=oN a r' c2) 0xF W.nd hy];rfl
 show bZ C H' q.x q.dx q.a1 q.a2 q.a3 q.a4 q.a5 _ _ _ _ _
 rw [e1,e2,e3,e4,e5];exact L'
theorem NK {e m:Str} (R:Pu es ks ls j wd) (L:Ln C q H es) (a5:Gp q.a1 q.a2 q.a3 q.a4 q.a5) (fr:∀ e∈es,jy H e.ta e.due.1 e.due.2) (hst:dZ es ks y (.convey e m)) (hok:Rw.Ok ls (.convey e m)) (hls:∀ n∈ls,n≠""/\PyData.strOk n=true) (hj:j<=60) (k:Ks C q H es y (.convey e m) Q):qw C [.ref q.x,.str e,.str m] H Q E:=by
 have W:=R.W;have ln:=R.ln;have kl:∀ {f:aM->V},(kv f es).length<=800:=by intro f;rw [iZ];lia
 obtain ⟨hy,rfl⟩:=hst;refine ⟨q.x,q.dx,q.a1,q.a2,q.a3,q.a4,q.a5,_,_,_,_,_,y.n,m,rfl,L,A0M kl 0x7,?_⟩;refine k 0 0 _ (fun c1 c2=>?_) True.intro fun c u _ c2 _ _ _ hc=>by rw [ak c2];exact hc
 have e2:hoL 0x23=putK (hoL es) (.inr y.n) (.str m):=jJ (g:=oO m) 0xF W.nd hy
 show bZ C _ q.x q.dx q.a1 q.a2 q.a3 q.a4 q.a5 (iY 0x23) (hoL 0x23) (lH 0x23) (Kd 0x23) (zN 0x23)
 rw [e2];have e1:iY 0x23=iY es:=eF (g:=oO m) 0xF 0xF es;have e3:lH 0x23=lH es:=eF (g:=oO m) 0xF 0xF es;have e4:Kd 0x23=Kd es:=eF (g:=oO m) 0xF 0xF es;have e5:zN 0x23=zN es:=eF (g:=oO m) 0xF 0xF es;rw [e1,e3,e4,e5];exact ⟨by rw [ak (aK L.o L.l2 0x4)];exact L.o,by rw [ak a5.n12];exact L.l1,ao,by rw [ak (A0k a5.n23)];exact L.l3,by rw [ak (A0k a5.n24)];exact L.l4,by rw [ak (A0k a5.n25)];exact L.l5⟩
theorem X4 {e:Str} (R:Pu es ks ls j wd) (L:Ln C q H es) (a5:Gp q.a1 q.a2 q.a3 q.a4 q.a5) (fr:∀ e∈es,jy H e.ta e.due.1 e.due.2) (hst:dZ es ks y (.eZ e)) (hok:Rw.Ok ls (.eZ e)) (hls:∀ n∈ls,n≠""/\PyData.strOk n=true) (hj:j<=60) (k:Ks C q H es y (.eZ e) Q):zp C [.ref q.x,.str e] H Q E:=by
 have W:=R.W;have ln:=R.ln;have kl:∀ {f:aM->V},(kv f es).length<=800:=by intro f;rw [iZ];lia
 obtain ⟨hy,rfl⟩:=hst;obtain ⟨p,hp,hpm,hpn⟩:=W.lord y hy hok;obtain ⟨z,hz,hzn⟩:=dM hpm;have ep:y.lord.getD ""=p:=by rw [hp];rfl
 have vp:=cG (f:=fun e=>V.int e.own) W.nd hz;rw [hzn] at vp;refine ⟨q.x,q.dx,q.a1,q.a2,q.a3,q.a4,q.a5,_,_,_,_,_,y.n,p,y.own,z.own,rfl,L,a5,(by rw [cG W.nd hy,hp];rfl),cG W.nd hy,vp,(by rw [cG W.nd hy];rfl),(by rw [cG W.nd hy];rfl),(by rw [cG W.nd hy];rfl),Ke,YG,(by rw [iZ];lia),kl,fun ss H' hss _ L' out=>?_⟩;rw [Nq (a:=y.own) W.nd hss,T6 W.nd hz hzn,pJ (p:=p) (a:=y.own) (f:=fun e=>V.str e.man) 0xF,pJ (p:=p) (a:=y.own) (f:=fun e=>V.ref e.ta) 0xF,pJ (p:=p) (a:=y.own) (f:=fun e=>V.int e.br) 0xF] at L';refine k 0 0 H' (fun c1 c2=>?_) True.intro out
 show Ln C q H' (cH y.n (y.lord.getD "") y.own es)
 rw [ep];exact L'
end
end M
namespace L2
open PySem PySem.Spec PyProof.Rows PySem.W
def wJ (H:Hp):List 0x61->List (Key×PyData)->Prop:=Paired fun (p:Key×V) (q:Key×PyData)=>p.1=q.1/\cO H p.2 q.2/\q.2.canLay0=true/\q.2.depth<=8
def NP (ds:List (Key×PyData)) (k:Key):Option PyData:=(ds.find? fun q=>decide (q.1=k)).map (·.2)
def vI (bs:List (Key×PyData)) (q:Key×PyData):Bool:=match NP bs q.1 with
 | none=>false
 | some d=>PyData.eqv q.2 d
def gY (as bs:List (Key×PyData)):Bool:=(as.length==bs.length)&&as.all (vI bs)
theorem wJ.at {k:Key}:∀ {kb:List 0x61}{db:List (Key×PyData)},wJ H kb db->(bJ kb k=none/\NP db k=none)\/∃ v d,bJ kb k=some v/\NP db k=some d/\cO H v d/\d.canLay0=true/\d.depth<=8
 | _,_,.nil=>.inl ⟨rfl,rfl⟩
 | p::l1,q::l2,.cons h r=>by
  obtain ⟨e,h1,h2,h3⟩:=h
  by_cases hk:p.1=k
  ·refine .inr ⟨p.2,q.2,?_,?_,h1,h2,h3⟩
   ·unfold bJ;rw [A1M (by simpa using hk)];rfl
   ·unfold NP;rw [A1M (by rw [<- e];simpa using hk)];rfl
  ·have e1:bJ (p::l1) k=bJ l1 k:=by unfold bJ;rw [A1x (by simpa using hk)]
   have e2:NP (q::l2) k=NP l2 k:=by unfold NP;rw [A1x (by rw [<- e];simpa using hk)]
   rw [e1,e2];exact wJ.at r
theorem Ku (I:Inv X pins σ H s) (hu:X.A.units+64<cLine) {kb:List 0x61}{vb:List (Key×Value)}{db:List (Key×PyData)} (rb:KV kb vb) (hb:wJ H kb db) :
  ∀ {ka:List 0x61}{va:List (Key×Value)}{da:List (Key×PyData)},KV ka va->wJ H ka da->KeqHits X.A.in1 s vb va (da.all (vI db))
 | _,_,_,.nil,h=>by cases h;exact .nil
 | _,_,_,.cons (a:=p) (b:=u) h r,h'=>by
  cases h' with
  | cons g g' =>
   rename_i q qs
   obtain ⟨e,rv⟩:=h;obtain ⟨e',h1,h2,h3⟩:=g;have rest:=Ku I hu rb hb r g';obtain ⟨uk,uv⟩:=u;obtain ⟨pk,pv⟩:=p;obtain ⟨qk,qv⟩:=q;have e1:pk=uk:=e;have e2:pk=qk:=e';subst e1;subst e2;have rel:=KV.val rb pk;rw [A2O];rcases wJ.at (k:=pk) hb with ⟨n1,n2⟩ | ⟨v,d,n1,n2,m1,m2,m3⟩
   ·have:vI db (pk,qv)=false:=by unfold vI;rw [n2]
    rw [this,Bool.false_and];refine .miss ?_;rw [n1] at rel;exact jA.none_of rel
   ·have:vI db (pk,qv)=PyData.eqv qv d:=by unfold vI;rw [n2]
    rw [this];rw [n1] at rel;obtain ⟨y,hy,ry⟩:=jA.some_of rel;obtain ⟨as,ra⟩:=cO.reads I h1 rv;obtain ⟨bs,rb'⟩:=cO.reads I m1 ry;refine .hit hy (A5i _ _ _ _ _ _ _ _ ra rb' h2 m2 ?_) rest;have:X.A.in1.units=X.A.units+1:=rfl;lia
inductive rEqK (x y:V) (H:Hp) (Q:VK):Prop
 | mk (a b:Addr) (ka kb:List 0x2B) (da db:List (Prod L2.Key PySem.PyData)) (_:x=.ref a) (_:y=.ref b) (_:H a=some (.dK ka)) (_:H b=some (.dK kb)) (_:wJ H ka da) (_:wJ H kb db) (_:Q (.bl (gY da db)) H):rEqK x y H Q
theorem zV (hu:X.A.units+64<cLine):nu X (compareOp .Eq) rEqK:=by
 intro pins s σ H x y v u Q I rx ry h;obtain ⟨a,b,ka,kb,da,db,rfl,rfl,ha,hb,ga,gb,q⟩:=h;cases rx;cases ry;obtain ⟨_,n1,va,r1,d1⟩:=oX I.hok ha;obtain ⟨_,n2,vb,r2,d2⟩:=oX I.hok hb;refine keq_eq n1 n2 d1 d2 0x2 (fun _=>Ku I hu r2 gb r1 ga) ⟨.bl _,H,I,?_,q⟩;have l1:va.length=da.length:=by rw [<- KV.length r1];exact A4h ga
 have l2:vb.length=db.length:=by rw [<- KV.length r2];exact A4h gb
 show Value.bool _=Value.bool _
 unfold gY;rw [l1,l2]
theorem qH:bootBuiltins "dict"=some (.type "dict"):=by decide +kernel
end L2
namespace M
open PySem L2 PyProof.Rows
inductive zW (C:Addr) (vs:List V) (H:Hp) (Q:VK) (cD:XK):Prop
 | mk (x dx a1 a2 a3 a4 a5:Addr) (lo ho ow se br:List 0x2B) (y dy b1 b2 b3 b4 b5:Addr) (lo' ho' ow' se' br':List 0x2B) (D1 D2 D3 D4 E1 E2 E3 E4:List (Prod L2.Key PySem.PyData)) (_:vs=[.ref x,.ref y]) (_:bZ C H x dx a1 a2 a3 a4 a5 lo ho ow se br) (_:bZ C H y dy b1 b2 b3 b4 b5 lo' ho' ow' se' br') (_:wJ H lo D1) (_:wJ H ho D2) (_:wJ H ow D3) (_:wJ H se D4) (_:wJ H lo' E1) (_:wJ H ho' E2) (_:wJ H ow' E3) (_:wJ H se' E4) (_:Q (.bl (gY D1 E1&&(gY D2 E2&&(gY D3 E3&&gY D4 E4)))) H):zW C vs H Q cD
inductive oG (C:Addr) (vs:List V) (H:Hp) (Q:VK) (cD:XK):Prop
 | mk (x dx a1 a2 a3 a4 a5:Addr) (lo ho ow se br:List 0x2B) (n:Int) (_:vs=[.ref x]) (_:bZ C H x dx a1 a2 a3 a4 a5 lo ho ow se br) (_:bJ br (.inr "")=some (.int n)) (_:1<=n) (_:n<=9999) (_:∀ y dy b1 b2 b3 b4 b5 H',Same H H'->bZ C H' y dy b1 b2 b3 b4 b5 lo ho ow se br->H y=none->H b1=none->H b2=none->H b3=none->H b4=none->H b5=none->Gp b1 b2 b3 b4 b5->Q (.ref y) H'):oG C vs H Q cD
theorem u64 {k:Nat} (r:cP k A):A.units+64<cLine:=by have:=r.un;lia
theorem X5:aQ ["self", "other"] ["self", "other"] (aJ Gm):=0x0
theorem Tr (T:cW K C) (F:fK K "same" "Land.same" Gm f fd):aL P w K mg base bN 1 f fd ["self", "other"] (zW C):=by
 refine F.ok X5 0x1 0x3;obtain ⟨x,dx,a1,a2,a3,a4,a5,lo,ho,ow,se,br,y,dy,b1,b2,b3,b4,b5,lo',ho',ow',se',br',D1,D2,D3,D4,E1,E2,E3,E4,rfl,L,L',d1,d2,d3,d4,e1,e2,e3,e4,k⟩:=h;refine ⟨_,aG (aZ (nj (jd (zV (u64 hr)) 0xD (bB 0x11 rfl) (bH _)) (nj (jd (zV (u64 hr)) 0xD (bB 0x11 rfl) (bH _)) (nj (jd (zV (u64 hr)) 0xD (bB 0x11 rfl) (bH _)) (uE (jd (zV (u64 hr)) 0xD (bB 0x11 rfl) (bH _))))))),?_⟩;refine ⟨_,rfl,x,C,dx,_,_,rfl,L.o,T.cl,T.n1,rfl,_,rfl,y,C,dy,_,_,rfl,L'.o,T.cl,T.n1,rfl,a1,b1,_,_,D1,E1,rfl,rfl,L.l1,L'.l1,d1,e1,_,rfl,?_⟩;cases h1:gY D1 E1 with
 | false=>rw [h1] at k;exact k
 | true =>
  rw [h1] at k;refine ⟨_,rfl,x,C,dx,_,_,rfl,L.o,T.cl,T.n2,rfl,_,rfl,y,C,dy,_,_,rfl,L'.o,T.cl,T.n2,rfl,a2,b2,_,_,D2,E2,rfl,rfl,L.l2,L'.l2,d2,e2,_,rfl,?_⟩;cases h2:gY D2 E2 with
  | false=>rw [h2] at k;exact k
  | true =>
   rw [h2] at k;refine ⟨_,rfl,x,C,dx,_,_,rfl,L.o,T.cl,T.n3,rfl,_,rfl,y,C,dy,_,_,rfl,L'.o,T.cl,T.n3,rfl,a3,b3,_,_,D3,E3,rfl,rfl,L.l3,L'.l3,d3,e3,_,rfl,?_⟩;cases h3:gY D3 E3 with
   | false=>rw [h3] at k;exact k
   | true =>
    rw [h3] at k;exact ⟨_,rfl,x,C,dx,_,_,rfl,L.o,T.cl,T.n4,rfl,_,rfl,y,C,dy,_,_,rfl,L'.o,T.cl,T.n4,rfl,a4,b4,_,_,D4,E4,rfl,rfl,L.l4,L'.l4,d4,e4,k⟩
theorem Kv:aQ ["self", "other"] A5S (aJ QL):=0x0
theorem Tt (T:cW K C) (F:fK K "twin" "Land.twin" QL f fd) (mo:Wq K w.params mg) (md:mg "dict"=none)  (G1:aL P w K mg base bN 3 g1 d1 A5W (zB C)) (MK1:Mk K C g1) (mR:mg "Land"=some (.ref C)) (b1:Binds K d1 A5W []):aL P w K mg base bN 5 f fd A5S (oG C):=by
 obtain ⟨tc,mC⟩:=mo.crown;refine F.ok Kv 0x1 0x3;obtain ⟨x,dx,a1,a2,a3,a4,a5,lo,ho,ow,se,br,n,rfl,L,hb,n1,n2,k⟩:=h;have Ro:cP 4 _:=hr.mono 0x7;refine ⟨_,au (aU (i:=1) Kv.nd rfl 0x8 (tM (CX:=bN) (E:=E0) MK1 G1 Ro rfl mR b1 .nil aY (aj (bf (u1 hr) 0xD 0x36 0x5) aC)))
  (au 0x62
  (au 0x62
  (au 0x62
  (au 0x62
  (au 0x62
  (aG (aZ 0x11))))))),?_⟩
 refine ⟨_,rfl,x,C,dx,_,_,rfl,L.o,T.cl,T.n5,rfl,a5,_,rfl,gQ L.l5 hb,fun y dy hy0 hdy0 hne=>?_⟩;refine ⟨y,dy,n,rfl,ao,n1,n2,fun c1 c2 c3 c4 c5 t0 H0 kx LA _ _ _ _ _ _ _ _=>⟨rfl,?_⟩⟩;have s0:Same H H0:=fun c o hc=>kx c o 0x42 (by
  rw [ak 0x42,ak (fun z=>by rw [z,hdy0] at hc;cases hc)];exact hc)
 clear kx;have y0:=LA.o;clear LA;refine ⟨_,rfl,x,C,dx,_,_,rfl,(L.same s0).o,T.cl,T.n1,rfl,a1,_,rfl,(L.same s0).l1,fun p1 hp1=>?_⟩;have w1:y≠p1:=aq y0 hp1;refine ⟨_,rfl,y,C,dy,_,rfl,by rw [ak w1];exact y0,T.cl,T.n1,A0u rfl,?_⟩;have z1:H p1=none:=s0.free hp1;generalize hH:upd _ y _=H1;have y1:H1 y=some (.ins C dy (F5 p1 c2 c3 c4 c5)):=by rw [<- hH,ao];rfl
 have s1:Same H H1:=fun c o hc=>by rw [<- hH,ak 0x42,ak (fun z=>by rw [z,z1] at hc;cases hc)];exact s0 _ _ hc
 have e11:H1 p1=some (.dK lo):=by rw [<- hH,ak (A0k w1),ao]
 clear hH;refine ⟨_,rfl,x,C,dx,_,_,rfl,(L.same s1).o,T.cl,T.n2,rfl,a2,_,rfl,(L.same s1).l2,fun p2 hp2=>?_⟩;have w2:y≠p2:=aq y1 hp2;refine ⟨_,rfl,y,C,dy,_,rfl,by rw [ak w2];exact y1,T.cl,T.n2,A0u rfl,?_⟩;have z2:H p2=none:=s1.free hp2;generalize hH:upd _ y _=H2;have y2:H2 y=some (.ins C dy (F5 p1 p2 c3 c4 c5)):=by rw [<- hH,ao];rfl
 have s2:Same H H2:=fun c o hc=>by rw [<- hH,ak 0x42,ak (fun z=>by rw [z,z2] at hc;cases hc)];exact s1 _ _ hc
 have e22:H2 p2=some (.dK ho):=by rw [<- hH,ak (A0k w2),ao]
 have n12:=aq e11 hp2;have e12:H2 p1=some (.dK lo):=by rw [<- hH,ak (A0k w1),ak n12];exact e11
 clear hH;refine ⟨_,rfl,x,C,dx,_,_,rfl,(L.same s2).o,T.cl,T.n3,rfl,a3,_,rfl,(L.same s2).l3,fun p3 hp3=>?_⟩;have w3:y≠p3:=aq y2 hp3;refine ⟨_,rfl,y,C,dy,_,rfl,by rw [ak w3];exact y2,T.cl,T.n3,A0u rfl,?_⟩;have z3:H p3=none:=s2.free hp3;generalize hH:upd _ y _=H3;have y3:H3 y=some (.ins C dy (F5 p1 p2 p3 c4 c5)):=by rw [<- hH,ao];rfl
 have s3:Same H H3:=fun c o hc=>by rw [<- hH,ak 0x42,ak (fun z=>by rw [z,z3] at hc;cases hc)];exact s2 _ _ hc
 have e33:H3 p3=some (.dK ow):=by rw [<- hH,ak (A0k w3),ao]
 have n13:=aq e12 hp3;have e13:H3 p1=some (.dK lo):=by rw [<- hH,ak (A0k w1),ak n13];exact e12
 have n23:=aq e22 hp3;have e23:H3 p2=some (.dK ho):=by rw [<- hH,ak (A0k w2),ak n23];exact e22
 clear hH;refine ⟨_,rfl,x,C,dx,_,_,rfl,(L.same s3).o,T.cl,T.n4,rfl,a4,_,rfl,(L.same s3).l4,fun p4 X6=>?_⟩;have w4:y≠p4:=aq y3 X6;refine ⟨_,rfl,y,C,dy,_,rfl,by rw [ak w4];exact y3,T.cl,T.n4,A0u rfl,?_⟩;have z4:H p4=none:=s3.free X6;generalize hH:upd _ y _=H4;have y4:H4 y=some (.ins C dy (F5 p1 p2 p3 p4 c5)):=by rw [<- hH,ao];rfl
 have s4:Same H H4:=fun c o hc=>by rw [<- hH,ak 0x42,ak (fun z=>by rw [z,z4] at hc;cases hc)];exact s3 _ _ hc
 have e44:H4 p4=some (.dK se):=by rw [<- hH,ak (A0k w4),ao]
 have n14:=aq e13 X6;have e14:H4 p1=some (.dK lo):=by rw [<- hH,ak (A0k w1),ak n14];exact e13
 have n24:=aq e23 X6;have e24:H4 p2=some (.dK ho):=by rw [<- hH,ak (A0k w2),ak n24];exact e23
 have n34:=aq e33 X6;have e34:H4 p3=some (.dK ow):=by rw [<- hH,ak (A0k w3),ak n34];exact e33
 clear hH;refine ⟨_,rfl,x,C,dx,_,_,rfl,(L.same s4).o,T.cl,T.n5,rfl,a5,_,rfl,(L.same s4).l5,fun p5 Vq=>?_⟩;have w5:y≠p5:=aq y4 Vq;refine ⟨_,rfl,y,C,dy,_,rfl,by rw [ak w5];exact y4,T.cl,T.n5,A0u rfl,?_⟩;have z5:H p5=none:=s4.free Vq;generalize hH:upd _ y _=H5;have y5:H5 y=some (.ins C dy (F5 p1 p2 p3 p4 p5)):=by rw [<- hH,ao];rfl
 have s5:Same H H5:=fun c o hc=>by rw [<- hH,ak 0x42,ak (fun z=>by rw [z,z5] at hc;cases hc)];exact s4 _ _ hc
 have e55:H5 p5=some (.dK br):=by rw [<- hH,ak (A0k w5),ao]
 have n15:=aq e14 Vq;have e15:H5 p1=some (.dK lo):=by rw [<- hH,ak (A0k w1),ak n15];exact e14
 have n25:=aq e24 Vq;have e25:H5 p2=some (.dK ho):=by rw [<- hH,ak (A0k w2),ak n25];exact e24
 have n35:=aq e34 Vq;have e35:H5 p3=some (.dK ow):=by rw [<- hH,ak (A0k w3),ak n35];exact e34
 have n45:=aq e44 Vq;have e45:H5 p4=some (.dK se):=by rw [<- hH,ak (A0k w4),ak n45];exact e44
 clear hH;exact ⟨_,rfl,k y dy p1 p2 p3 p4 p5 H5 s5 ⟨y5,e15,e25,e35,e45,e55⟩ hy0 z1 z2 z3 z4 z5 ⟨n12,n13,n14,n15,n23,n24,n25,n34,n35,n45⟩⟩
end M
namespace L2
open PySem PySem.Spec PyProof.Rows
inductive DX (SP:Addr->Sp->Prop) (E:XK) (t:TA) (σ:L2.St) (Q:VK) (v:V) (H1:Hp):Prop
 | mk (f:Addr) (sp:Sp) (_:v=.ref f) (_:SP f sp) (_:t σ H1 fun vs H2=>sp vs H2 Q E):DX SP E t σ Q v H1
def a0M (SP:Addr->Sp->Prop) (E:XK) (tn:TE) (t:TA):TE:=fun σ H Q=>tn σ H fun v H1=>DX SP E t σ Q v H1
theorem DY {E:XK}{SP:Addr->Sp->Prop}{p:Pos}{tn:TE}{es:List Expr}{t:TA} (hn:PE X (.Name x p) tn)
  (hS:∀ f sp,SP f sp->∃ (k:Nat) (fd:FuncData) (ps:List Str),aL X.prog X.w X.K X.mg X.base CX k f fd ps sp/\cP k X.A/\PySem.W.keepIn X.K (.ref f)=true/\Binds X.K fd ps []) (hx:Passes CX X E)
  (ha:PA X (e::es) t) (he:starEach (e::es) X.env=0x53::starEach es X.env:=by rfl) (hpl:(0x55).any (·.1)=false:=by rfl) :
  PE X (.Call (.Name x p) (e::es) [] pos) (a0M SP E tn t):=by
 intro pins s σ H Q I h;refine A1T (cL (hn pins s σ H _ I h) fun u s0 zq=>?_);obtain ⟨v,H0,I0,r0,f,sp,ev,hsp,q0⟩:=zq;subst ev;cases r0;obtain ⟨k,fd,ps,F,hr,hk,hb⟩:=hS f sp hsp;refine A3M (h₀:=X.base) I0.ok.mod.kin hk (cL (ha pos pins s0 σ H0 _ I0 q0) fun us s1 ⟨vs,H1,I1,r,q⟩=>⟨I1.oU,?_⟩) he hpl;refine uK F hr hb .nil hx I1 r ?_;rw [A1s];exact q
inductive Ea (ty tx:TE) (σ:L2.St) (Q:VK) (x:V) (H1:Hp):Prop
 | mk (a:Addr) (_:x=.ref a) (_:IsD H1 a) (_:ty σ H1 fun y H2=>tx σ H2 fun z H3=>∃ kvs k,H3 a=some 0x24/\y=kV k/\kvs.length<sizeLine/\(∀ v,bJ kvs k=some v->Q v H3)/\(bJ kvs k=none->Q z (upd H3 a (.dK (putK kvs k z))))):Ea ty tx σ Q x H1
def a0N (td ty tx:TE):TE:=fun σ H Q=>td σ H fun x H1=>Ea ty tx σ Q x H1
section
variable {k:Key}
theorem Tv {z:V}{r:Value} (I:Inv X pins σ H s) (e:H a=some 0x24) (ry:RelV (kV k) u) (rz:RelV z r) (lt:kvs.length<sizeLine)
  (h1:∀ v w' s',bJ kvs k=some v->Inv X pins σ H s'->RelV v w'->Q w' s') (h2:∀ s',bJ kvs k=none->Inv X pins σ (upd H a (.dK (putK kvs k z))) s'->Q r s') :
  wpAny 0x9 A (call (.builtin "dict.setdefault") [.ref a,u,r]) Q E s:=by
 obtain ⟨zz,hd,vs,rel,dd⟩:=oX I.hok e;refine A3d A4t dd.typeIs PySem.F.entry_dict_setdefault (PySem.F.args_dict_setdefault_3 _ _ _) (kt_meets_setdefault (bV X.prog X.w) a (oW ry) hd r)
  ⟨vs,dd,by rw [<- rel.length];exact zz,fun w' hw=>?_,fun hn h' Fb hs=>?_⟩
 ·have:=rel.val k;rw [hw] at this;cases l:bJ kvs k with
  | none=>rw [l] at this;exact False.elim this
  | some v=>rw [l] at this;exact h1 v w' _ l (I.tok _) this
 ·have:=rel.val k;rw [hn] at this;have l:bJ kvs k=none:=by
   cases l:bJ kvs k with
   | none=>rfl
   | some v=>rw [l] at this;exact False.elim this
  refine h2 _ l ?_;have he:∃ q,h'.get? a=some q:=let ⟨q,_,_,hq,_⟩:=Fb;⟨q,hq⟩
  have hl:(putK kvs k z).length<=sizeLine:=by have:=cV kvs k z;lia
  exact kJ I 0x56 hs he (uT hl hd (rel.put k rz) Fb)
end
section
variable {o f:Expr}{tx:TE}
theorem Tw (ho:PE X o td) (he:PE X e ty) (hf:PE X f tx) (m:M2 X o "setdefault" apos e f cpos):PE X (.Call (.Attribute o "setdefault" apos) [e,f] [] cpos) (a0N td ty tx):=by
 intro pins s σ H Q I h;refine A5a m.base m.few m.line A1W A4t PySem.F.type_dict_setdefault (cL (ho pins s σ H _ I h) fun u s1 zq=>?_);obtain ⟨x,H1,I1,rx,a,ex,d,q1⟩:=zq;subst ex;obtain rfl:u=Value.ref a:=rx;obtain ⟨t1,t2,_⟩:=Gg I1 d;refine ⟨t1,t2,?_⟩;rw [m.trees];refine A1w rfl (A3n (A2u (cL (he pins s1 σ H1 _ I1 q1) fun iv s2 ⟨y,H2,I2,ry,q2⟩ =>
  A2u (cL (hf pins s2 σ H2 _ I2 q2) fun fv s3 ⟨z,H3,I3,rz,kvs,k,ea,ey,lt,q3,q4⟩=>A3S ?_))))
 subst ey;exact Tv I3 ea ry rz lt (fun v w' s4 l I4 bG=>⟨v,H3,I4,bG,q3 v l⟩) fun s4 l I4=>⟨z,_,I4,rz,q4 l⟩
end
end L2
namespace M
open PySem L2 PyProof.Rows
abbrev Tz:Stmt:=inClass (top 16) 0
abbrev zX:Stmt:=inClass (top 16) 3
abbrev zY:Stmt:=inClass (top 26) 0
abbrev vJ:Stmt:=top 27
abbrev sWN:Stmt:=top 28
abbrev sWC:Stmt:=top 29
abbrev sWS:Stmt:=top 30
abbrev sDG:Stmt:=top 35
abbrev sDP:Stmt:=top 36
abbrev sDC:Stmt:=top 37
abbrev sDS:Stmt:=top 39
structure TF (K:PySem.W.Frag) (CK:Addr):Prop where
 cl:Cls K CK
 n1:dW K CK "heir_of"
 n2:dW K CK "gone"
structure jV (K:PySem.W.Frag) (CR:Addr):Prop where
 cl:Cls K CR
 n1:dW K CR "ground"
 n2:dW K CR "kin"
 n3:dW K CR "used"
 n4:dW K CR "lieges"
 n5:dW K CR "deaths"
structure vK (CK:Addr) (H:Hp) (k dk hh gg:Addr):Prop where
 o:H k=some (.ins CK dk [("heir_of",.ref hh),("gone",.ref gg)])
 h:H hh=some (.dK [])
 g:H gg=some (.dK [])
theorem vK.same {k dk hh gg:Addr} (a:vK CK H k dk hh gg) (s:Same H H'):vK CK H' k dk hh gg:=⟨s _ _ a.o,s _ _ a.h,s _ _ a.g⟩
abbrev FRm (g k u li de:Addr):List (Str×V):=[("ground",.ref g),("kin",.ref k),("used",.ref u),("lieges",.ref li),("deaths",.ref de)]
def Ow (ks:List Str):List 0x61:=ks.map fun n=>(Sum.inr n,V.bl true)
structure Rm where
 z:Addr
 dz:Addr
 k:Addr
 dk:Addr
 hh:Addr
 gg:Addr
 u:Addr
 li:Addr
 de:Addr
structure gU (CR CK C:Addr) (H:Hp) (m:Rm) (q:Ad) (es:List aM) (ks:List Str):Prop where
 o:H m.z=some (.ins CR m.dz (FRm q.x m.k m.u m.li m.de))
 K:vK CK H m.k m.dk m.hh m.gg
 U:H m.u=some (.dK (Ow ks))
 L:Ln C q H es
theorem gU.same {CR:Addr}{m:Rm}{q:Ad}{es:List aM} (a:gU CR CK C H m q es ks) (s:Same H H'):gU CR CK C H' m q es ks:=⟨s _ _ a.o,a.K.same s,s _ _ a.U,a.L.same s⟩
theorem a2g (ks:List Str) (n:Str):(bJ (Ow ks) 0x28).isSome=decide (n∈ks):=by
 unfold Ow bJ
 induction ks with
 | nil=>rfl
 | cons a r ih =>
  rw [A0g]
  by_cases h:a=n
  ·rw [A1M (by simp [h]),h];simp
  ·rw [A1x (by simp;exact h),ih];simp [A0k h]
inductive zZ (CK:Addr) (vs:List V) (H:Hp) (Q:VK) (cD:XK):Prop
 | mk (k dk hh gg:Addr) (z:Str) (_:vs=[.ref k,.str z]) (_:vK CK H k dk hh gg) (_:Q (.bl false) H):zZ CK vs H Q cD
inductive lK (CR CK C:Addr) (ok:Rw->Bool) (vs:List V) (H:Hp) (Q:VK) (cD:XK):Prop
 | mk (m:Rm) (q:Ad) (es:List aM) (ks:List Str) (r:Addr) (bG:Rw) (dy:Int) (_:vs=[.ref m.z,.ref r]) (_:gU CR CK C H m q es ks) (_:(nms es).Nodup) (_:H r=some (.tup (Rw.vs dy bG))) (_:ok bG=true) (_:∀ (w:Str) (H':Hp),Same H H'->Wd es ks bG w->Q (.str w) H'):lK CR CK C ok vs H Q cD
def isNew:Rw->Bool
 | .grant ..=>true
 | .part ..=>true
 | _=>false
def yt:Rw->Bool
 | .convey ..=>true
 | _=>false
def yu:Rw->Bool
 | .eZ ..=>true
 | _=>false
section
variable {CR:Addr}
theorem a0O:aQ A5Z A5Z (aJ zX):=0x0
theorem X7 (T:TF K CK) (F:fK K "is_dead" "Kin.is_dead" zX f fd):aL P w K mg base bN 1 f fd A5Z (zZ CK):=by
 refine F.ok a0O 0x1 0x3;obtain ⟨k,dk,hh,gg,z,rfl,KA,q⟩:=h;refine ⟨_,aG (aZ (Ft (Ge (u1 hr) 0x11 0xD) 0x16)),?_⟩;exact ⟨_,rfl,_,rfl,k,CK,dk,_,_,rfl,KA.o,T.cl,T.n2,rfl,gg,_,rfl,fQ.k (k:=.inr z) KA.g,q⟩
theorem TJ:aQ ["realm", "row", "estate", "new", "man", "acres"] A5I (aJ sWN):=0x0
theorem a2h (T:cW K C) (TK:TF K CK) (TR:jV K CR) (F:fK K "word_of_new" "word_of_new" sWN f fd)  (mS:mg "STANDS"=some (.str "stands" tS)) 
  (G1:aL P w K mg base bN 1 g1 d1 A5G (mQ C)) (m1:Meth K C "there" g1) (b1:Binds K d1 A5G [])
  (G2:aL P w K mg base bN 1 g2 d2 A5Z (zZ CK)) (m2:Meth K CK "is_dead" g2) (b2:Binds K d2 A5Z [])
  (G3:aL P w K mg base bN 3 g3 d3 A5G (JM C)) (m3:Meth K C "own" g3) (b3:Binds K d3 A5G []) :
  aL P w K mg base bN 4 f fd A5I (lK CR CK C isNew):=by
 refine F.ok TJ 0x1 0x3;obtain ⟨m,q,es,ks,r,bG,dy,rfl,R,nd,hx,hk,k⟩:=h;have hr1:cP 1 _:=hr.mono 0x7;refine ⟨_,au (qZ (dY tQ 0x11 (cA aA) (cA aA)) (lq rfl (bM (bD (i:=2) TJ.nd rfl 0x8) (bM (bD (i:=3) TJ.nd rfl 0x8) (bM (bD (i:=4) TJ.nd rfl 0x8) (bM (bD (i:=5) TJ.nd rfl 0x8) gj))))))
  (au (bQ (gO (dU (bW (CX:=bN) (E:=E0) 0xD T.cl m1 G1 hr1 b1 .nil aY 0x3D))) (aG (aZ aN)) aX)
  (au (bQ (Fv (Ge (u1 hr) (pv 3) 0xD) 0x16) (aG (aZ aN)) aX)
  (au (bQ (dU (bW (CX:=bN) (E:=E0) 0xD TK.cl m2 G2 hr1 b2 .nil aY (aj (pv 4) aC))) (aG (aZ aN)) aX)
  (au (bQ (aV pR (bW (CX:=bN) (E:=E0) 0xD T.cl m3 G3 hr b3 .nil aY 0x3D) (pv 5) (bH _)) (aG (aZ aN)) aX)
  (aG (aZ (cY rfl mS ⟨_,rfl⟩ (v:=.str "stands")))))))),?_⟩
 obtain ⟨n,mn,hnew,rN⟩:∃ n mn,bG.new=some n/\gw (Rw.vs dy bG) (some 2) (some 6)=[.str bG.est,.str n,.str mn,.int bG.acr]:=by
  cases bG with
  | grant e n mn a s=>exact ⟨n,mn,rfl,rfl⟩
  | part e n mn a=>exact ⟨n,mn,rfl,rfl⟩
  | convey e mn=>cases hk
  | eZ e=>cases hk
 refine ⟨_,rfl,_,rfl,_,rfl,r,_,rfl,bR.of hx,fun p H1 ho=>?_⟩;rw [rN] at ho;obtain ⟨hp,s1⟩:=mO ho;refine ⟨p,_,rfl,hp,rfl,_,_,rfl,_,_,rfl,_,_,rfl,_,_,rfl,rfl,?_⟩;have R1:=R.same s1;clear ho hp rN;refine 0x58;refine ⟨q.x,q.dx,q.a1,q.a2,q.a3,q.a4,q.a5,_,_,_,_,_,_,rfl,R1.L,?_⟩;rw [gR];refine ⟨_,rfl,?_⟩
 by_cases he:bG.est∈nms es
 rotate_left
 ·rw [A0s he];exact dB (k _ _ s1 (.no he))
 rw [A0j he];refine cu ?_;refine ⟨_,rfl,_,rfl,m.z,CR,m.dz,_,_,rfl,R1.o,TR.cl,TR.n3,rfl,m.u,_,rfl,fQ.k (k:=.inr n) R1.U,_,rfl,?_⟩;rw [a2g]
 by_cases hn:n∈ks
 ·rw [A0j hn];exact dB (k _ _ s1 (.tk hnew he hn))
 rw [A0s hn];refine cu ?_;refine ⟨_,rfl,m.z,CR,m.dz,_,_,rfl,R1.o,TR.cl,TR.n2,rfl,m.k,m.dk,_,rfl,R1.K.o,rfl,_,rfl,m.k,m.dk,m.hh,m.gg,_,rfl,R1.K,_,rfl,cu ?_⟩;obtain ⟨y,hy,DP⟩:=dM he;refine 0x58;refine ⟨q.x,q.dx,q.a1,q.a2,q.a3,q.a4,q.a5,_,_,_,_,_,_,_,rfl,R1.L,by rw [gR];exact A0j he,by rw [<- DP];exact cG nd hy,_,rfl,_,_,rfl,rfl,_,rfl,iQ 0x54 0x54⟩
 ·have h:=c;simp only [A1J] at h;exact k _ _ s1 (.ac hnew hy DP hn h)
 ·have h:=c;simp only [A1J] at h;refine k _ _ s1 (.st (y:=y) ?_);cases bG with
  | grant e n' mn' a s=>injection hnew with hnew;subst hnew;exact ⟨hy,DP,hn,by simp only [Rw.acr] at h;lia⟩
  | part e n' mn' a=>injection hnew with hnew;subst hnew;exact ⟨hy,DP,hn,by simp only [Rw.acr] at h;lia⟩
  | convey e mn'=>cases hk
  | eZ e=>cases hk
structure Sep (m:Rm) (q:Ad):Prop where
 a5:Gp q.a1 q.a2 q.a3 q.a4 q.a5
 u:m.u≠q.a1/\m.u≠q.a2/\m.u≠q.a3/\m.u≠q.a4/\m.u≠q.a5
 h:m.hh≠q.a1/\m.hh≠q.a2/\m.hh≠q.a3/\m.hh≠q.a4/\m.hh≠q.a5
 g:m.gg≠q.a1/\m.gg≠q.a2/\m.gg≠q.a3/\m.gg≠q.a4/\m.gg≠q.a5
 uh:m.hh≠m.u
 ug:m.gg≠m.u
def jK (m:Rm) (q:Ad) (H H':Hp):Prop:=∀ c u,c≠m.u->c≠q.a1->c≠q.a2->c≠q.a3->c≠q.a4->c≠q.a5->H c=some u->H' c=some u
def TQ (CR CK C:Addr) (m:Rm) (q:Ad) (H:Hp) (es:List aM) (ks:List Str) (y:aM) (bG:Rw) (Q:VK):Prop :=
 ∀ t1 t2 H',(∀ b1 b2,gU CR CK C H' m q 0x21 (stK ks bG))->Vp y t1 t2 H' bG->jK m q H H'->Q .non H'
inductive j8 (CR CK C:Addr) (ok:Rw->Bool) (vs:List V) (H:Hp) (Q:VK) (cD:XK):Prop
 | mk (m:Rm) (q:Ad) (es:List aM) (ks ls:List Str) (j:Nat) (r:Addr) (bG:Rw) (y:aM) (dy wd:Int) (_:vs=[.ref m.z,.ref r]) (_:gU CR CK C H m q es ks) (_:Sep m q) (_:Pu es ks ls j wd) (_:(∀ e∈es,jy H e.ta e.due.1 e.due.2)) (_:dZ es ks y bG) (_:Rw.Ok ls bG) (_:(∀ n∈ls,n≠""/\PyData.strOk n=true)) (_:j<=60) (_:H r=some (.tup (Rw.vs dy bG))) (_:ok bG=true) (_:TQ CR CK C m q H es ks y bG Q):j8 CR CK C ok vs H Q cD
theorem gU.outL {CR:Addr}{m:Rm}{q:Ad}{es es':List aM} (a:gU CR CK C H m q es ks) (S:Sep m q) (o:Ny q H H') (L:Ln C q H' es'):gU CR CK C H' m q es' ks:=by
 have ni:∀ {c:Addr}{C dx:Addr}{fs:List (Str×V)},H c=some (.ins C dx fs)->H' c=some (.ins C dx fs):=fun hc =>
  o _ _ (aK hc a.L.l1 0x4) (aK hc a.L.l2 0x4) (aK hc a.L.l3 0x4) (aK hc a.L.l4 0x4) (aK hc a.L.l5 0x4) hc
 exact ⟨ni a.o,⟨ni a.K.o,o _ _ S.h.1 S.h.2.1 S.h.2.2.1 S.h.2.2.2.1 S.h.2.2.2.2 a.K.h,o _ _ S.g.1 S.g.2.1 S.g.2.2.1 S.g.2.2.2.1 S.g.2.2.2.2 a.K.g⟩,o _ _ S.u.1 S.u.2.1 S.u.2.2.1 S.u.2.2.2.1 S.u.2.2.2.2 a.U,L⟩
theorem gU.used {CR:Addr}{m:Rm}{q:Ad}{es:List aM} (a:gU CR CK C H m q es ks) (S:Sep m q):gU CR CK C (upd H m.u (.dK (Ow ks'))) m q es ks':=by
 have ni:∀ {c:Addr}{C dx:Addr}{fs:List (Str×V)},H c=some (.ins C dx fs)->(upd H m.u (.dK (Ow ks'))) c=some (.ins C dx fs):=fun hc=>by
  rw [ak (aK hc a.U 0x4)];exact hc
 exact ⟨ni a.o,⟨ni a.K.o,by rw [ak S.uh];exact a.K.h,by rw [ak S.ug];exact a.K.g⟩,ao,⟨ni a.L.o,by rw [ak (A0k S.u.1)];exact a.L.l1,by rw [ak (A0k S.u.2.1)];exact a.L.l2,by rw [ak (A0k S.u.2.2.1)];exact a.L.l3,by rw [ak (A0k S.u.2.2.2.1)];exact a.L.l4,by rw [ak (A0k S.u.2.2.2.2)];exact a.L.l5⟩⟩
theorem TX {n:Str} (h:n∉ks):putK (Ow ks) 0x28 (.bl true)=Ow (ks++[n]):=by
 have hf:(Ow ks).any (fun kv=>decide (kv.1=(Sum.inr n:Key)))=false:=by
  rw [A3R];intro kv hkv;obtain ⟨a,ha,rfl⟩:=A0m.mp hkv;simp only [A1J];exact fun z=>h (by injection z with z;rw [<- z];exact ha)
 unfold putK;rw [A0e (by rw [hf];exact A0o)];unfold Ow;rw [jP];rfl
theorem Ny.a0P {m:Rm}{q:Ad} (o:Ny q H H'):jK m q H H':=fun c u _ h1 h2 h3 h4 h5 hc=>o c u h1 h2 h3 h4 h5 hc
theorem Vp.keep {y:aM}{bG:Rw} (k:∀ c xs,H c=some 0x3E->H' c=some 0x3E) (f:Vp y t1 t2 H bG):Vp y t1 t2 H' bG:=by
 cases bG with
 | grant e n m a s=>exact k _ _ f
 | part e n m a=>exact ⟨k _ _ f.1,k _ _ f.2⟩
 | convey e m=>exact True.intro
 | eZ e=>exact True.intro
theorem a0Q:aQ ["realm", "row", "estate", "man"] A5I (aJ sWC):=0x0
theorem a2i (T:cW K C) (TK:TF K CK) (TR:jV K CR) (F:fK K "word_of_convey" "word_of_convey" sWC f fd)  (mS:mg "STANDS"=some (.str "stands" tS)) 
  (G1:aL P w K mg base bN 1 g1 d1 A5G (mQ C)) (m1:Meth K C "there" g1) (b1:Binds K d1 A5G [])
  (G2:aL P w K mg base bN 1 g2 d2 A5Z (zZ CK)) (m2:Meth K CK "is_dead" g2) (b2:Binds K d2 A5Z []) :
  aL P w K mg base bN 4 f fd A5I (lK CR CK C yt):=by
 refine F.ok a0Q 0x1 0x3;obtain ⟨m,q,es,ks,r,bG,dy,rfl,R,nd,hx,hk,k⟩:=h;have hr1:cP 1 _:=hr.mono 0x7;refine ⟨_,au (qZ (dY tQ 0x11 (cA aA) fj) (lq rfl (bM (bD (i:=2) a0Q.nd rfl 0x8) (bM (bD (i:=3) a0Q.nd rfl 0x8) gj))))
  (au (bQ (gO (dU (bW (CX:=bN) (E:=E0) 0xD T.cl m1 G1 hr1 b1 .nil aY 0x3D))) (aG (aZ aN)) aX)
  (au (bQ (dU (bW (CX:=bN) (E:=E0) 0xD TK.cl m2 G2 hr1 b2 .nil aY (aj (pv 3) aC))) (aG (aZ aN)) aX)
  (aG (aZ (cY rfl mS ⟨_,rfl⟩ (v:=.str "stands")))))),?_⟩
 cases bG with
 | grant e n mn a s=>cases hk
 | part e n mn a=>cases hk
 | eZ e=>cases hk
 | convey e mn =>
  have rN:gw (Rw.vs dy (.convey e mn)) (some 2) none=[.str e,.str mn]:=rfl;refine ⟨_,rfl,_,rfl,r,_,rfl,bR.of hx,fun p H1 ho=>?_⟩;rw [rN] at ho;obtain ⟨hp,s1⟩:=mO ho;refine ⟨p,_,rfl,hp,rfl,_,_,rfl,_,_,rfl,rfl,?_⟩;have R1:=R.same s1;clear ho hp rN;refine 0x58;refine ⟨q.x,q.dx,q.a1,q.a2,q.a3,q.a4,q.a5,_,_,_,_,_,_,rfl,R1.L,?_⟩;rw [gR];refine ⟨_,rfl,?_⟩
  by_cases he:e∈nms es
  rotate_left
  ·rw [A0s he];exact dB (k _ _ s1 (.no he))
  rw [A0j he];refine cu ?_;refine ⟨_,rfl,m.z,CR,m.dz,_,_,rfl,R1.o,TR.cl,TR.n2,rfl,m.k,m.dk,_,rfl,R1.K.o,rfl,_,rfl,m.k,m.dk,m.hh,m.gg,_,rfl,R1.K,_,rfl,cu ?_⟩;obtain ⟨y,hy,DP⟩:=dM he;exact k _ _ s1 (.st (y:=y) ⟨hy,DP⟩)
theorem scWS:aQ A5I A5I (aJ sWS):=0x0
theorem a2j (T:cW K C) (TR:jV K CR) (F:fK K "word_of_surrender" "word_of_surrender" sWS f fd)  (mS:mg "STANDS"=some (.str "stands" tS)) 
  (G1:aL P w K mg base bN 1 g1 d1 A5G (mQ C)) (m1:Meth K C "there" g1) (b1:Binds K d1 A5G []) :
  aL P w K mg base bN 4 f fd A5I (lK CR CK C yu):=by
 refine F.ok scWS 0x1 0x3;obtain ⟨m,q,es,ks,r,bG,dy,rfl,R,nd,hx,hk,k⟩:=h;have hr1:cP 1 _:=hr.mono 0x7;refine ⟨_,au (bQ (gO (dU (bW (CX:=bN) (E:=E0) 0xD T.cl m1 G1 hr1 b1 .nil aY (aj 0x19 aC)))) (aG (aZ aN)) aX)
  (aG (aZ (cY rfl mS ⟨_,rfl⟩ (v:=.str "stands")))),?_⟩
 cases bG with
 | grant e n mn a s=>cases hk
 | part e n mn a=>cases hk
 | convey e mn=>cases hk
 | eZ e =>
  refine ⟨_,rfl,m.z,CR,m.dz,_,_,rfl,R.o,TR.cl,TR.n1,rfl,q.x,q.dx,_,rfl,R.L.o,rfl,_,rfl,r,_,_,_,rfl,rfl,bR.of hx,aH (j:=2) rfl,?_⟩;refine ⟨q.x,q.dx,q.a1,q.a2,q.a3,q.a4,q.a5,_,_,_,_,_,_,rfl,R.L,?_⟩;rw [gR];refine ⟨_,rfl,?_⟩
  by_cases he:e∈nms es
  rotate_left
  ·rw [A0s he];exact dB (k _ _ (Same.refl _) (.no he))
  rw [A0j he];obtain ⟨y,hy,DP⟩:=dM he;exact cu (k _ _ (Same.refl _) (.st (y:=y) ⟨hy,DP⟩))
theorem TY (ks:List Str):(Ow ks).length=ks.length:=cg ..
theorem Kw {CR:Addr}{m:Rm}{q:Ad}{es:List aM}{y:aM}{bG:Rw}{n:Str} (R:gU CR CK C H1 m q es ks) (S:Sep m q) (s1:Same H H1) (hn:bG.new=some n)
  (hL:∀ b1 b2,Ln C q H2 0x21) (fN:Vp y t1 t2 H2 bG) (o:Ny q H1 H2) {Q:VK} (k:TQ CR CK C m q H es ks y bG Q):H2 m.u=some (.dK (Ow ks))/\H2 m.z=some (.ins CR m.dz (FRm q.x m.k m.u m.li m.de))/\Q .non (upd H2 m.u (.dK (Ow (ks++[n])))):=by
 have R2:∀ b1 b2,gU CR CK C H2 m q 0x21 ks:=fun b1 b2=>R.outL S o (hL b1 b2);refine ⟨(R2 0 0).U,(R2 0 0).o,k t1 t2 _ (fun b1 b2=>?_) (fN.keep fun c xs hc=>?_) fun c u hu h1 h2 h3 h4 h5 hc=>?_⟩
 ·have:stK ks bG=ks++[n]:=by
   cases bG with
   | grant e n' mn a s=>injection hn with hn;subst hn;rfl
   | part e n' mn a=>injection hn with hn;subst hn;rfl
   | convey e mn=>cases hn
   | eZ e=>cases hn
  rw [this];exact (R2 b1 b2).used S
 ·rw [ak (aK hc (R2 0 0).U 0x4)];exact hc
 ·rw [ak hu];exact o c u h1 h2 h3 h4 h5 (s1 c u hc)
theorem NQ:aQ ["realm", "row", "estate", "new", "man", "acres", "service"] A5I (aJ sDG):=0x0
def a0R:Rw->Bool
 | .grant ..=>true
 | _=>false
def a0S:Rw->Bool
 | .part ..=>true
 | _=>false
theorem a2k (T:cW K C) (TR:jV K CR) (F:fK K "do_grant" "do_grant" sDG f fd) 
  (G1:aL P w K mg base bN 4 g1 d1 A5Q (tV C)) (m1:Meth K C "grant" g1) (b1:Binds K d1 A5Q []) :
  aL P w K mg base bN 5 f fd A5I (j8 CR CK C a0R):=by
 refine F.ok NQ 0x1 0x3;obtain ⟨m,q,es,ks,ls,j,r,bG,y,dy,wd,rfl,R,S,PU,fr,hst,hok,hls,hj,hx,hk,k⟩:=h;refine ⟨_,au (qZ (dY tQ 0x11 (cA aA) fj) (lq rfl (bM (bD (i:=2) NQ.nd rfl 0x8) (bM (bD (i:=3) NQ.nd rfl 0x8) (bM (bD (i:=4) NQ.nd rfl 0x8) (bM (bD (i:=5) NQ.nd rfl 0x8) (bM (bD (i:=6) NQ.nd rfl 0x8) gj)))))))
  (au (bO (bW (CX:=bN) (E:=E0) 0xD T.cl m1 G1 hr b1 .nil aY (aj (pv 2) (aj (pv 3) (aj (pv 4) (aj (pv 5) (aj (pv 6) aC)))))))
  (aG (eO (u1 hr) 0xD (pv 3) Bv rfl))),?_⟩
 cases bG with
 | part e n mn a=>cases hk
 | convey e mn=>cases hk
 | eZ e=>cases hk
 | grant e n mn a s =>
  have rN:gw (Rw.vs dy (.grant e n mn a s)) (some 2) none=[.str e,.str n,.str mn,.int a,.int s]:=rfl;refine ⟨_,rfl,_,rfl,r,_,rfl,bR.of hx,fun p H1 ho=>?_⟩;rw [rN] at ho;obtain ⟨hp,s1⟩:=mO ho;refine ⟨p,_,rfl,hp,rfl,_,_,rfl,_,_,rfl,_,_,rfl,_,_,rfl,_,_,rfl,rfl,?_⟩;have R1:=R.same s1;clear ho hp rN;refine ⟨_,rfl,m.z,CR,m.dz,_,_,rfl,R1.o,TR.cl,TR.n1,rfl,q.x,q.dx,_,rfl,R1.L.o,rfl,_,rfl,_,rfl,_,rfl,_,rfl,_,rfl,?_⟩;dsimp only [oK,List.cons_append,List.nil_append];refine Tq (E:=E0) PU R1.L S.a5 (fun e he=>s1 _ _ (fr e he)) hst hok hls hj fun t1 t2 H2 hL fN o=>?_;obtain ⟨hu,hz,fin⟩:=Kw (n:=n) R1 S s1 rfl hL fN o k;have hn:n∉ks:=hst.2.2.1;refine ⟨_,rfl,m.z,CR,m.dz,_,_,rfl,hz,TR.cl,TR.n3,rfl,_,rfl,m.u,_,rfl,iR.k (k:=.inr n) hu (bU (by rw [TY];have:=PU.lk;lia)),?_⟩;rw [TX hn];exact fin
theorem U0:aQ ["realm", "row", "estate", "new", "man", "acres"] A5I (aJ sDP):=0x0
theorem a2l (T:cW K C) (TR:jV K CR) (F:fK K "do_part" "do_part" sDP f fd) 
  (G1:aL P w K mg base bN 4 g1 d1 A6b (oE C)) (m1:Meth K C "part_off" g1) (b1:Binds K d1 A6b []) :
  aL P w K mg base bN 5 f fd A5I (j8 CR CK C a0S):=by
 refine F.ok U0 0x1 0x3;obtain ⟨m,q,es,ks,ls,j,r,bG,y,dy,wd,rfl,R,S,PU,fr,hst,hok,hls,hj,hx,hk,k⟩:=h;refine ⟨_,au (qZ (dY tQ 0x11 (cA aA) fj) (lq rfl (bM (bD (i:=2) U0.nd rfl 0x8) (bM (bD (i:=3) U0.nd rfl 0x8) (bM (bD (i:=4) U0.nd rfl 0x8) (bM (bD (i:=5) U0.nd rfl 0x8) gj))))))
  (au (bO (bW (CX:=bN) (E:=E0) 0xD T.cl m1 G1 hr b1 .nil aY (aj (pv 2) (aj (pv 3) (aj (pv 4) (aj (pv 5) aC))))))
  (aG (eO (u1 hr) 0xD (pv 3) Bv rfl))),?_⟩
 cases bG with
 | grant e n mn a s=>cases hk
 | convey e mn=>cases hk
 | eZ e=>cases hk
 | part e n mn a =>
  have rN:gw (Rw.vs dy (.part e n mn a)) (some 2) none=[.str e,.str n,.str mn,.int a]:=rfl;refine ⟨_,rfl,_,rfl,r,_,rfl,bR.of hx,fun p H1 ho=>?_⟩;rw [rN] at ho;obtain ⟨hp,s1⟩:=mO ho;refine ⟨p,_,rfl,hp,rfl,_,_,rfl,_,_,rfl,_,_,rfl,_,_,rfl,rfl,?_⟩;have R1:=R.same s1;clear ho hp rN;refine ⟨_,rfl,m.z,CR,m.dz,_,_,rfl,R1.o,TR.cl,TR.n1,rfl,q.x,q.dx,_,rfl,R1.L.o,rfl,_,rfl,_,rfl,_,rfl,_,rfl,?_⟩;dsimp only [oK,List.cons_append,List.nil_append];refine X3 (E:=E0) PU R1.L S.a5 (fun e he=>s1 _ _ (fr e he)) hst hok hls hj fun t1 t2 H2 hL fN o=>?_;obtain ⟨hu,hz,fin⟩:=Kw (n:=n) R1 S s1 rfl hL fN o k;have hn:n∉ks:=hst.2.2.1;refine ⟨_,rfl,m.z,CR,m.dz,_,_,rfl,hz,TR.cl,TR.n3,rfl,_,rfl,m.u,_,rfl,iR.k (k:=.inr n) hu (bU (by rw [TY];have:=PU.lk;lia)),?_⟩;rw [TX hn];exact fin
theorem Ky {m:Rm}{q:Ad}{es:List aM}{y:aM}{bG:Rw} (R:gU CR CK C H m q es ks) (S:Sep m q) (hn:bG.new=none)
  (hL:∀ b1 b2,Ln C q H2 0x21) (fN:Vp y t1 t2 H2 bG) (o:Ny q H H2) {Q:VK} (k:TQ CR CK C m q H es ks y bG Q):Q .non H2:=by
 refine k t1 t2 _ (fun b1 b2=>?_) fN o.a0P;have:stK ks bG=ks:=by
  cases bG with
  | grant e n' mn a s=>cases hn
  | part e n' mn a=>cases hn
  | convey e mn=>rfl
  | eZ e=>rfl
 rw [this];exact R.outL S o (hL b1 b2)
theorem scDC:aQ A5I A5I (aJ sDC):=0x0
theorem a2m (T:cW K C) (TR:jV K CR) (F:fK K "do_convey" "do_convey" sDC f fd) 
  (G1:aL P w K mg base bN 4 g1 d1 ["self", "estate", "man"] (qw C)) (m1:Meth K C "convey" g1) (b1:Binds K d1 ["self", "estate", "man"] []) :
  aL P w K mg base bN 5 f fd A5I (j8 CR CK C yt):=by
 refine F.ok scDC 0x1 0x3;obtain ⟨m,q,es,ks,ls,j,r,bG,y,dy,wd,rfl,R,S,PU,fr,hst,hok,hls,hj,hx,hk,k⟩:=h;refine ⟨_,aG (bO (bW (CX:=bN) (E:=E0) 0xD T.cl m1 G1 hr b1 .nil aY (aj 0x19 (aj 0x19 aC)))),?_⟩;cases bG with
 | grant e n mn a s=>cases hk
 | part e n mn a=>cases hk
 | eZ e=>cases hk
 | convey e mn =>
  refine ⟨_,rfl,m.z,CR,m.dz,_,_,rfl,R.o,TR.cl,TR.n1,rfl,q.x,q.dx,_,rfl,R.L.o,rfl,_,rfl,r,_,_,_,rfl,rfl,bR.of hx,aH (j:=2) rfl,_,rfl,r,_,_,_,rfl,rfl,bR.of hx,aH (j:=3) rfl,?_⟩;exact NK (E:=E0) PU R.L S.a5 fr hst hok hls hj fun t1 t2 H2 hL fN o=>Ky R S rfl hL fN o k
theorem scDS:aQ A5I A5I (aJ sDS):=0x0
theorem a2n (T:cW K C) (TR:jV K CR) (F:fK K "do_surrender" "do_surrender" sDS f fd) 
  (G1:aL P w K mg base bN 4 g1 d1 A5G (zp C)) (m1:Meth K C "fall_back" g1) (b1:Binds K d1 A5G []) :
  aL P w K mg base bN 5 f fd A5I (j8 CR CK C yu):=by
 refine F.ok scDS 0x1 0x3;obtain ⟨m,q,es,ks,ls,j,r,bG,y,dy,wd,rfl,R,S,PU,fr,hst,hok,hls,hj,hx,hk,k⟩:=h;refine ⟨_,aG (bO (bW (CX:=bN) (E:=E0) 0xD T.cl m1 G1 hr b1 .nil aY (aj 0x19 aC))),?_⟩;cases bG with
 | grant e n mn a s=>cases hk
 | part e n mn a=>cases hk
 | convey e mn=>cases hk
 | eZ e =>
  refine ⟨_,rfl,m.z,CR,m.dz,_,_,rfl,R.o,TR.cl,TR.n1,rfl,q.x,q.dx,_,rfl,R.L.o,rfl,_,rfl,r,_,_,_,rfl,rfl,bR.of hx,aH (j:=2) rfl,?_⟩;exact X4 (E:=E0) PU R.L S.a5 fr hst hok hls hj fun t1 t2 H2 hL fN o=>Ky R S rfl hL fN o k
inductive Jd (es:List aM) (ks:List Str) (bG:Rw):Str->List aM->List Str->Prop
 | void {w:Str}:w≠"stands"->Wd es ks bG w->Jd es ks bG w es ks
 | does {y:aM} (t1 t2 b1 b2:Addr):dZ es ks y bG->Jd es ks bG "stands" 0x21 (stK ks bG)
theorem Wd.stands {es:List aM}{bG:Rw}{w:Str} (h:Wd es ks bG w) (e:w="stands"):∃ y,dZ es ks y bG:=by
 cases h with
 | no _=>exact absurd e 0x6
 | tk _ _ _=>exact absurd e 0x6
 | ac _ _ _ _ _=>exact absurd e 0x6
 | st h=>exact ⟨_,h⟩
theorem Jd.pu {es es':List aM}{bG:Rw}{w:Str} (h:Jd es ks bG w es' ks') (R:Pu es ks ls j wd) (hok:bG.Ok ls) (hls:∀ n∈ls,n≠""/\PyData.strOk n=true):Pu es' ks' ls (j+1) wd:=by
 cases h with
 | void _ _=>exact R.up 0x2
 | does t1 t2 b1 b2 h=>exact R.step h hok hls
theorem jK.refl {m:Rm}{q:Ad} (s:Same H H'):jK m q H H':=fun c u _ _ _ _ _ _ hc=>s c u hc
theorem jK.pre {m:Rm}{q:Ad} (s:Same H H1) (o:jK m q H1 H'):jK m q H H':=fun c u h0 h1 h2 h3 h4 h5 hc=>o c u h0 h1 h2 h3 h4 h5 (s c u hc)
theorem jK.tup {CR:Addr}{m:Rm}{q:Ad}{es:List aM} (R:gU CR CK C H m q es ks) (o:jK m q H H')  (h:H c=some 0x3E):H' c=some 0x3E :=
 o c _ (aK h R.U 0x4) (aK h R.L.l1 0x4) (aK h R.L.l2 0x4) (aK h R.L.l3 0x4) (aK h R.L.l4 0x4) (aK h R.L.l5 0x4) h
inductive Aa (CR CK C:Addr) (vs:List V) (H:Hp) (Q:VK) (cD:XK):Prop
 | mk (m:Rm) (q:Ad) (es:List aM) (ks ls:List Str) (j:Nat) (r:Addr) (bG:Rw) (dy wd:Int) (_:vs=[.ref m.z,.ref r]) (_:gU CR CK C H m q es ks) (_:Sep m q) (_:Pu es ks ls j wd) (_:(∀ e∈es,jy H e.ta e.due.1 e.due.2)) (_:Rw.Ok ls bG) (_:(∀ n∈ls,n≠""/\PyData.strOk n=true)) (_:j<=60) (_:H r=some (.tup (Rw.vs dy bG))) (_:∀ w es' ks' H',Jd es ks bG w es' ks'->gU CR CK C H' m q es' ks'->(∀ e∈es',jy H' e.ta e.due.1 e.due.2)->jK m q H H'->Q (.str w) H'):Aa CR CK C vs H Q cD
def SPw (CR CK C fN fC fS:Addr) (f:Addr) (sp:Sp):Prop:=(f=fN/\sp=lK CR CK C isNew)\/(f=fC/\sp=lK CR CK C yt)\/(f=fS/\sp=lK CR CK C yu)
def SPd (CR CK C fG fP fC fS:Addr) (f:Addr) (sp:Sp):Prop:=(f=fG/\sp=j8 CR CK C a0R)\/(f=fP/\sp=j8 CR CK C a0S)\/(f=fC/\sp=j8 CR CK C yt)\/(f=fS/\sp=j8 CR CK C yu)
theorem qI {h l:Str}{A:Prop} (h1:h=l->A) (h2:h≠l->B):if decide (V.str h=V.str l)=true then A else B:=by
 refine iQ (fun c=>h1 ?_) fun c=>h2 fun z=>c (A0j (by rw [z]));have:=sS c;injection this
theorem uf:aQ ["realm", "row", "asked", "word", "deed"] A5I (aJ vJ):=0x0
structure Tabs (K:PySem.W.Frag) (P:Params) (mg:Str->Option Value) (wN wC wS dG dP dC dS:Addr):Prop where
 words:∃ a l h g,mg "WORDS"=some (.ref a)/\KD K P a [("heir",.ref h),("grant",.ref wN),("part",.ref wN),("convey",.ref wC),("liege",.ref l),("surrender",.ref wS),("death",.ref g)]
 a2o:∃ a h l g,mg "DEEDS"=some (.ref a)/\KD K P a [("heir",.ref h),("grant",.ref dG),("part",.ref dP),("convey",.ref dC),("liege",.ref l),("surrender",.ref dS),("death",.ref g)]
theorem U3 {f0:Addr} (F:fK K "judge" "judge" vJ f0 fd)  (mS:mg "STANDS"=some (.str "stands" tS)) {h1 h2 h3 h4:Addr}{e1 e2 e3 e4:FuncData} (TB:Tabs K w.params mg g1 g2 g3 h1 h2 h3 h4)
  (G1:aL P w K mg base bN 4 g1 d1 A5I (lK CR CK C isNew)) (M1:Ms K mg "word_of_new" g1 d1 A5I)
  (G2:aL P w K mg base bN 4 g2 d2 A5I (lK CR CK C yt)) (M2:Ms K mg "word_of_convey" g2 d2 A5I)
  (G3:aL P w K mg base bN 4 g3 d3 A5I (lK CR CK C yu)) (M3:Ms K mg "word_of_surrender" g3 d3 A5I)
  (D1:aL P w K mg base bN 5 h1 e1 A5I (j8 CR CK C a0R)) (N1:Ms K mg "do_grant" h1 e1 A5I)
  (D2:aL P w K mg base bN 5 h2 e2 A5I (j8 CR CK C a0S)) (N2:Ms K mg "do_part" h2 e2 A5I)
  (D3:aL P w K mg base bN 5 h3 e3 A5I (j8 CR CK C yt)) (N3:Ms K mg "do_convey" h3 e3 A5I)
  (D4:aL P w K mg base bN 5 h4 e4 A5I (j8 CR CK C yu)) (N4:Ms K mg "do_surrender" h4 e4 A5I) :
  aL P w K mg base bN 6 f0 fd A5I (Aa CR CK C):=by
 obtain ⟨aW,wl,wh,wg,mW,kW⟩:=TB.words;obtain ⟨aD,dh,dl,dg,mD,kD⟩:=TB.a2o;refine F.ok uf 0x1 0x3;obtain ⟨m,q,es,ks,ls,j,r,bG,dy,wd,rfl,R,S,PU,fr,hok,hls,hj,hx,k⟩:=h;have Ro:cP 4 _:=hr.mono 0x7;have hS1:∀ f sp,SPw CR CK C g1 g2 g3 f sp->∃ (k:Nat) (fd:FuncData) (ps:List Str),aL P w K mg base bN k f fd ps sp/\cP k (A.deeper (envOfC "judge" (aJ vJ) s.heap.objs.size f0 cdv))/\PySem.W.keepIn K (.ref f)=true/\L2.Binds K fd ps []:=by
  rintro f sp (⟨rfl,rfl⟩ | ⟨rfl,rfl⟩ | ⟨rfl,rfl⟩)
  ·exact ⟨4,d1,_,G1,Ro,M1.k,M1.b⟩
  ·exact ⟨4,d2,_,G2,Ro,M2.k,M2.b⟩
  ·exact ⟨4,d3,_,G3,Ro,M3.k,M3.b⟩
 have hS2:∀ f sp,SPd CR CK C h1 h2 h3 h4 f sp->∃ (k:Nat) (fd:FuncData) (ps:List Str),aL P w K mg base bN k f fd ps sp/\cP k (A.deeper (envOfC "judge" (aJ vJ) s.heap.objs.size f0 cdv))/\PySem.W.keepIn K (.ref f)=true/\L2.Binds K fd ps []:=by
  rintro f sp (⟨rfl,rfl⟩ | ⟨rfl,rfl⟩ | ⟨rfl,rfl⟩ | ⟨rfl,rfl⟩)
  ·exact ⟨5,e1,_,D1,hr,N1.k,N1.b⟩
  ·exact ⟨5,e2,_,D2,hr,N2.k,N2.b⟩
  ·exact ⟨5,e3,_,D3,hr,N3.k,N3.b⟩
  ·exact ⟨5,e4,_,D4,hr,N4.k,N4.b⟩
 refine ⟨_,au (aU (i:=2) uf.nd rfl 0x8 (aO JF (cY rfl mW rfl (v:=.ref aW)) 0x19 0x5))
  (au (aU (i:=3) uf.nd rfl 0x8 (DY (CX:=bN) (E:=E0) (pv 2) hS1 aY (aj 0x3A 0x33)))
  (au (bQ (aV dO (pv 3) (cY rfl mS ⟨_,rfl⟩ (v:=.str "stands")) (bH _))
   (au (aU (i:=4) uf.nd rfl 0x8 (aO JF (cY rfl mD rfl (v:=.ref aD)) 0x19 0x5))
   (aG (bO (DY (CX:=bN) (E:=E0) (pv 4) hS2 aY (aj 0x3A 0x33))))) aX)
  (aG (aZ (pv 3))))),?_⟩
 have X8:∀ y t1 t2 H1 H2,Same H H1->dZ es ks y bG->(∀ b1 b2,gU CR CK C H2 m q 0x21 (stK ks bG))->Vp y t1 t2 H2 bG->jK m q H1 H2->Q (.str "stands") H2:=fun y t1 t2 H1 H2 s1 hst hR fN o =>
  k _ _ _ H2 (.does t1 t2 0 0 hst) (hR 0 0) (DW (u1:=t1) (u2:=t2) (·.ta) PU.W.nd hst (fun e he=>o.tup (R.same s1) (s1 _ _ (fr e he))) fN 0x5 0x5 0x5 (fun _ _ _ _=>rfl) (fun _ _ _ _ _=>rfl) fun _ _ _ _=>rfl) (o.pre s1)
 have fin2:∀ (w1:Str) H1,Same H H1->w1≠"stands"->Wd es ks bG w1->Q (.str w1) H1:=fun w1 H1 s1 ne hw=>k w1 es ks H1 (.void ne hw) (R.same s1) (fun e he=>s1 _ _ (fr e he)) (.refl s1);cases bG with
 | grant e n mn a s =>
  refine 0x38;refine ⟨_,rfl,g1,_,rfl,.inl ⟨rfl,rfl⟩,_,rfl,_,rfl,m,q,es,ks,r,_,dy,rfl,R,PU.W.nd,hx,rfl,fun w1 H1 s1 hw=>?_⟩;refine 0x37;obtain ⟨y,hst⟩:=hw.stands e;subst e;refine 0x2F;exact ⟨_,rfl,h1,_,rfl,.inl ⟨rfl,rfl⟩,_,rfl,_,rfl,m,q,es,ks,ls,j,r,_,y,dy,wd,rfl,R.same s1,S,PU,fun e he=>s1 _ _ (fr e he),hst,hok,hls,hj,s1 _ _ hx,rfl,fun t1 t2 H2 hR fN o=>⟨_,rfl,X8 y t1 t2 H1 H2 s1 hst hR fN o⟩⟩
 | part e n mn a =>
  refine 0x38;refine ⟨_,rfl,g1,_,rfl,.inl ⟨rfl,rfl⟩,_,rfl,_,rfl,m,q,es,ks,r,_,dy,rfl,R,PU.W.nd,hx,rfl,fun w1 H1 s1 hw=>?_⟩;refine 0x37;obtain ⟨y,hst⟩:=hw.stands e;subst e;refine 0x2F;exact ⟨_,rfl,h2,_,rfl,.inr (.inl ⟨rfl,rfl⟩),_,rfl,_,rfl,m,q,es,ks,ls,j,r,_,y,dy,wd,rfl,R.same s1,S,PU,fun e he=>s1 _ _ (fr e he),hst,hok,hls,hj,s1 _ _ hx,rfl,fun t1 t2 H2 hR fN o=>⟨_,rfl,X8 y t1 t2 H1 H2 s1 hst hR fN o⟩⟩
 | convey e mn =>
  refine 0x38;refine ⟨_,rfl,g2,_,rfl,.inr (.inl ⟨rfl,rfl⟩),_,rfl,_,rfl,m,q,es,ks,r,_,dy,rfl,R,PU.W.nd,hx,rfl,fun w1 H1 s1 hw=>?_⟩;refine 0x37;obtain ⟨y,hst⟩:=hw.stands e;subst e;refine 0x2F;exact ⟨_,rfl,h3,_,rfl,.inr (.inr (.inl ⟨rfl,rfl⟩)),_,rfl,_,rfl,m,q,es,ks,ls,j,r,_,y,dy,wd,rfl,R.same s1,S,PU,fun e he=>s1 _ _ (fr e he),hst,hok,hls,hj,s1 _ _ hx,rfl,fun t1 t2 H2 hR fN o=>⟨_,rfl,X8 y t1 t2 H1 H2 s1 hst hR fN o⟩⟩
 | eZ e =>
  refine 0x38;refine ⟨_,rfl,g3,_,rfl,.inr (.inr ⟨rfl,rfl⟩),_,rfl,_,rfl,m,q,es,ks,r,_,dy,rfl,R,PU.W.nd,hx,rfl,fun w1 H1 s1 hw=>?_⟩;refine 0x37;obtain ⟨y,hst⟩:=hw.stands e;subst e;refine 0x2F;exact ⟨_,rfl,h4,_,rfl,.inr (.inr (.inr ⟨rfl,rfl⟩)),_,rfl,_,rfl,m,q,es,ks,ls,j,r,_,y,dy,wd,rfl,R.same s1,S,PU,fun e he=>s1 _ _ (fr e he),hst,hok,hls,hj,s1 _ _ hx,rfl,fun t1 t2 H2 hR fN o=>⟨_,rfl,X8 y t1 t2 H1 H2 s1 hst hR fN o⟩⟩
inductive Hv (CK:Addr) (vs:List V) (H:Hp) (Q:VK) (cD:XK):Prop
 | mk (k dk:Addr) (_:vs=[.ref k]) (_:H k=some (.ins CK dk [])) (_:∀ hh gg H',(∀ c o,c≠k->H c=some o->H' c=some o)->vK CK H' k dk hh gg->H hh=none->H gg=none->hh≠gg->Q .non H'):Hv CK vs H Q cD
def Ac (n:Int) (t:Addr):aM:=⟨"",none, "",n,n,(0,1),t,0⟩
def adL (x dx a1 a2 a3 a4 a5:Addr) (n:Int):Ad:=⟨x,dx,a1,a2,a3,a4,a5,0,0,0,0,0,0,0,[],n⟩
structure a2p (H:Hp) (m:Rm) (q:Ad):Prop where
 x:H q.x=none
 a1:H q.a1=none
 a2:H q.a2=none
 a3:H q.a3=none
 a4:H q.a4=none
 a5:H q.a5=none
 k:H m.k=none
 u:H m.u=none
inductive vL (CR CK C:Addr) (vs:List V) (H:Hp) (Q:VK) (cD:XK):Prop
 | mk (z dz:Addr) (n:Int) (_:vs=[.ref z,.int n]) (_:H z=some (.ins CR dz [])) (_:1<=n) (_:n<=9999) (_:∀ (m:Rm) (q:Ad) (t:Addr) (H':Hp),m.z=z->m.dz=dz->q.wd=n->(∀ c o,c≠z->H c=some o->H' c=some o)->gU CR CK C H' m q [Ac n t] []->Sep m q->a2p H m q->jy H' t 0 1->Q .non H'):vL CR CK C vs H Q cD
theorem Fe {x:Addr}{o1 o2:HO} (h:(upd (upd H dx o1) x o2) c=none):H c=none:=by
 by_cases h1:c=x
 ·rw [h1,ao] at h;cases h
 by_cases h2:c=dx
 ·rw [ak h1,h2,ao] at h;cases h
 rw [ak h1,ak h2] at h;exact h
theorem back {z:Addr}{u:HO} (s:∀ c o,c≠z->H c=some o->H1 c=some o) (hz:H1 z=some u)  (h:H1 c=none):H c=none:=by
 cases hq:H c with
 | none=>rfl
 | some o =>
  by_cases e:c=z
  ·rw [e,hz] at h;cases h
  ·rw [s c o e hq] at h;cases h
theorem a0T:aQ A5S A5S (aJ Tz):=0x0
theorem Xa (T:TF K CK) (F:fK K "__init__" "Kin.__init__" Tz f fd):aL P w K mg base bN 1 f fd A5S (Hv CK):=by
 refine F.ok a0T 0x1 0x3;obtain ⟨k,dk,rfl,hk,q⟩:=h;refine ⟨_,au (dX 0x3A jm rfl) (aG (dX 0x3A jm rfl)),?_⟩;intro hh e1;have n1:k≠hh:=aq hk e1;refine ⟨_,rfl,k,CK,dk,_,rfl,by rw [ak n1];exact hk,T.cl,T.n1,A0u rfl,?_⟩;generalize hH1:upd _ k _=H1;have x1:H1 k=some (.ins CK dk [("heir_of",.ref hh)]):=by rw [<- hH1,ao];rfl
 have p1:H1 hh=some (.dK []):=by rw [<- hH1,ak (A0k n1),ao]
 have f1:∀ c o,c≠k->H c=some o->H1 c=some o:=fun c o hc ho=>by rw [<- hH1,ak hc,ak (aq ho e1)];exact ho
 have b1:∀ c,H1 c=none->H c=none:=fun c hc=>by
  cases hq:H c with
  | none=>rfl
  | some o =>
   by_cases z:c=k
   ·rw [z,x1] at hc;cases hc
   ·rw [f1 c o z hq] at hc;cases hc
 clear hH1;intro gg e2;have n2:k≠gg:=aq x1 e2;have n3:hh≠gg:=aq p1 e2;refine ⟨_,rfl,k,CK,dk,_,rfl,by rw [ak n2];exact x1,T.cl,T.n2,A0u rfl,?_⟩;refine q hh gg _ (fun c o hc ho=>?_) ⟨by rw [ao];rfl,by rw [ak (A0k n1),ak n3];exact p1,by rw [ak (A0k n2),ao]⟩ e1 (b1 _ e2) n3;rw [ak hc,ak (aq (f1 c o hc ho) e2)];exact f1 c o hc ho
theorem U4:aQ A5W A5W (aJ zY):=0x0
theorem NT (T:cW K C) (TR:jV K CR) (F:fK K "__init__" "Realm.__init__" zY f fd) 
  (G1:aL P w K mg base bN 3 g1 d1 A5W (zB C)) (MK1:Mk K C g1) (mL:mg "Land"=some (.ref C)) (b1:Binds K d1 A5W [])
  (G2:aL P w K mg base bN 1 g2 d2 A5S (Hv CK)) (MK2:Mk K CK g2) (mK:mg "Kin"=some (.ref CK)) (b2:Binds K d2 A5S []) :
  aL P w K mg base bN 5 f fd A5W (vL CR CK C):=by
 refine F.ok U4 0x1 0x3;obtain ⟨z,dz,n,rfl,hz,n1,n2,q⟩:=h;have Ro:cP 4 _:=hr.mono 0x7;have hr2:cP 2 _:=hr.mono 0x7;refine ⟨_,au (dX 0x3A (tM (CX:=bN) (E:=E0) MK1 G1 Ro rfl mL b1 .nil aY 0x33) rfl)
  (au (dX 0x3A (Q6 (CX:=bN) (E:=E0) MK2 G2 hr2 rfl mK b2 .nil aY) rfl)
  (au (dX 0x3A jm rfl) (au (dX 0x3A jm rfl) (aG (dX 0x3A jm rfl))))),?_⟩
 refine ⟨_,rfl,fun x dx hx0 hdx0 hne=>?_⟩;refine ⟨x,dx,n,rfl,ao,n1,n2,fun a1 a2 a3 a4 a5 t H0 kx LA ap e1 e2 e3 e4 e5 et fr=>⟨rfl,?_⟩⟩;have s0:Same H H0:=fun c o hc=>kx c o (aq hc hx0) (by rw [ak (aq hc hx0),ak (aq hc hdx0)];exact hc);have nz:∀ {c:Addr},H c=none->c≠z:=fun h e=>by rw [e,hz] at h;cases h
 replace e1:=Fe e1
 replace e2:=Fe e2
 replace e3:=Fe e3
 replace e4:=Fe e4
 replace e5:=Fe e5
 replace et:=Fe et
 clear kx;refine ⟨_,rfl,z,CR,dz,_,rfl,s0 _ _ hz,TR.cl,TR.n1,A0u rfl,?_⟩;generalize hH1:upd _ z _=H1;have z1:H1 z=some (.ins CR dz [("ground",.ref x)]):=by rw [<- hH1,ao];rfl
 have o1:∀ c o,c≠z->H0 c=some o->H1 c=some o:=fun c o h1 h2=>by rw [<- hH1,ak h1];exact h2
 have L1:bZ C H1 x dx a1 a2 a3 a4 a5 _ _ _ _ _:=⟨o1 _ _ (nz hx0) LA.o,o1 _ _ (nz e1) LA.l1,o1 _ _ (nz e2) LA.l2,o1 _ _ (nz e3) LA.l3,o1 _ _ (nz e4) LA.l4,o1 _ _ (nz e5) LA.l5⟩;have t1:jy H1 t 0 1:=o1 _ _ (nz et) fr;have s1:∀ c o,c≠z->H c=some o->H1 c=some o:=fun c o h1 h2=>o1 c o h1 (s0 c o h2);clear hH1 o1 LA fr s0;refine fun k dk hk0 hdk0 hnk=>⟨k,dk,rfl,ao,fun hh gg H2 kx2 KA eh eg nhg=>⟨rfl,?_⟩⟩;have s2:Same H1 H2:=fun c o hc=>kx2 c o (aq hc hk0) (by rw [ak (aq hc hk0),ak (aq hc hdk0)];exact hc)
 replace eh:=Fe eh
 replace eg:=Fe eg
 clear kx2;have nz2:∀ {c:Addr},H1 c=none->c≠z:=fun h e=>by rw [e,z1] at h;cases h
 refine ⟨_,rfl,z,CR,dz,_,rfl,s2 _ _ z1,TR.cl,TR.n2,A0u rfl,?_⟩;generalize Ou:upd _ z _=H3;have z3:H3 z=some (.ins CR dz [("ground",.ref x),("kin",.ref k)]):=by rw [<- Ou,ao];rfl
 have o3:∀ c o,c≠z->H2 c=some o->H3 c=some o:=fun c o h1 h2=>by rw [<- Ou,ak h1];exact h2
 have s3:∀ c o,c≠z->H1 c=some o->H3 c=some o:=fun c o h1 h2=>o3 c o h1 (s2 c o h2);have K3:vK CK H3 k dk hh gg:=⟨o3 _ _ (nz2 hk0) KA.o,o3 _ _ (nz2 eh) KA.h,o3 _ _ (nz2 eg) KA.g⟩;clear Ou o3 KA;intro u eu;have wu:z≠u:=aq z3 eu;refine ⟨_,rfl,z,CR,dz,_,rfl,by rw [ak wu];exact z3,TR.cl,TR.n3,A0u rfl,?_⟩;generalize xW:upd _ z _=H4;have z4:H4 z=some (.ins CR dz [("ground",.ref x),("kin",.ref k),("used",.ref u)]):=by rw [<- xW,ao];rfl
 have s4:∀ c o,c≠z->H3 c=some o->H4 c=some o:=fun c o h1 h2=>by rw [<- xW,ak h1,ak (aq h2 eu)];exact h2
 have u4:H4 u=some (.dK []):=by rw [<- xW,ak (A0k wu),ao]
 clear xW;intro li eli;have wli:z≠li:=aq z4 eli;refine ⟨_,rfl,z,CR,dz,_,rfl,by rw [ak wli];exact z4,TR.cl,TR.n4,A0u rfl,?_⟩;generalize YF:upd _ z _=H5;have z5:H5 z=some (.ins CR dz [("ground",.ref x),("kin",.ref k),("used",.ref u),("lieges",.ref li)]):=by rw [<- YF,ao];rfl
 have s5:∀ c o,c≠z->H4 c=some o->H5 c=some o:=fun c o h1 h2=>by rw [<- YF,ak h1,ak (aq h2 eli)];exact h2
 clear YF;intro de ede;have wde:z≠de:=aq z5 ede;refine ⟨_,rfl,z,CR,dz,_,rfl,by rw [ak wde];exact z5,TR.cl,TR.n5,A0u rfl,?_⟩;generalize YL:upd _ z _=H6;have z6:H6 z=some (.ins CR dz [("ground",.ref x),("kin",.ref k),("used",.ref u),("lieges",.ref li),("deaths",.ref de)]):=by rw [<- YL,ao];rfl
 have s6:∀ c o,c≠z->H5 c=some o->H6 c=some o:=fun c o h1 h2=>by rw [<- YL,ak h1,ak (aq h2 ede)];exact h2
 clear YL;have YM:∀ c o,c≠z->H1 c=some o->H6 c=some o:=fun c o h1 h2=>s6 c o h1 (s5 c o h1 (s4 c o h1 (s3 c o h1 h2)));have s36:∀ c o,c≠z->H3 c=some o->H6 c=some o:=fun c o h1 h2=>s6 c o h1 (s5 c o h1 (s4 c o h1 h2));have l3:∀ {c:Addr}{o:HO},H c=none->H1 c=some o->u≠c:=fun h1 h2=>(aq (s3 _ _ (nz h1) h2) eu).symm;have l1:∀ {c d:Addr}{o:HO},H1 c=none->H1 d=some o->c≠d:=fun h1 h2=>(aq h2 h1).symm;refine q ⟨z,dz,k,dk,hh,gg,u,li,de⟩ (adL x dx a1 a2 a3 a4 a5 n) t H6 rfl rfl rfl (fun c o h1 h2=>YM c o h1 (s1 c o h1 h2)) ⟨z6,⟨s36 _ _ (nz2 hk0) K3.o,s36 _ _ (nz2 eh) K3.h,s36 _ _ (nz2 eg) K3.g⟩,s6 _ _ (A0k wu) (s5 _ _ (A0k wu) u4),
  ⟨YM _ _ (nz hx0) L1.o,YM _ _ (nz e1) L1.l1,YM _ _ (nz e2) L1.l2,YM _ _ (nz e3) L1.l3,YM _ _ (nz e4) L1.l4,YM _ _ (nz e5) L1.l5⟩⟩
  ⟨ap,⟨l3 e1 L1.l1,l3 e2 L1.l2,l3 e3 L1.l3,l3 e4 L1.l4,l3 e5 L1.l5⟩,⟨l1 eh L1.l1,l1 eh L1.l2,l1 eh L1.l3,l1 eh L1.l4,l1 eh L1.l5⟩,⟨l1 eg L1.l1,l1 eg L1.l2,l1 eg L1.l3,l1 eg L1.l4,l1 eg L1.l5⟩,aq K3.h eu,aq K3.g eu⟩
  ⟨hx0,e1,e2,e3,e4,e5,back s1 z1 hk0,back s1 z1 (back s3 z3 eu)⟩ (YM _ _ (nz et) t1)
end
end M
namespace L2
open PySem PySem.Spec PyProof.Rows PySem.W
theorem Kz {M:Model}{body:Value->PUnit->Sem (ForInStep PUnit)} (J:List Value->Shared->Prop) (hb:∀ x r s,J (x::r) s->wpAny M A (body x ⟨⟩) (fun q s'=>q=.yield ⟨⟩/\J r s') E s) :
  ∀ (r:List Value) (s:Shared),J r s->wpAny M A (forIn r PUnit.unit body) (fun _ s'=>J [] s') E s
 | [],s,h=>by rw [List.forIn_nil];exact A0d h
 | x::r,s,h=>by
  rw [A4o];refine A0a (A1d (hb x r s h) (fun q s' hq=>?_) fun _ _ x=>x);obtain ⟨rfl,h2⟩:=hq
  show wpAny M A (forIn r PUnit.unit body) _ E s'
  exact Kz J hb r s' h2
def pL (H:Hp) (kd:Addr->List V) (ks ps:List Addr):Prop:=ks.length=ps.length/\∀ (i:Nat) (q p:Addr),ks[i]?=some q->ps[i]?=some p->H q=some (.tup (kd p))
theorem pL.snoc {kd:Addr->List V}{ks ps:List Addr} (h:pL H kd ks ps) (s:Same H H') (hq:H' q=some (.tup (kd p))):pL H' kd (ks++[q]) (ps++[p]):=by
 refine ⟨by rw [iT,iT,h.1];rfl,fun i a b ha hb=>?_⟩
 by_cases hi:i<ks.length
 ·rw [A1l hi] at ha;rw [A1l (by rw [<- h.1];exact hi)] at hb;exact s _ _ (h.2 i a b ha hb)
 ·have hl:i<(ks++[q]).length:=(A0l.mp ha).1;have e:i=ks.length:=by rw [iT,A0t] at hl;lia
  subst e;rw [A0S (A0f _),A3u] at ha;rw [h.1,A0S (A0f _),A3u] at hb;have ea:q=a:=by simpa using ha
  have eb:p=b:=by simpa using hb
  subst ea eb;exact hq
theorem Xb {k:Nat}{vs:List V}{Q:VK}{E:XK} (F:aL X.prog X.w X.K X.mg X.base bN k f fd ps sp) (hr:cP (k+2) X.A) (hb:Binds X.K fd ps []) (I:Inv X pins σ H s) (r:Vals vs us) (h:sp vs H Q E) :
  wpAny 0x9 X.A.in1.in1 (call (.ref f) us) 0x45 (fun _ _=>False) s:=by
 have r2:Vals vs (us++[]):=by rw [A1s];exact r
 have hl:(us++[]).length=ps.length:=by rw [<- r2.length];exact F.len _ _ _ _ h
 have hr2:cP k X.A.in1.in1:=cP.in1 (cP.in1 hr);refine wpAny_call (A3r (F.run X.A.in1.in1 X.stack s H ⟨us,[]⟩ (us++[]) vs Q E hr2 I.env0.in1.in1 (hb s us I.oU hl) r2 h) fun r s' hq=>?_);cases r with
 | error e=>exact hq.elim
 | ok fl =>
  cases fl with
  | ret u=>exact I.after hq
  | next=>exact False.elim hq
  | brk=>exact False.elim hq
  | cont=>exact False.elim hq
theorem rZ (as:List Addr) (i:Nat) (hi:i<as.length):(as.map Value.ref).getD i Value.none=Value.ref as[i]:=by
 rw [qT,jY,ju hi];rfl
theorem HJ {k:Nat}{n0:Nat}{all:List Addr}{kd:Addr->List V}{lt:Nat->Nat->Bool}{κ:SortKind}{P:PySem.Fin->Shared->Prop}
  (F:aL X.prog X.w X.K X.mg X.base bN k f fd ps sp) (hr:cP (k+2) X.A) (hb:Binds X.K fd ps []) (I:Inv X pins σ H s) (fa:iU X pins H a) (ho:s.heap.get? a=some (seqObj "list" (0x3C).toArray n0)) (h64:all.length<64) (O:Ord all.length lt)
  (hcall:∀ p∈all,∀ H',Same H H'->∀ Q:VK,(∀ q Ox,Same H' Ox->Ox q=some (.tup (kd p))->Q (.ref q) Ox)->sp [.ref p] H' Q (fun _ _ _=>False))
  (hk:2<=all.length->∀ ks H' (s':Shared) (Q:SortKind->Shared->Prop),nZ X.prog X.w H' s'.heap->Same H H'->pL H' kd ks all->Q κ s'->wpAny 0x9 X.A.in1.in1 (keyKind' (ks.map Value.ref).toArray) Q (fun _ _=>False) s')
  (hl:∀ ks H' (s':Shared) (i j:Nat) (C:Bool->Shared->Prop),Inv X pins σ H' s'->Same H H'->pL H' kd ks all->i<all.length->j<all.length->i≠j->(∀ tk,C (lt i j) { s' with toks:=tk }) ->
   wpAny 0x9 X.A.in1.in1 (keyLt' κ ((ks.map Value.ref).getD i Value.none) ((ks.map Value.ref).getD j Value.none)) C (fun _ _=>False) s')
  (h:∀ (p:Array Nat) (s':Shared) (H':Hp) (e:Nat),Pm all.length p->Up lt p all.length->Inv X pins σ H' s'->iU X pins H' a->Same H H'->s'.heap.get? a=some (seqObj "list" (p.toList.map fun i=>(all.map Value.ref).getD i Value.none).toArray e)->P (.done (.ret .none)) s') :
  wpAny 0x9 X.A.in1.in1 (ksk_tree a (.ref f) false) P E s:=by
 have ha:a<s.heap.objs.size:=A0q ho;have zl:(0x3C).toArray.size=all.length:=by simp
 obtain ⟨e1,ho1⟩:∃ e1,(s.heap.update a (Obj.mapSeq fun _=>(#[]:Array Value))).get? a=some (seqObj "list" #[] e1):=⟨_,A4s ho fun _=>#[]⟩;have hkS:((s.heap.update a (Obj.mapSeq fun _=>(#[]:Array Value))).push (seqObj "tuple" (0x3C).toArray 0)).objs.size=s.heap.objs.size+1:=by rw [size_push',Heap.size_update]
 unfold ksk_tree;refine A0a (listItems_at ho rfl ?_);refine A0a (A3j ho rfl ?_ (by rw [zl,A1e];lia) (A0Z _));refine A0a (A5b ho1 rfl ?_);refine A0a (A4O ?_ (by show (0x3C).length<=_;rw [cg,A1e];lia))
 refine A0a (A5e ?_ (A0Z _));refine A1S ?_;generalize hs1:(({ s with heap:=((s.heap.update a (Obj.mapSeq fun _=>(#[]:Array Value))).push (seqObj "tuple" (0x3C).toArray 0)).push (seqObj "list" #[] 0) }:Shared))=s1;have I1:Inv X pins σ H s1:=by
  rw [<- hs1];refine I.tO (fp:=[a]) (t':=s.toks) (fun b hb'=>by rw [A0c.mp hb'];exact fa) fun b o hb' q=>?_;have hne:b≠a:=fun z=>hb' (by simp [z]);exact A0b _ (A0b _ ((A1k _ _ _ _ hne).trans q))
 have a1:s1.heap.get? a=some (seqObj "list" #[] e1):=by rw [<- hs1];exact A0b _ (A0b _ ho1)
 have k1:s1.heap.get? 0x12=some (seqObj "list" #[] 0):=by rw [<- hs1,<- hkS];exact A0n _ rfl
 have fk:iU X pins H 0x12:=I.uG (A2b _) (I.hok.fresh (A2b _));have nak:a≠s.heap.objs.size+1:=A0y (A2n ha);rw [hkS];generalize s.heap.objs.size+1=kS at k1 fk nak ⊢;clear hs1 ho1 hkS ha ho I;unfold ksk_rest;refine A0a (A2Z ?_);rw [List.forIn_toArray];refine A0a (A1d (Kz (fun r s'=>∃ (done rest ks:List Addr) (H':Hp) (e:Nat),done++rest=all/\r=rest.map Value.ref/\Inv X pins σ H' s'/\Same H H'/\pL H' kd ks done/\(∀ b∈[a,kS],iU X pins H' b) /\
   s'.heap.get? a=some (seqObj "list" #[] e1)/\s'.heap.get? kS=some (seqObj "list" (ks.map Value.ref).toArray e)) ?_ 0x3C s1 ⟨[],all,[],H,0,rfl,rfl,I1,Same.refl _,⟨rfl,fun i q p z=>by simp at z⟩,fun b hb'=>?_,a1,k1⟩) (fun _ s' hJ=>?_) fun _ _ x=>x)
 ·rintro x r s' ⟨done,rest,ks,H',e,hd,hx,I',sm,KA,hf,ga,gk⟩;cases rest with
  | nil=>simp at hx
  | cons p rest' =>
   rw [A0g] at hx;obtain ⟨rfl,rfl⟩:=List.cons.inj hx;have hp:p∈all:=by rw [<- hd];simp
   have hkl:ks.length<64:=by
    have h1:(done++p::rest').length=all.length:=by rw [hd]
    rw [iT,pN] at h1;rw [KA.1];lia
   have I2:=I'.pinned hf fun b hb'=>by
    simp only [List.mem_cons,A0L,A1N] at hb';rcases hb' with rfl | rfl
    ·exact ⟨_,ga,fun v z=>by cases z⟩
    ·exact ⟨_,gk,fun v z=>by cases z⟩
   refine A0a (A2P (A1d (Xb F hr hb I2 (us:=[.ref p]) (vs:=[.ref p]) (.cons rfl .nil) (hcall p hp H' sm (fun v Ox=>∃ q,v=.ref q/\Same H' Ox/\Ox q=some (.tup (kd p))) fun q Ox s2 hq=>⟨q,rfl,s2,hq⟩)) (fun kv s'' hk'=>?_) fun _ _ hF=>hF.elim));obtain ⟨v,Ox,I3,rv,q,rfl,s2,hq⟩:=hk';cases rv;have pa:=I3.pin (a,_) (A0x _ (A0x _ (gA 0xA ga)));have pk:=I3.pin (kS,_) (A0x _ (A0x _ (gA 0xA gk)));have hf'':∀ b∈[a,kS],iU X pins Ox b:=fun b hb'=>by
    obtain ⟨_,f2,f3,f4,f5,f6⟩:=hf b hb';simp only [List.mem_cons,A0L,A1N] at hb';rcases hb' with rfl | rfl
    ·exact ⟨pa.2.1,f2,f3,f4,f5,f6⟩
    ·exact ⟨pk.2.1,f2,f3,f4,f5,f6⟩
   have ea:(ks.map Value.ref).toArray.push (.ref q)=((ks++[q]).map Value.ref).toArray:=by simp
   obtain ⟨c2,hc2⟩:∃ c2,(s''.heap.update kS (Obj.mapSeq (·.push (.ref q)))).get? kS=some (seqObj "list" ((ks++[q]).map Value.ref).toArray c2):=⟨_,by rw [<- ea];exact A4s pk.1 (·.push (.ref q))⟩;dsimp only;refine A0a (A3j pk.1 rfl ?_ (by simp;rw [A1e];lia) (by simp;rw [A1e];lia));refine A0d ⟨rfl,done++[p],rest',ks++[q],Ox,c2,by rw [A2J];exact hd,rfl,?_,sm.trans s2,KA.snoc s2 hq,hf'',?_,hc2⟩
   ·exact I3.lR.tO (t':=s''.toks) hf'' fun b o hb' g=>by
     rw [A1k _ _ _ _ (fun z=>hb' (by simp [z]))];exact g
   ·show (s''.heap.update kS _).get? a=_
    rw [A1k _ _ _ _ nak];exact pa.1
 ·simp only [List.mem_cons,A0L,A1N] at hb';rcases hb' with rfl | rfl
  ·exact fa
  ·exact fk
 obtain ⟨done,rest,ks,H',e,hd,hx,I',sm,KA,hf,ga,gk⟩:=hJ;obtain rfl:rest=[]:=by cases rest with
  | nil=>rfl
  | cons _ _=>simp at hx
 rw [A1s] at hd;subst hd;refine A0a (listItems_at gk rfl ?_);have tail:∀ (st:SortSt) (p:Array Nat) (tk:Nat),Pm done.length p->Up lt p done.length->(arrOf st).map (·.2)=(p.toList.map fun i=>(done.map Value.ref).getD i Value.none).toArray->failedOf st=none ->
   wpAny 0x9 X.A.in1.in1 (ksk_tail a false e1 (.ref kS) st) P E { s' with toks:=tk }:=fun st p tk hP hU hout hfl=>by
  have lp:p.toList.length=done.length:=by rw [A0I];exact hP.size
  have ga2:(s'.heap.update kS (Obj.mapSeq fun _=>(#[]:Array Value))).get? a=some (seqObj "list" #[] e1):=by rw [A1k _ _ _ _ nak];exact ga
  obtain ⟨c3,hc3⟩:∃ c3,((s'.heap.update kS (Obj.mapSeq fun _=>(#[]:Array Value))).update a (Obj.mapSeq fun _=>(p.toList.map fun i=>(done.map Value.ref).getD i Value.none).toArray)).get? a=some (seqObj "list" (p.toList.map fun i=>(done.map Value.ref).getD i Value.none).toArray c3):=⟨_,A4s ga2 fun _=>_⟩;unfold ksk_tail;dsimp only;simp only [A1q,A2H];rw [hout];refine A0a (A3j gk rfl ?_ (by simp;rw [KA.1,A1e];lia) (A0Z _));refine A0a (A5r ?_);refine A0a (A5b ga2 rfl ?_);refine A0a (A3j ga2 rfl ?_ (A0Z _) (by rw [A0r,cg,lp,A1e];lia));rw [hfl];simp only [A3Y,A1q,A2H];refine A0d (h p _ H' c3 hP hU ?_ (hf a 0xA) sm hc3);exact I'.tO (t':=tk) hf fun b o hb' g=>by
   have n1:b≠a:=fun z=>hb' (by simp [z]);have n2:b≠kS:=fun z=>hb' (by simp [z]);rw [A1k _ _ _ _ n1,A1k _ _ _ _ n2];exact g
 have lk:(ks.map Value.ref).length=(done.map Value.ref).length:=by rw [cg,cg,KA.1]
 unfold ksk_end;dsimp only;simp only [A1q,A2H]
 by_cases h2:(done.map Value.ref).toArray.size<2
 ·rw [A0i h2,A0i h2];refine A0a (A0d ?_);rw [StateT.run_pure];refine A0a (A0d ?_);dsimp only;refine tail _ (List.range done.length).toArray s'.toks (A5n _) (fun i j hij hj=>by rw [zl] at h2;lia) ?_ rfl;have eo:(arrOf (SortSt.mk' general' ((ks.map Value.ref).toArray.zip (done.map Value.ref).toArray) #[] 7 none)).map (·.2)=(done.map Value.ref).toArray :=
   Array.map_snd_zip (as:=(ks.map Value.ref).toArray) (bs:=(done.map Value.ref).toArray) (by simp;exact Nat.le_of_eq KA.1.symm)
  rw [eo];have ro:=rQ (done.map Value.ref);rw [cg] at ro;rw [ro]
 ·rw [A0e h2,A0e h2];have h2':2<=done.length:=by rw [zl] at h2;lia
  refine A0a (A1d (hk h2' ks H' s' (fun κ' s2=>κ'=κ/\s2=s') I'.hok sm KA ⟨rfl,rfl⟩) (fun κ' s2 hκ=>?_) fun _ _ x=>x.elim);obtain ⟨rfl,rfl⟩:=hκ;refine A0a (A1d (kat_run (κ:=κ') (ks:=ks.map Value.ref) (vs:=done.map Value.ref) (Q:=fun st' s3=>∃ (p:Array Nat) (tk:Nat),Pm done.length p/\Up lt p done.length/\arrOf st'=p.map (kas_item ((ks.map Value.ref).toArray.zip (done.map Value.ref).toArray))/\failedOf st'=none/\s3={ s2 with toks:=tk })
   (G:=fun p s3=>∃ tk:Nat,Pm done.length p/\Up lt p done.length/\s3={ s2 with toks:=tk })
   lk (by rw [cg];exact h2') (by rw [cg];exact h64) (fun p st' s3 _ b2 b3 ⟨tk,c1,c2,c3⟩=>⟨p,tk,c1,c2,b2,b3,c3⟩) ?_) ?_ fun _ _ e=>e)
  ·rw [cg];refine K4 (J:=fun s3=>∃ tk:Nat,s3={ s2 with toks:=tk }) O (fun i j C s3 hi hj hij hJ hC=>?_) h2' ⟨s2.toks,rfl⟩ fun p' s3 hP hU ⟨tk,e⟩=>⟨tk,hP,hU,e⟩;obtain ⟨tk,rfl⟩:=hJ;exact hl ks H' _ i j C (I'.tok tk) sm KA hi hj hij fun tk'=>hC _ ⟨tk',rfl⟩
  ·rintro ⟨⟨⟩,st'⟩ s3 ⟨p,tk,hP,hU,har,hfl,rfl⟩;dsimp only;exact tail st' p tk hP hU (kat_snds lk har) hfl
end L2
namespace PySem.SeqAt
open PySem PySem.MeetsSeq PySem.Calls PyProof.Rows
theorem HN (l b:Addr) (items items2:Array Value) (n n2:Nat) (dd dd2:Option Addr) (sl sl2:Array (Option Value)) (e:Nat->Bool) (r:Bool) (j:Nat) (g1:j<items.size) (g2:j<items2.size) (hit:e j=false) (pre:∀ i,i<j->e i=true) :
  Meets (Builtin.«tuple.__lt__» ⟨[.ref l,.ref b],[]⟩)
   (fun A R s=>s.heap.get? l=some { cls:=.type "tuple",dict:=dd,data:=.seq items n,slots:=sl }/\s.heap.get? b=some { cls:=.type "tuple",dict:=dd2,data:=.seq items2 n2,slots:=sl2 } /\
    (∀ j (h1:j<items.size) (h2:j<items2.size),EqAt A.in1 s items[j] items2[j] (e j))/\(∀ (prog:Program) (w:World) (E:Value->Shared->Prop) (Q:Value->Shared->Prop),Q (.bool r) s->wpAny 0xC A.in1 (richCompare .Lt items[j] items2[j]) Q E s) /\
    R (.ok (.ret (.bool r))) s) :=
 .of_wp fun prog w A R s h=>by
  obtain ⟨hp,g,d,tk,os⟩:=s;obtain ⟨hl,hb,he,hc,h⟩:=h;have f2:=AutoSeq1.sub_tuple_tuple;have hZ:(items.toList.zip items2.toList).length=min items.size items2.size:=by simp
  wp_walk using A4n hl,A4n hb,wpAny_forIn_list _ (fun rest b s'=>b.1=none/\s'=⟨hp,g,d,tk,os⟩/\∃ i,i<=j/\rest=(items.toList.zip items2.toList).drop i) _
  case turn =>
   rintro ⟨y,x⟩ rest b s' ⟨hb',rfl,i,hij,hz⟩;have hlt:i<(items.toList.zip items2.toList).length:=by
    rcases Nat.lt_or_ge i (items.toList.zip items2.toList).length with h' | h'
    ·exact h'
    ·rw [List.drop_of_length_le h'] at hz;cases hz
   have hm:i<min items.size items2.size:=hZ ▸ hlt;have h1:i<items.size:=A0p hm (Nat.min_le_left _ _);have h2:i<items2.size:=A0p hm (Nat.min_le_right _ _);rw [List.drop_eq_getElem_cons hlt] at hz;injection hz with hyx hrest;have hy:y=items[i]:=by have:=A1v Prod.fst hyx;simpa using this
   have hx:x=items2[i]:=by have:=A1v Prod.snd hyx;simpa using this
   subst hy hx;refine A0a (he i h1 h2 prog w _ _ ?_)
   by_cases hi:i=j
   ·subst hi;rw [hit]
    wp_walk using hc prog w
    exact ⟨_,rfl,h⟩
   ·rw [pre i 0x2]
    wp_walk
    exact ⟨rfl,rfl,i+1,by lia,hrest⟩
  case fin =>
   rintro ⟨b1,b2⟩ s' ⟨hb',rfl,i,hij,hz⟩
   exfalso
   rcases Nat.lt_or_ge i (items.toList.zip items2.toList).length with h' | h'
   ·rw [List.drop_eq_getElem_cons h'] at hz;cases hz
   ·rw [hZ] at h';lia
  case h =>
   exact ⟨rfl,rfl,0,A0Z _,rfl⟩
end PySem.SeqAt
namespace L2
open PySem PySem.Spec PyProof.Rows PySem.W
theorem Inv.track (I:Inv X pins σ H s) (hf:iU X pins H D) (new:cM X.prog X.w (upd H D o) s.heap D o):Inv X pins σ (upd H D o) s:=by
 have hn:H D=none:=hf.1;have g:=I.step (h':=s.heap) (H':=upd H D o) (g':=s.gens) (t':=s.toks) (d':=s.drawn) (ch:=[D]) (fun b hb=>by rw [A0c.mp hb];exact ⟨hf.2.2.2.1,hf.2.1,hf.2.2.2.2.1,hf.2.2.2.2.2⟩) (fun b o _ _ _ e _=>e) (fun b o _ _ _ e _=>⟨o.slots,e⟩)
  (fun b o hb e n=>by rw [ak (fun z=>hb (by simp [z]))];exact n)
  (fun b o _ e=>⟨o,e⟩) (fun b xs e=>by rw [ak (aq e hn)];exact e) (fun b u xs e=>by rw [ak (aq e hn)];exact e) (fun b ps e=>⟨#[],by rw [ak (aq e hn),e];simp⟩) (fun m hm=>hm) (fun b u e=>?_) I.bare
 ·exact g
 ·by_cases hb:b=D
  ·subst hb;rw [ao] at e;cases e;exact new
  ·rw [ak hb] at e;refine (I.hok b u e).stay (fun c v hc q=>q) (fun c q=>?_) fun c xs q=>?_
   ·first
     | (rw [ak (aq q hn)];exact q)
     | exact q
   ·first
     | (rw [ak (aq q hn)];exact q)
     | exact q
theorem KC:∀ {xs:List V}{us:List Value},xs.length=us.length->(∀ (j:Nat) (x:V) (u:Value),xs[j]?=some x->us[j]?=some u->RelV x u)->Vals xs us
 | [],[],_,_=>.nil
 | [],_::_,h,_=>by simp at h
 | _::_,[],h,_=>by simp at h
 | x::xs,u::us,h,k=>.cons (k 0 x u 0xA 0xA) (KC (by simpa using h) fun j y w h1 h2=>k (j+1) y w (by simpa using h1) (by simpa using h2))
theorem gJ.pairs:∀ {es:List DictEntry}{kvs:List (Str×V)},gJ w.params es kvs->∃ kvs':List (Str×Value),Pairs 0x2E es kvs'/\kvs'.map (·.1)=kvs.map (·.1)
 | [],[],_=>⟨[],.nil,rfl⟩
 | e::r,(k,v)::q,⟨⟨⟨t,h1⟩,h2,h3⟩,h⟩=>by
  have ih:∃ kvs':List (Str×Value),Pairs 0x2E r kvs'/\kvs'.map (·.1)=q.map (·.1):=gJ.pairs h;obtain ⟨l,p,el⟩:=ih;exact ⟨(k,e.val)::l,.cons (by rw [h1];exact A4e prog w k t) rfl p,by rw [A0g,A0g,el]⟩
theorem KD.dictAt {kvs:List (Str×V)} (d:KD K w.params a kvs)  (X:K.In h) (nd:(kvs.map (·.1)).Nodup):∃ (kvs':List (Str×Value)) (ep:Nat),h.DictAt 0x2E a kvs' ep/\kvs'.map (·.1)=kvs.map (·.1):=by
 obtain ⟨es,n,hl,he⟩:=d.ex;obtain ⟨l,p,el⟩:=he.pairs (prog:=prog);refine ⟨l,n,⟨_,es,X _ _ hl,⟨rfl,rfl,rfl⟩,rfl,fun e hm=>?_,p,by rw [el];exact nd⟩,el⟩;obtain ⟨x,t,e1,e2⟩:=he.lit.all e (Array.mem_toList_iff.mpr hm);exact ⟨x,by rw [e1];exact A4e prog w x t,e2⟩
inductive KH (K:W.Frag) (P:Params) (xs:List V) (H:Hp) (Q:VK):Prop
 | mk (a:Addr) (kvs:List (Prod Str V)) (_:xs=[.ref a]) (_:KD K P a kvs) (_:(kvs.map (·.1)).Nodup) (_:kvs.length<=1000) (_:∀ p,H p=none->Q (.ref p) (upd H p (.lst (kvs.map fun e=>.str e.1)))):KH K P xs H Q
theorem Eb (hin:X.A.handled=none):gZ X (.type "list") (KH X.K X.w.params):=by
 intro pins s σ H xs us Q I r h;obtain ⟨a,kvs,rfl,d,nd,hz,q⟩:=h;obtain ⟨u,rfl,ru⟩:=vals1 r;cases ru;obtain ⟨kvs',ep,hd,ek⟩:=d.dictAt (prog:=X.prog) I.oU nd;have hlen:kvs'.length=kvs.length:=by have:=A1v List.length ek;simpa using this
 refine kdl_call (kdl_dict (knd:=strKind X.prog X.w) (kvs:=kvs') (ep:=ep) d.lo) hin hd (by rw [hlen,A1e];lia) fun h' tk acc c hk hS hI=>?_;have hv:Vals (kvs.map fun e=>V.str e.1) acc.toList:=by
  have ln:acc.toList.length=kvs.length:=by rw [A0I,hI.1,hlen]
  have key:∀ (j:Nat) (w:Value),acc.toList[j]?=some w->∃ e,kvs[j]?=some e/\∃ t,w=.str e.1 t:=fun j w hj=>by
   obtain ⟨k,x,e1,e2⟩:=hI.2 j w (by simpa using hj);have hj':j<kvs.length:=by rw [<- hlen];exact (A0l.mp e1).1
   refine ⟨kvs[j],ju hj',?_⟩;have e3:(kvs'.map (·.1))[j]?=(kvs.map (·.1))[j]?:=by rw [ek]
   rw [jY,jY,e1,ju hj'] at e3;have e4:k=kvs[j].1:=by simpa using e3
   rw [<- e4];exact A2R e2
  refine KC (by rw [cg,ln]) fun j x u hx hu=>?_;obtain ⟨e,he,t,rfl⟩:=key j u hu;rw [jY,he] at hx;have:V.str e.1=x:=by simpa using hx
  subst this;exact ⟨t,rfl⟩
 have hl:(kvs.map fun e=>V.str e.1).length<=sizeLine:=by rw [cg,A1e];lia
 exact ⟨.ref s.heap.objs.size,_,I.laid (o:=.lst (kvs.map fun e=>.str e.1)) (t':=tk) hk (A0f _) ⟨hl,acc.toList,c,hv,hS⟩,rfl,q _ 0x48⟩
inductive KJ (K:W.Frag) (x:V) (vs:List V) (H:Hp) (Q:VK):Prop
 | mk (l:Addr) (zs:List Str) (z:Str) (j:Nat) (_:x=.ref l) (_:vs=[.str z]) (_:bT K H l (zs.map V.str)) (_:zs[j]?=some z) (_:(∀ i,i<j->zs[i]?≠some z)) (_:j<1000) (_:Q (.int ((j:Nat):Int)) H):KJ K x vs H Q
theorem KN:∀ {zs:List Str}{us:List Value},Vals (zs.map V.str) us->∀ (j:Nat) (u:Value),us[j]?=some u->∃ z t,zs[j]?=some z/\u=.str z t
 | [],_,r,j,u,h=>by rw [A3U] at r;cases r;simp at h
 | z::zs,_,r,j,u,h=>by
  rw [A0g] at r;cases r with
  | cons r1 r2 =>
   obtain ⟨t,e⟩:=r1;cases j with
   | zero=>simp at h;subst h;exact ⟨z,t,by simp,e⟩
   | succ j=>obtain ⟨z',t',a,b⟩:=KN r2 j u (by simpa using h);exact ⟨z',t',by simpa using a,b⟩
theorem sE:MtR X "list.index" (KJ X.K):=by
 intro pins s σ H x vs v us Q I rx rv h;obtain ⟨l,zs,z,j,rfl,rfl,hq,hj,hno,hjs,q⟩:=h;cases rx;obtain ⟨u,rfl,ru⟩:=rv.one;obtain ⟨tz,rfl⟩:=ru;obtain ⟨its,rv',pl,hz⟩:=I.list hq;have hlen:zs.length=its.length:=by have:=rv'.length;simpa using this
 have hjl:j<zs.length:=(A0l.mp hj).1;have at_:∀ (m:Nat) (hm:m<its.toArray.size),∃ y t,zs[m]?=some y/\its.toArray[m]=.str y t:=fun m hm=>KN rv' m _ 0xA;obtain ⟨⟨oc,od,oda,osl⟩,n,ho,hc,hdn,hdd⟩:=pl;dsimp only at hc hdn hdd;subst hc hdn hdd;have hjs':j<its.toArray.size:=by rw [A0r];lia
 have ev:∀ (m:Nat) (hm:m<its.toArray.size) (y:Str),zs[m]?=some y->(match its.toArray[m] with | .str a _=>a==z | _=>false)=(y==z):=fun m hm y hy=>by
  obtain ⟨y',t,e1,e2⟩:=at_ m hm;rw [hy] at e1;cases e1;rw [e2]
 refine call_meets A2X ⟨_,ho,rfl⟩ PySem.F.entry_list_index (PySem.F.args_list_index_2 _ _)
  (SeqAt.list_indexAt l its.toArray n none osl (.str z tz) (fun u=>match u with | .str a _=>a==z | _=>false) j hjs' 0x2 (by rw [ev j hjs' z hj];exact A2W z) (fun m hm hlt=>?_)) ⟨?_,fun y hy=>?_,?_⟩
 ·obtain ⟨y,t,e1,e2⟩:=at_ m hm;rw [ev m hm y e1,A1H];intro e;exact hno m hlt (by rw [e1,e])
 ·exact ho
 ·obtain ⟨m,hm,rfl⟩:=Array.mem_iff_getElem.mp hy;obtain ⟨y,t,e1,e2⟩:=at_ m hm;rw [ev m hm y e1,e2];exact A4M y t z tz
 ·exact ⟨.int ((j:Nat):Int),H,I.tok _,⟨_,rfl⟩,q⟩
inductive KQ (x:V) (vs:List V) (H:Hp) (Q:VK):Prop
 | mk (l:Addr) (xs:List V) (i:Nat) (y:V) (_:x=.ref l) (_:vs=[.int ((i:Nat):Int),y]) (_:H l=some (.lst xs)) (_:i<=xs.length) (_:xs.length<1000) (_:Q .non (upd H l (.lst (xs.take i++y::xs.drop i)))):KQ x vs H Q
theorem NZ:MtR X "list.insert" KQ:=by
 intro pins s σ H x vs v us Q I rx rv h;obtain ⟨l,xs,i,y,rfl,rfl,hH,hi,hz,q⟩:=h;cases rx;obtain ⟨u,u',rfl,⟨t,rfl⟩,ru⟩:=vals2 rv;obtain ⟨z,its,n,r,hl,e⟩:=I.Qd hH;have fit:Builtin.List.listFitsIndex ((i:Nat):Int)=true:=by
  unfold Builtin.List.listFitsIndex;simp;lia
 have hsz:its.toArray.size<=sizeLine:=by rw [A0r,<- hl];exact z
 generalize hx:((i:Nat):Int)=x at fit rv ⊢;have fit':¬(!Builtin.List.listFitsIndex x)=true:=by simp [fit]
 have g:=PySem.AutoSeq1.list_insert_list_int_val_1 l its.toArray n x t u' fit' hsz;refine call_meets PySem.F.slot_list_insert ⟨_,e,rfl⟩ PySem.F.entry_list_insert (PySem.F.args_list_insert_3 _ _ _) g ⟨e,?_⟩;refine ⟨.non,_,I.Zx (its':=its.take i++u'::its.drop i) hH e ?_ ((r.take i).append (.cons ru (r.drop i))) ?_,rfl,q⟩
 ·subst hx
  show (its.toArray.extract 0 (if ((i:Nat):Int)<0 then (((i:Nat):Int)+(its.toArray.size:Int)).toNat else min ((i:Nat):Int).toNat its.toArray.size)).push u'++its.toArray.extract (if ((i:Nat):Int)<0 then (((i:Nat):Int)+(its.toArray.size:Int)).toNat else min ((i:Nat):Int).toNat its.toArray.size)=_
  have e0:¬ ((i:Nat):Int)<0:=Int.not_lt.mpr (Int.natCast_nonneg i);rw [A0e e0];have em:min ((i:Nat):Int).toNat its.toArray.size=i:=by rw [A0r,A1Y];lia
  rw [em,kl_ins_eq]
 ·refine A0M (m:=1000) ?_ (by rw [A1e];decide);rw [iT,pN,A0G,A1z];lia
def ltV:V->V->Bool
 | .int a,.int b=>decide (a<b)
 | .str a,.str b=>decide (a.cps.toList<b.cps.toList)
 | _,_=>false
def mZ:List V->List V->Bool
 | x::xs,y::ys=>if x=y then mZ xs ys else ltV x y
 | [],_::_=>true
 | _,_=>false
def U5:V->V->Bool
 | .int _,.int _=>true
 | .str _,.str _=>true
 | _,_=>false
def qJ:List V->List V->Prop
 | x::xs,y::ys=>U5 x y=true/\qJ xs ys
 | [],[]=>True
 | _,_=>False
theorem yw {x z:V} (h:ltV x y=true) (g:ltV y z=true):ltV x z=true:=by
 cases x with
 | int a=>cases y with
  | int b=>cases z with
   | int c=>exact A0j (Int.lt_trans (sS h) (sS g))
   | _=>cases g
  | _=>cases h
 | str a=>cases y with
  | str b=>cases z with
   | str c=>exact A0j (List.lt_trans (sS h) (sS g))
   | _=>cases g
  | _=>cases h
 | _=>cases h
theorem HS {x:V}:ltV x x=false:=by
 cases x <;> first | rfl | skip
 ·exact A0s (Int.lt_irrefl _)
 ·exact A0s (List.lt_irrefl _)
theorem O1 {x:V} (t:U5 x y=true) (hne:x≠y) (h:ltV x y=false):ltV y x=true:=by
 cases x <;> cases y <;> first | cases t | skip
 ·rename_i a b
  have h':=A2g h;have:a≠b:=fun e=>hne (by rw [e]);exact A0j 0x2
 ·rename_i a b
  have h':=A2g h;have ne:a.cps.toList≠b.cps.toList:=fun e=>hne (by rw [qb e]);refine A0j ?_;have le:b.cps.toList<=a.cps.toList:=List.not_lt.mp h';rcases List.le_iff_lt_or_eq.mp le with z | z
  ·exact z
  ·exact absurd z.symm ne
theorem vM:∀ {xs ys zs:List V},qJ xs ys->qJ ys zs->mZ xs ys=true->mZ ys zs=true->mZ xs zs=true
 | [],[],_,_,_,h,_=>by cases h
 | [],_::_,_,t,_,_,_=>t.elim
 | _::_,[],_,t,_,_,_=>t.elim
 | _::_,_::_,[],_,t,_,_=>t.elim
 | x::xs,y::ys,z::zs,t,u,h,g=>by
  unfold mZ at h g ⊢
  by_cases e:x=y
  ·subst e;rw [A0i rfl] at h
   by_cases e2:x=z
   ·subst e2;rw [A0i rfl] at g ⊢;exact vM t.2 u.2 h g
   ·rw [A0e e2] at g ⊢;exact g
  ·rw [A0e e] at h
   by_cases e2:y=z
   ·subst e2;rw [A0e e];exact h
   ·rw [A0e e2] at g;have hx:x≠z:=fun e3=>by
     subst e3;have:=yw h g;rw [HS] at this;cases this
    rw [A0e hx];exact yw h g
theorem vN:∀ {xs ys:List V},qJ xs ys->xs≠ys->mZ xs ys=false->mZ ys xs=true
 | [],[],_,h,_=>absurd rfl h
 | [],_::_,t,_,_=>t.elim
 | _::_,[],t,_,_=>t.elim
 | x::xs,y::ys,t,hne,h=>by
  unfold mZ at h ⊢
  by_cases e:x=y
  ·subst e;rw [A0i rfl] at h ⊢;exact vN t.2 (fun z=>hne (by rw [z])) h
  ·rw [A0e e] at h;rw [A0e (A0k e)];exact O1 t.1 e h
theorem yx:∀ {xs ys:List V},qJ xs ys->xs≠ys->∃ (j:Nat) (x y:V),xs[j]?=some x/\ys[j]?=some y/\x≠y/\U5 x y=true/\(∀ i,i<j->xs[i]?=ys[i]?)/\mZ xs ys=ltV x y
 | [],[],_,h=>absurd rfl h
 | [],_::_,t,_=>t.elim
 | _::_,[],t,_=>t.elim
 | x::xs,y::ys,t,hne=>by
  by_cases e:x=y
  ·subst e;obtain ⟨j,a,b,h1,h2,h3,h4,h5,h6⟩:=yx t.2 (fun z=>hne (by rw [z]));refine ⟨j+1,a,b,by simpa using h1,by simpa using h2,h3,h4,fun i hi=>?_,by unfold mZ;rw [A0i rfl];exact h6⟩;cases i with
   | zero=>simp
   | succ i=>simpa using h5 i 0x2
  ·exact ⟨0,x,y,by simp,by simp,e,t.1,fun i hi=>absurd hi (A5m _),by unfold mZ;rw [A0e e]⟩
theorem O2 {x:V}{w:Value} (hu:A.units+8<cLine) (rx:RelV x u) (ry:RelV y w) (hx:fD x=true) (hy:fD y=true):SeqAt.EqAt A s u w (decide (x=y)):=by
 cases x with
 | int a =>
  obtain ⟨t,rfl⟩:=rx;cases y with
  | int b =>
   obtain ⟨t',rfl⟩:=ry;have e:decide (V.int a=V.int b)=(a==b):=by rw [A1i];simp
   rw [e];exact SeqAt.EqAt.int_int a t b t'
  | str z =>
   obtain ⟨t',rfl⟩:=ry;rw [A0s (show ¬ V.int a=V.str z from fun e=>by cases e)]
   exact A4G a t z t'
  | _=>cases hy
 | str a =>
  obtain ⟨t,rfl⟩:=rx;cases y with
  | int b =>
   obtain ⟨t',rfl⟩:=ry;rw [A0s (show ¬ V.str a=V.int b from fun e=>by cases e)]
   exact A4H a t b t'
  | str z =>
   obtain ⟨t',rfl⟩:=ry;have e:decide (V.str a=V.str z)=(a==z):=by rw [A1i];simp
   rw [e];exact A4M a t z t'
  | _=>cases hy
 | _=>cases hx
theorem KR (hu:A.units+9<cLine) (hk:nZ X.prog X.w H s.heap) (hp:H p=some 0x3E) (hq:H q=some (.tup ys)) (hx:xs.all fD=true) (hy:ys.all fD=true) (t:qJ xs ys) (hne:xs≠ys)
  (h:Q (.bool (mZ xs ys)) s):wpAny 0x9 A (compareOp .Lt (.ref p) (.ref q)) Q E s:=by
 obtain ⟨z1,its,r1,⟨⟨oc,od,oda,osl⟩,ho,hc,n,hd⟩⟩:=hk p _ hp;obtain ⟨z2,its2,r2,⟨⟨oc2,od2,oda2,osl2⟩,ho2,hc2,n2,hd2⟩⟩:=hk q _ hq;dsimp only at hc hd hc2 hd2;subst hc hd hc2 hd2;obtain ⟨j,x,y,h1,h2,h3,h4,h5,h6⟩:=yx t hne;obtain ⟨u,hu1,ru⟩:=r1.get h1;obtain ⟨w,hw1,bG⟩:=r2.get h2;have l1:=r1.length;have l2:=r2.length;have g1:j<its.toArray.size:=by rw [A0r];exact (A0l.mp hu1).1
 have g2:j<its2.toArray.size:=by rw [A0r];exact (A0l.mp hw1).1
 have eu:its.toArray[j]=u:=by have:=(A0l.mp hu1).2;simpa using this
 have ew:its2.toArray[j]=w:=by have:=(A0l.mp hw1).2;simpa using this
 refine cmp_ofLt (richCompare_meets_room (op:=.Lt) ⟨_,ho,rfl⟩ ⟨_,ho2,rfl⟩ PySem.F.slot_tuple_lt PySem.F.entry_tuple_lt (PySem.F.args_tuple_lt_2 _ _)
  (SeqAt.HN p q its.toArray its2.toArray n n2 _ _ _ _ (fun i=>decide (xs.getD i .non=ys.getD i .non)) (mZ xs ys) j g1 g2 ?_ fun i hi=>?_) ⟨ho,ho2,fun i a1 a2=>?_,fun prog w E Q hQ=>?_,?_⟩ 0x2)
 ·refine A0s ?_;rw [qT,qT,h1,h2];exact h3
 ·refine A0j ?_;rw [qT,qT,h5 i hi]
 ·rw [A0r] at a1 a2;have b1:i<xs.length:=by lia
  have b2:i<ys.length:=by lia
  obtain ⟨u',c1,c2⟩:=r1.get (ju b1);obtain ⟨w',d1,d2⟩:=r2.get (ju b2);have e1:its.toArray[i]=u':=by have:=(A0l.mp c1).2;simpa using this
  have e2:its2.toArray[i]=w':=by have:=(A0l.mp d1).2;simpa using this
  rw [e1,e2,qT,qT,ju b1,ju b2];exact O2 (by show A.units+1+8<_;lia) c2 d2 (A1G.mp hx _ (A0N b1)) (A1G.mp hy _ (A0N b2))
 ·rw [eu,ew];rw [h6] at hQ;cases x with
  | int a =>
   cases y with
   | int b =>
    obtain ⟨t1,rfl⟩:=ru;obtain ⟨t2,rfl⟩:=bG;exact lt_int hQ
   | _=>cases h4
  | str a =>
   cases y with
   | str b =>
    obtain ⟨t1,rfl⟩:=ru;obtain ⟨t2,rfl⟩:=bG;exact lt_str hQ
   | _=>cases h4
  | _=>cases h4
 ·exact ⟨(fun z=>by cases z),h⟩
inductive rLtR (x y:V) (H:Hp) (Q:VK):Prop
 | mk (p q:Addr) (xs ys:List V) (_:x=.ref p) (_:y=.ref q) (_:H p=some 0x3E) (_:H q=some (.tup ys)) (_:xs.all fD=true) (_:ys.all fD=true) (_:qJ xs ys) (_:xs≠ys) (_:Q (.bl (mZ xs ys)) H):rLtR x y H Q
theorem a0U (hu:X.A.units+64<cLine):nu X (compareOp .Lt) rLtR:=by
 intro pins s σ H x y v u Q I rx ry h;obtain ⟨p,q,xs,ys,rfl,rfl,hp,hq,hx,hy,t,hne,k⟩:=h;cases rx;cases ry;exact KR 0x2 I.hok hp hq hx hy t hne ⟨.bl _,H,I,rfl,k⟩
end L2
namespace M
open PySem L2 PyProof.Rows
abbrev Ae:Stmt:=top 13
abbrev HX:Stmt:=top 14
abbrev Ia:Stmt:=top 63
abbrev Af:Stmt:=top 64
abbrev Ib:Stmt:=top 65
abbrev Ie:Stmt:=top 71
def Ig.num:Ig->Bool
 | .d=>true | .n=>false | .c=>false | .a=>true | .s=>true
def forms:List (Str×List Ig):=[("heir",[.d,.n,.n]),("grant",[.d,.c,.n,.n,.a,.s]),("part",[.d,.n,.n,.n,.a]),("convey",[.d,.n,.n]),("liege",[.d,.n,.c]),("surrender",[.d,.n]),("death",[.d,.n])]
def form (k:Str):Option (List Ig):=forms.lookup k
def isI:V->Bool
 | .int _=>true
 | _=>false
def KY (l:List Ig) (rest:List V):Prop:=∀ (i:Nat) (s:Ig) (v:V),l[i]?=some s->rest[i]?=some v->isI v=s.num
theorem Ih {k:Str}{l:List Ig} (h:form k=some l):(k,l)∈forms:=by
 unfold form at h
 revert h
 generalize forms=fs
 induction fs with
 | nil=>intro h;cases h
 | cons p r ih =>
  obtain ⟨k',l'⟩:=p;intro h;rw [A1b] at h
  by_cases e:k=k'
  ·subst e;simp at h;subst h;exact A0h
  ·have e':(k==k')=false:=by simpa using e
   rw [e'] at h;exact jh _ (ih h)
def U6:List V:=[.str "heir",.str "grant",.str "part",.str "convey",.str "liege",.str "surrender",.str "death"]
def KZ:Sp:=fun vs H Q _=>vs=[]/\∀ p,H p=none->Q (.ref p) (upd H p (.lst U6))
theorem Xc:aQ [] [] (aJ Ia):=0x0
theorem U7 (F:fK K "_law_kinds" "_law_kinds" Ia f fd):aL P w K mg base bN 1 f fd [] KZ:=by
 refine F.ok Xc 0x1 0x3;obtain ⟨rfl,k⟩:=h;refine ⟨_,aG (aZ (eG (aj aN (aj aN (aj aN (aj aN (aj aN (aj aN (aj aN aC))))))))),?_⟩;exact ⟨small 0xA,k⟩
open PySem.Spec PySem.W
def cJ:List Str:=["heir", "grant", "part", "convey", "liege", "surrender", "death"]
def dF (k:Str):Nat:=cJ.idxOf k
structure RowD (r:List V) (k:Str) (d:Int) (rest:List V) (l:List Ig):Prop where
 e:r=.str k::.int d::rest
 f:form k=some l
 len:(V.int d::rest).length=l.length
 kept:KY l (.int d::rest)
 flat:r.all fD=true
inductive gG (r:List V):Prop
 | mk (k:Str) (d:Int) (rest:List V) (l:List Ig) (_:RowD r k d rest l):gG r
def iy:List V->Int
 | _::.int d::_=>d
 | _=>0
def fJ:List V->Str
 | .str k::_=>k
 | _=>""
def eY (r s:List V):Bool:=if iy r≠iy s then decide (iy r<iy s) else if dF (fJ r)≠dF (fJ s) then decide (dF (fJ r)<dF (fJ s)) else mZ r s
theorem Ec:∀ {l:List Ig}{xs ys:List V},xs.length=l.length->ys.length=l.length->KY l xs->KY l ys->xs.all fD=true->ys.all fD=true->qJ xs ys
 | [],[],[],_,_,_,_,_,_=>trivial
 | [],_::_,_,h,_,_,_,_,_=>by simp at h
 | [],[],_::_,_,h,_,_,_,_=>by simp at h
 | _::_,[],_,h,_,_,_,_,_=>by simp at h
 | _::_,_::_,[],_,h,_,_,_,_=>by simp at h
 | s::l,x::xs,y::ys,h1,h2,k1,k2,f1,f2=>by
  rw [A2O,A0Y] at f1 f2;refine ⟨?_,Ec (by simpa using h1) (by simpa using h2) (fun i t v a b=>k1 (i+1) t v (by simpa using a) (by simpa using b)) (fun i t v a b=>k2 (i+1) t v (by simpa using a) (by simpa using b)) f1.2 f2.2⟩;have a1:=k1 0 s x 0xA 0xA;have a2:=k2 0 s y 0xA 0xA;rw [<- a2] at a1;cases x <;> cases y <;> first | rfl | (cases a1;done) | (cases f1.1;done) | (cases f2.1;done)
theorem mX {k:Str}{l:List Ig} (h:form k=some l):k∈cJ:=by
 have:=Ih h;have e:cJ=forms.map (·.1):=by decide +kernel
 rw [e];exact A0m.mpr ⟨(k,l),this,rfl⟩
theorem Ed {k k':Str} (h:k∈cJ) (h':k'∈cJ) (e:dF k=dF k'):k=k':=by
 have a:cJ.idxOf k<cJ.length:=A3I.mpr h;have b:cJ.idxOf k'<cJ.length:=A3I.mpr h';have e1:cJ[cJ.idxOf k]=k:=A3N a;have e2:cJ[cJ.idxOf k']=k':=A3N b;unfold dF at e;rw [<- e1,<- e2];simp only [e]
theorem gG.same {s:List V} (hr:gG r) (hs:gG s) (e:dF (fJ r)=dF (fJ s)):qJ r s:=by
 obtain ⟨k,d,rest,l,R⟩:=hr;obtain ⟨k',d',rest',l',S⟩:=hs;have e1:=R.e;have e2:=S.e;subst e1 e2;have ek:k=k':=Ed (mX R.f) (mX S.f) e;subst ek;have el:l=l':=by have:=R.f;rw [S.f] at this;exact (A0O this).symm
 subst el;have f1:=R.flat;have f2:=S.flat;rw [A2O,A0Y] at f1 f2;exact ⟨rfl,Ec R.len S.len R.kept S.kept f1.2 f2.2⟩
theorem kZ {s t:List V} (hr:gG r) (hs:gG s) (ht:gG t) (h:eY r s=true) (g:eY s t=true):eY r t=true:=by
 unfold eY at h g ⊢
 by_cases a:iy r=iy s
 ·rw [A0e (by simpa using a)] at h
  by_cases b:iy s=iy t
  ·rw [A0e (by simpa using b)] at g;rw [A0e (by simpa using a.trans b)]
   by_cases c:dF (fJ r)=dF (fJ s)
   ·rw [A0e (by simpa using c)] at h
    by_cases d:dF (fJ s)=dF (fJ t)
    ·rw [A0e (by simpa using d)] at g;rw [A0e (by simpa using c.trans d)];exact vM (hr.same hs c) (hs.same ht d) h g
    ·rw [A0i (by simpa using d)] at g;rw [A0i (by rw [c];simpa using d),c];exact g
   ·rw [A0i (by simpa using c)] at h;have h':=sS h
    by_cases d:dF (fJ s)=dF (fJ t)
    ·rw [<- d,A0i (by simpa using c)];exact h
    ·rw [A0i (by simpa using d)] at g;have g':=sS g;rw [A0i 0x2];exact A0j 0x2
  ·rw [A0i (by simpa using b)] at g;rw [a,A0i (by simpa using b)];exact g
 ·rw [A0i (by simpa using a)] at h;have h':=sS h
  by_cases b:iy s=iy t
  ·rw [<- b,A0i (by simpa using a)];exact h
  ·rw [A0i (by simpa using b)] at g;have g':=sS g;rw [A0i 0x2];exact A0j 0x2
theorem sZ {s:List V} (hr:gG r) (hs:gG s) (hne:r≠s) (h:eY r s=false):eY s r=true:=by
 unfold eY at h ⊢
 by_cases a:iy r=iy s
 ·rw [A0e (by simpa using a)] at h;rw [A0e (by simpa using a.symm)]
  by_cases c:dF (fJ r)=dF (fJ s)
  ·rw [A0e (by simpa using c)] at h;rw [A0e (by simpa using c.symm)];exact vN (hr.same hs c) hne h
  ·rw [A0i (by simpa using c)] at h;have h':=A2g h;rw [A0i (fun e=>c e.symm)];exact A0j 0x2
 ·rw [A0i (by simpa using a)] at h;have h':=A2g h;rw [A0i (fun e=>a e.symm)];exact A0j 0x2
theorem Ef {s:List V} (hr:gG r) (hs:gG s) (h:eY r s=true):eY s r=false:=by
 cases e:eY s r with
 | false=>rfl
 | true =>
  have:=kZ hr hs hr h e;unfold eY at this;rw [A0e 0xA,A0e 0xA] at this
  exfalso
  have irr:∀ xs:List V,mZ xs xs=false:=fun xs=>by
   induction xs with
   | nil=>rfl
   | cons x xs ih=>unfold mZ;rw [A0i rfl];exact ih
  rw [irr] at this;cases this
end M
namespace L2
open PySem PySem.Spec PyProof.Rows PySem.W
section
variable {M:Model}
theorem Ag {rest:List Expr}{kws:List Keyword}
  (h:wpAny M A (spliced (backTo pos (starEach (e::rest) env))) (fun vs s1=>wpAny M A (evalAll ((0x5C).map (·.2))) (fun kvs s2=>wpAny M A (call (.builtin T) vs (((0x5C).filterMap (·.1)).zip kvs)) Q E s2) E s1) E s)
  (he:backTo pos (starEach (e::rest) env)=(false,eval e env)::backTo pos (starEach rest env)) (hp:(backTo pos (starEach (e::rest) env)).any (·.1)=false)
  (ha:(0x5C).all (·.1.isSome)=true) (hk:(0x5C).any (·.1.isNone)=false) :
  wpAny M A (callWith pos (.builtin T) [] (backTo pos (starEach (e::rest) env)) 0x5C) Q E s:=by
 have g:wpAny M A (evalArgs (.builtin T) true (backTo pos (starEach (e::rest) env)) 0x5C) (fun a s1=>wpAny M A (call (.builtin T) ([]++a.pos) a.kw) Q E s1) E s:=by
  rw [he] at h ⊢;exact evalArgs_kwB ha h
 unfold callWith;refine A0a (A1S (A1d g (fun a s1 h1=>A0a (A2j ?_)) fun _ _ z=>z));simp only [hp,hk,Bool.or_false];exact A0a (A0d (A0a (A1d h1 (fun r s2 hr=>A0a (A1S (wpAny_point (A0d hr)))) fun _ _ z=>z)))
end
end L2
namespace M
open PySem PySem.Spec PyProof.Rows PySem.W L2
inductive um (vs:List V) (H:Hp) (Q:VK) (cD:XK):Prop
 | mk (p:Addr) (r:List V) (k:Str) (d:Int) (rest:List V) (l:List Ig) (_:vs=[.ref p]) (_:H p=some (.tup r)) (_:RowD r k d rest l) (_:∀ q H',Same H H'->H' q=some (.tup [.int d,.int ((dF k:Nat):Int),.ref p])->Q (.ref q) H'):um vs H Q cD
inductive Forms (K:W.Frag) (P:Params) (mg:Str->Option Value):Prop
 | mk (aF:Addr) (kvs:List (Prod Str V)) (_:mg "FORMS"=some (.ref aF)) (_:KD K P aF kvs) (_:kvs.map (·.1)=cJ):Forms K P mg
theorem Ah {k:Str} (h:k∈cJ):cJ[dF k]?=some k/\(∀ i,i<dF k->cJ[i]?≠some k)/\dF k<7:=by
 have a:cJ.idxOf k<cJ.length:=A3I.mpr h;refine ⟨?_,fun i hi e=>?_,a⟩
 ·unfold dF;rw [ju a,A3N a]
 ·have hl:i<cJ.length:=A5k hi a;rw [ju hl] at e;have e':=A0O e;have nd:cJ.Nodup:=by decide +kernel
  have pw:=A1f.mp nd i (cJ.idxOf k) hl a hi;exact pw (by rw [e',A3N a])
theorem Xd:aQ ["row"] ["row"] (aJ HX):=0x0
theorem U8 (F:fK K "place_in_order" "place_in_order" HX f fd) (mo:Forms K w.params mg) (ml:mg "list"=none):aL P w K mg base bN 1 f fd ["row"] um:=by
 obtain ⟨aF,kvs,mF,kF,hF⟩:=mo;refine F.ok Xd 0x1 0x3;obtain ⟨p,r,k,d,rest,l,rfl,hp,R,q⟩:=h;refine ⟨_,aG (aZ (cN (aj (aO bA 0x3A aA 0x5) (aj (jj A0H A2X A3Q sE (fY (Eb hr.hd) rfl ml o9 (aj (cY rfl mF rfl (v:=.ref aF)) aC)) (aj (aO bA 0x3A aA 0x5) aC)) (aj 0x3A aC))))),?_⟩;have e:=R.e;subst e;obtain ⟨i1,i2,i3⟩:=Ah (mX R.f);have ek:(kvs.map fun e=>V.str e.1)=cJ.map V.str:=by rw [<- hF,A0R];rfl
 have hl7:kvs.length=7:=by have:=A1v List.length hF;simpa [cJ] using this
 refine ⟨_,rfl,p,_,_,_,rfl,rfl,bR.of hp,aH (j:=1) rfl,?_⟩;refine ⟨aF,kvs,rfl,kF,by rw [hF];decide +kernel,by lia,fun z hz=>?_⟩;rw [ek];have s1:=aP hz (.lst (cJ.map V.str));refine ⟨.inl ⟨rfl,_,bT.of ao⟩,_,rfl,p,_,_,_,rfl,rfl,bR.of (s1 _ _ hp),aH (j:=0) rfl,z,cJ,k,dF k,rfl,rfl,bT.of ao,i1,i2,by lia,?_⟩;refine ⟨_,rfl,small 0xA,fun t ht=>?_⟩;exact q t _ (s1.trans (aP ht _)) ao
def iK (H:Hp) (all:List Addr) (dat:Addr->List V):Prop:=(∀ a∈all,H a=some (.tup (dat a))/\gG (dat a))/\(all.map dat).Nodup
def Fg (dat:Addr->List V) (out:List Addr):Prop:=out.Pairwise fun a b=>eY (dat a) (dat b)=true
inductive Eh (K:W.Frag) (l:Addr) (H:Hp) (Q:VK):Prop
 | mk (all:List Addr) (dat:Addr->List V) (_:bT K H l 0x4B) (_:all.length<64) (_:iK H all dat) (_:∀ D out H',Same H H'->H D=none->H' D=some (.lst (out.map V.ref))->out.Perm all->Fg dat out->Q (.ref D) H'):Eh K l H Q
inductive vO (K:W.Frag) (vs:List V) (H:Hp) (Q:VK) (cD:XK):Prop
 | mk (l:Addr) (_:vs=[.ref l]) (_:Eh K l H Q):vO K vs H Q cD
def a0V (dat:Addr->List V) (p:Addr):List V:=[.int (iy (dat p)),.int ((dF (fJ (dat p)):Nat):Int),.ref p]
theorem sG {all:List Addr} (h:iK H all dat)  (hi:i<all.length) (hj:j<all.length) (hij:i≠j):dat all[i]≠dat all[j]:=by
 have pw:=A1f.mp h.2;intro e;have li:i<(all.map dat).length:=by rw [cg];exact hi
 have lj:j<(all.map dat).length:=by rw [cg];exact hj
 rcases A4R hij with g | g
 ·exact pw i j li lj g (by simpa using e)
 ·exact pw j i lj li g (by simpa using e.symm)
section
variable {k:Nat}
theorem a0W {all ks:List Addr}{C:Bool->Shared->Prop} (hu:X.A.units+64<cLine) (I:Inv X pins σ H' s') (hrow:∀ a∈all,H' a=some (.tup (dat a))/\gG (dat a)) (KA:pL H' (a0V dat) ks all)
  (hi:i<all.length) (hj:j<all.length) (hne:dat all[i]≠dat all[j]) (hC:∀ tk,C (eY (dat all[i]) (dat all[j])) { s' with toks:=tk }) :
  wpAny 0x9 X.A.in1.in1 (keyLt' (tuples' true) ((ks.map Value.ref).getD i Value.none) ((ks.map Value.ref).getD j Value.none)) C (fun _ _=>False) s':=by
 have hi':i<ks.length:=by rw [KA.1];exact hi
 have hj':j<ks.length:=by rw [KA.1];exact hj
 rw [rZ ks i hi',rZ ks j hj'];have ki:=KA.2 i ks[i] all[i] (ju hi') (ju hi);have kj:=KA.2 j ks[j] all[j] (ju hj') (ju hj);obtain ⟨_,it1,r1,⟨o1,ho1,hc1,n1,hd1⟩⟩:=I.hok _ _ ki;obtain ⟨_,it2,r2,⟨o2,ho2,hc2,n2,hd2⟩⟩:=I.hok _ _ kj;obtain ⟨u1,r1,rfl,⟨t1,rfl⟩,r1'⟩:∃ u us,it1=u::us/\RelV (.int (iy (dat all[i]))) u/\Vals [.int ((dF (fJ (dat all[i])):Nat):Int),.ref all[i]] us:=by cases r1 with | cons a b=>exact ⟨_,_,rfl,a,b⟩
 obtain ⟨u2,r2,rfl,⟨t2,rfl⟩,r2'⟩:∃ u us,it2=u::us/\RelV (.int (iy (dat all[j]))) u/\Vals [.int ((dF (fJ (dat all[j])):Nat):Int),.ref all[j]] us:=by cases r2 with | cons a b=>exact ⟨_,_,rfl,a,b⟩
 obtain ⟨v1,w1,rfl,⟨t3,rfl⟩,rfl⟩:=vals2 r1';obtain ⟨v2,w2,rfl,⟨t4,rfl⟩,rfl⟩:=vals2 r2';obtain ⟨hpi,U9⟩:=hrow all[i] (A0N hi);obtain ⟨hpj,Ua⟩:=hrow all[j] (A0N hj);have fl:∀ r,gG r->r.all fD=true:=fun r ⟨_,_,_,_,R⟩=>R.flat;have g:=hC s'.toks;generalize all[i]=pi at *
 generalize all[j]=pj at *
 unfold eY at g;refine kat_lt ho1 hd1 ho2 hd2 ?_;refine kat_cons (A5f ?_)
 by_cases a:iy (dat pi)=iy (dat pj)
 ·rw [A0e (by simpa using a)] at g;rw [show (iy (dat pi)==iy (dat pj))=true by simpa using a]
  refine kat_yes (kat_cons (A5f ?_))
  by_cases c:dF (fJ (dat pi))=dF (fJ (dat pj))
  ·rw [A0e (by simpa using c)] at g;rw [show ((((dF (fJ (dat pi)):Nat):Int))==((dF (fJ (dat pj)):Nat):Int))=true by rw [c];simp]
   have st:=U9.same Ua c;obtain ⟨bs,rb⟩:=cO.reads I (.tup hpi (jU _ (fl _ U9))) (u:=.ref pi) rfl;obtain ⟨cs,rc⟩:=cO.reads I (.tup hpj (jU _ (fl _ Ua))) (u:=.ref pj) rfl;have q:=A5i (.tuple ((dat pi).map gK)) (.tuple ((dat pj).map gK)) X.A.in1.in1 s' _ _ bs cs rb rc (jr _ (fl _ U9)) (jr _ (fl _ Ua)) (by
    have h1:=nQ (dat pi);have h2:PyData.depth (.tuple ((dat pi).map gK))<=3:=by show PyData.depthAll ((dat pi).map gK)+1<=3;lia
    have h3:X.A.in1.in1.units<=X.A.units+32:=by show X.A.units+1+1<=X.A.units+32;lia
    lia)
   have e:PyData.eqv (.tuple ((dat pi).map gK)) (.tuple ((dat pj).map gK))=decide (dat pi=dat pj):=kY _ _ (fl _ U9) (fl _ Ua);rw [e,A0s hne] at q;refine kat_yes (kat_cons (q _ _ _ _ (kat_no ?_)));exact kat_one _ _ (KR (X:=X) (by show X.A.units+1+1+9<_;lia) I.hok hpi hpj (fl _ U9) (fl _ Ua) st hne g)
  ·rw [A0i (by simpa using c)] at g;rw [show ((((dF (fJ (dat pi)):Nat):Int))==((dF (fJ (dat pj)):Nat):Int))=false by rw [A1H];lia]
   refine kat_no (kat_one _ _ (lt_int ?_));have e:decide (((dF (fJ (dat pi)):Nat):Int)<((dF (fJ (dat pj)):Nat):Int))=decide (dF (fJ (dat pi))<dF (fJ (dat pj))):=by rw [A1i];simp
   rw [e];exact g
 ·rw [A0i (by simpa using a)] at g;rw [show (iy (dat pi)==iy (dat pj))=false by rw [A1H];exact a]
  exact kat_no (oneLt_int g)
end
end M
namespace L2
open PySem PySem.Spec PyProof.Rows PySem.W
theorem yC:∀ as:List Addr,Vals (as.map V.ref) (as.map Value.ref)
 | []=>.nil
 | _::r=>.cons rfl (yC r)
end L2
namespace M
open PySem PySem.Spec PyProof.Rows PySem.W PySem.Calls L2
theorem YQ:∀ as:List Addr,(∀ a∈as,∃ o xs n k t,h.get? a=some o/\o.cls=.type "tuple"/\o.data=.seq xs n/\xs[0]?=some (Value.int k t))->∃ fs,KatTups h (as.map Value.ref) fs/\fs.length=as.length/\∀ v∈fs,∃ k t,v=Value.int k t
 | [],_=>⟨[],.nil,rfl,fun v hv=>nomatch hv⟩
 | a::as,ha=>by
  obtain ⟨fs,t,hl,hf⟩:=YQ as fun b hb=>ha b (jh _ hb);obtain ⟨o,xs,n,k,tk,e,hc,hd,hx⟩:=ha a A0h;exact ⟨.int k tk::fs,.cons e hc hd hx t,by rw [pN,hl,pN],fun v hv=>by
   rcases List.mem_cons.mp hv with rfl | hv
   ·exact ⟨k,tk,rfl⟩
   ·exact hf v hv⟩
theorem Xe {p:Array Nat} (h:Pm n p) {all:List Addr} (hn:all.length=n):(p.toList.map fun i=>all.getD i 0).Perm all:=by
 have h1:p.toList.Perm (List.range n):=by have:=A2z.mp h;simpa using this
 have h2:=h1.map fun i=>all.getD i 0;have e:(List.range n).map (fun i=>all.getD i 0)=all:=by
  apply A5h
  ·simp [hn]
  ·intro i a b;simp only [A3t,A4S];rw [qT,ju b];rfl
 rw [e] at h2;exact h2
theorem Ii {p:Array Nat} (h:Pm n p) {m:Nat} (hm:m<p.toList.length):p.toList[m]=pat p m/\pat p m<n:=by
 have hs:m<p.size:=by rw [<- A0I];exact hm
 refine ⟨?_,h.lt (by rw [<- h.size];exact hs)⟩;unfold pat;rw [Array.getD,A5l hs];simp
section
variable {k:Nat}
theorem Ub {ta:TA}{p kp kpos:Pos} (hg:Gl X "sorted") (hm:X.mg "sorted"=none) (ha:PA X [e] ta) (hgx:Gl X x) (hmx:X.mg x=some (.ref f)) (F:aL X.prog X.w X.K X.mg X.base bN k f fd ["row"] um) (hr:cP (k+2) X.A) (hb:Binds X.K fd ["row"] [])
  (hdb:0x31=false:=by decide) (hs:starEach [e] X.env=[0x53]:=by rfl) :
  PE X (.Call (.Name "sorted" p) [e] [⟨some (Str.ofString "key"),.Name x kp,kpos⟩] pos) (fun σ H Q=>ta σ H fun vs H1=>∃ l,vs=[.ref l]/\Eh X.K l H1 Q):=by
 intro pins s σ H Q I h;refine A1T (oZ I hg hm fZ (Ag (cL (ha pos pins s σ H _ I h) fun us s1 ⟨vs,H1,I1,r1,q1⟩=>cL (VB (cY hgx hmx rfl hdb (v:=.ref f)) Zq pos pins s1 σ H1 (fun zs H2=>zs=[.ref f]/\∃ l,vs=[.ref l]/\Eh X.K l H2 Q) I1 ⟨rfl,q1⟩) fun ws s2 ⟨zs,H2,I2,r2,q2⟩=>?_) (by rw [hs];rfl) (by rw [hs];rfl) (by rfl) (by rfl)));obtain ⟨rfl,l,rfl,all,dat,hq,h64,RO,q⟩:=q2;obtain ⟨u,rfl,ru⟩:=vals1 r1;cases ru;obtain ⟨w,rfl,bG⟩:=vals1 r2;cases bG;obtain ⟨its,rv,pl,hz⟩:=I2.list hq;have a0X:=zR rv;subst a0X
 show wpAny _ _ (call (.builtin "sorted") [.ref l] [(Str.ofString "key",.ref f)]) _ _ s2
 refine call_function_entry_kw kind_sorted plain_sorted entry_sorted (ksk_s1 _ _) ?_;unfold Builtin.«sorted»;refine A0a (m:=checkCount "sorted" 1 1 _) (A0d ?_);refine A0a (collect_list pl.isList ?_ (by rw [cg,A1e];lia));refine A0a (A5e ?_ (by rw [cg,A1e];lia));have hsz:((s2.heap.push (seqObj "list" #[] 0)).update s2.heap.objs.size (Obj.mapSeq (·++(0x3C).toArray))).objs.size=s2.heap.objs.size+1:=by
  rw [Heap.size_update,size_push']
 have hoL:(((s2.heap.push (seqObj "list" #[] 0)).update s2.heap.objs.size (Obj.mapSeq (·++(0x3C).toArray))).push (seqObj "list" (0x3C).toArray 0)).get? (s2.heap.objs.size+1)=some (seqObj "list" (0x3C).toArray 0):=by
  rw [<- hsz];exact A0n _ rfl
 have keep:∀ b o,s2.heap.get? b=some o->(((s2.heap.push (seqObj "list" #[] 0)).update s2.heap.objs.size (Obj.mapSeq (·++(0x3C).toArray))).push (seqObj "list" (0x3C).toArray 0)).get? b=some o:=fun b o q=>by
  have hlt:b<s2.heap.objs.size:=A0q q;rw [Heap.get?_push_ne _ _ _ (by rw [hsz];exact A0y (A2n hlt)),A1k _ _ _ _ (A0y hlt),Heap.get?_push_ne _ _ _ (A0y hlt)];exact q
 show wpAny _ _ _ _ _ { s2 with heap:=((s2.heap.push (seqObj "list" #[] 0)).update s2.heap.objs.size (Obj.mapSeq (·++(0x3C).toArray))).push (seqObj "list" (0x3C).toArray 0) }
 rw [hsz];have I3:=I2.kept (t':=s2.toks) keep;have fa:iU X pins H2 (s2.heap.objs.size+1):=I2.uG (A2b _) (I2.hok.fresh (A2b _));have hD:H2 (s2.heap.objs.size+1)=none:=I2.hok.fresh (A2b _);refine A0a (A1S (wpAny_call_entry_kw slot_list_sort ⟨_,hoL,rfl⟩ entry_list_sort ?body (ksk_l1 _ _)))
 case body =>
  show wpAny 0x9 X.A.in1.in1 (Builtin.«list.sort» ⟨[.ref (s2.heap.objs.size+1)],[(Str.ofString "key",.ref f)]⟩) _ _ _
  rw [ksk_t1];have gD:∀ i (hi:i<all.length),all.getD i 0=all[i]:=fun i hi=>by rw [qT,ju hi];rfl
  refine HJ (kd:=a0V dat) (lt:=fun i j=>eY (dat (all.getD i 0)) (dat (all.getD j 0))) (κ:=tuples' true) F hr hb I3 fa hoL h64 ⟨fun i j k hi hj hk a b=>?_,fun i j hi hj hij c=>?_⟩ (fun p hp H' sm Q' kq=>?_) (fun h2 ks H' s' Q' hok sm KA hQ=>?_) (fun ks H' s' i j C I' sm KA hi hj hij hC=>?_) fun p s' H' e hP hU I' fa' sm hS=>?_
  ·rw [gD i hi,gD j hj] at a;rw [gD j hj,gD k hk] at b;rw [gD i hi,gD k hk];exact kZ (RO.1 _ (A0N hi)).2 (RO.1 _ (A0N hj)).2 (RO.1 _ (A0N hk)).2 a b
  ·rw [gD i hi,gD j hj] at c;rw [gD i hi,gD j hj];exact sZ (RO.1 _ (A0N hi)).2 (RO.1 _ (A0N hj)).2 (sG RO hi hj hij) c
  ·obtain ⟨hp1,kk,d,rest,ll,R⟩:=RO.1 p hp;refine ⟨p,dat p,kk,d,rest,ll,rfl,sm _ _ hp1,R,fun q' Ox s'' hq'=>kq q' Ox s'' ?_⟩;rw [hq'];unfold a0V;rw [R.e];rfl
  ·obtain ⟨fs,t,hlf,hf⟩:=YQ (h:=s'.heap) ks fun b hb'=>by
    obtain ⟨m,hm⟩:=A4b.mp hb';have hml:m<all.length:=by rw [<- KA.1];exact (A0l.mp hm).1
    obtain ⟨_,it1,r1,⟨o1,ho1,hc1,n1,hd1⟩⟩:=hok _ _ (KA.2 m b all[m] hm (ju hml));cases r1 with
    | cons a1 b1 =>
     obtain ⟨t1,rfl⟩:=a1;exact ⟨o1,_,n1,_,t1,ho1,hc1,hd1,rfl⟩
   have hz':0<fs.length:=by
    rw [hlf,KA.1];lia
   refine kat_kind (T:=Value.type "int") t hz' (fun w hw=>?_) (by rfl) ?_
   ·obtain ⟨k',tk',rfl⟩:=hf w hw;exact fun A Q E s _ q=>A0d q
   ·exact hQ
  ·rw [gD i hi,gD j hj] at hC;exact a0W hr.units I' (fun a ha'=>⟨sm _ _ (RO.1 a ha').1,(RO.1 a ha').2⟩) KA hi hj (sG RO hi hj hij) hC
  ·have lp:p.toList.length=all.length:=by rw [A0I];exact hP.size
   have hout:(p.toList.map fun i=>(all.map Value.ref).getD i Value.none)=(p.toList.map fun i=>all.getD i 0).map Value.ref:=by
    rw [A0R];refine A1I fun i hi=>?_;obtain ⟨m,hm,rfl⟩:=A1V.mp hi;obtain ⟨g1,g2⟩:=Ii hP hm;rw [g1]
    show (0x3C).getD (pat p m) Value.none=Value.ref (all.getD (pat p m) 0)
    rw [rZ all _ g2,gD _ g2]
   rw [hout] at hS;refine ⟨_,rfl,A0d ⟨_,rfl,.ref (s2.heap.objs.size+1),_,I'.track (o:=.lst ((p.toList.map fun i=>all.getD i 0).map V.ref)) fa' ⟨by rw [cg,cg,lp,A1e];lia,_,e,L2.yC _,hS⟩,rfl,?_⟩⟩;refine q _ (p.toList.map fun i=>all.getD i 0) _ (fun b o hb'=>?_) hD ao (Xe hP rfl) ?_
   ·rw [ak (aq (sm _ _ hb') fa'.1)];exact sm _ _ hb'
   ·unfold Fg;rw [A1f];intro i j hi hj hij;rw [cg] at hi hj;simp only [A3t];obtain ⟨g1,g2⟩:=Ii hP hi;obtain ⟨g3,g4⟩:=Ii hP hj;rw [g1,g3];exact hU i j hij 0x2
end
theorem Uc:aQ ["rows"] ["rows"] (aJ Ae):=0x0
theorem O4 (F:fK K "judged_order" "judged_order" Ae f fd) (ms:mg "sorted"=none)  (G1:aL P w K mg base bN 1 g1 d1 ["row"] um) (M1:Ms K mg "place_in_order" g1 d1 ["row"]):aL P w K mg base bN 4 f fd ["rows"] (vO K):=by
 refine F.ok Uc 0x1 0x3;obtain ⟨l,rfl,h⟩:=h;refine ⟨_,aG (aZ (Ub rfl ms (aj 0x3A aC) rfl M1.m G1 hr M1.b)),?_⟩;exact ⟨_,rfl,l,rfl,h⟩
end M
namespace L2
open PySem PySem.Spec PyProof.Rows PySem.W
def idxV (n:Nat) (lo hi st:Option Int):List Nat:=sliceRange (sliceBounds lo hi st n).1 (sliceBounds lo hi st n).2.1 (sliceBounds lo hi st n).2.2
def nR (xs:List V) (lo hi st:Option Int):List V:=(idxV xs.length lo hi st).filterMap (xs[·]?)
theorem sH (r:Vals xs us):∀ ix:List Nat,Vals (ix.filterMap (xs[·]?)) (ix.filterMap (us[·]?))
 | []=>.nil
 | i::ix=>by
  rw [A1O,A1O];cases e:xs[i]? with
  | none=>rw [r.none_of e];exact sH r ix
  | some x =>
   obtain ⟨u,eu,ru⟩:=r.get e;rw [eu];exact .cons ru (sH r ix)
inductive rSl3 (K:W.Frag) (x:V) (lo hi st:Option Int) (H:Hp) (Q:VK):Prop
 | mk (a:Addr) (xs:List V) (_:x=.ref a) (_:bT K H a xs) (_:st≠some 0) (_:(nR xs lo hi st).length<=1000) (_:∀ p,H p=none->Q (.ref p) (upd H p (.lst (nR xs lo hi st)))):rSl3 K x lo hi st H Q
def tSl3 (K:PySem.W.Frag) (te:TE) (tl th ts:TO):TE:=fun σ H Q=>te σ H fun x H1=>tl σ H1 fun l H2=>th σ H2 fun u H3=>ts σ H3 fun o H4=>rSl3 K x l u o H4 Q
theorem oH {lo hi:Option Expr}{st:Expr}{tl th ts:TO}{p2:Pos} (he:PE X e te) (hl:PO X lo tl) (hu:PO X hi th) (ht:PO X (some st) ts):PE X (.Subscript e (.Slice lo hi (some st) p2) pos) (tSl3 X.K te tl th ts):=by
 intro pins s σ H Q I h;refine Subscript_ (cL 0x5A fun v s1 zq=>?_);obtain ⟨x,H1,I1,r1,q1⟩:=zq;refine wpAny_Slice (cL (hl pins s1 σ H1 _ I1 q1) fun vl s2 ⟨l,H2,I2,pl,q2⟩=>cL (hu pins s2 σ H2 _ I2 q2) fun vu s3 ⟨u,H3,I3,pu,q3⟩=>cL (ht pins s3 σ H3 _ I3 q3) fun vs s4 zq=>?_);obtain ⟨o,H4,I4,po,q4⟩:=zq;obtain ⟨a,xs,rfl,hx,h0,hz,q⟩:=q4;cases r1;have I5:Inv X pins σ H4 { s4 with heap:=s4.heap.push { cls:=.type "slice",data:=.fields #[vl,vu,vs] } }:=I4.kept (t':=s4.toks) fun b ob q=>A0b _ q;obtain ⟨its,r,pl',hz'⟩:=I5.list hx;have hlen:=r.length
 show wpAny 0x9 X.A (subscriptTail e (.Slice lo hi (some st) p2) (.ref a) (.ref s4.heap.objs.size)) 0x45 X.xe { s4 with heap:=s4.heap.push { cls:=.type "slice",data:=.fields #[vl,vu,vs] } }
 refine tail_any (ops:=[.ref a,.ref s4.heap.objs.size]) pl'.isList.typeIs A4X.lookup ?_ 0x16;refine wpAny_getItem_list_slice pl'.isList (Heap.IsSliceOf.new ..) pl pu po h0 ?_ (by rw [A0r] <;> lia);have e:slicePick its.toArray l u o=(((idxV xs.length l u o).filterMap (its[·]?))).toArray:=by
  unfold slicePick idxV;rw [A0r,<- hlen];simp
 rw [e];refine ⟨.ref _,_,I5.laid (t':=s4.toks) (o:=.lst (nR xs l u o)) (fun b ob q=>A0b _ q) (A0f _) ?_,rfl,q _ (I5.hok.fresh (A0f _))⟩;exact ⟨A0M hz (by rw [A1e];decide),_,0,sH r _,A0n _ rfl⟩
inductive La (K:W.Frag) (x y:V) (H:Hp) (Q:VK):Prop
 | mk (p l:Addr) (as:List Addr) (r:List V) (rows:List (List V)) (_:x=.ref p) (_:y=.ref l) (_:bT K H l (as.map V.ref)) (_:H p=some (.tup r)) (_:r.all fD=true) (_:iJ H as rows) (_:(∀ q∈rows,q.all fD=true)) (_:Q (.bl (!rows.any fun q=>decide (q=r))) H):La K x y H Q
theorem O5 (hu:X.A.units+64<cLine):nu X (compareOp .NotIn) (La X.K):=by
 intro pins s σ H x y v u Q I rx ry h;obtain ⟨p,l,as,r,rows,rfl,rfl,hq,hp,hr,hR,hrs,q⟩:=h;cases rx;cases ry;obtain ⟨its,rv,pl,hz⟩:=I.list hq;have a0X:=zR rv;subst a0X;have read:∀ (a:Addr) (z:List V),H a=some (.tup z)->z.all fD=true->∃ bs,Reads s.heap (.ref a) (.tuple (z.map gK)) bs:=fun a z ha hz=>cO.reads I (.tup ha (jU z hz)) rfl;refine SeqAt.notIn_listAt (fun u=>match u with | .ref a=>(match H a with | some (.tup q)=>decide (q=r) | _=>false) | _=>false) pl.isList (fun w hw=>?_) ⟨.bl _,H,I,rfl,?_⟩
 ·have hw':w∈as.map Value.ref:=by simpa using hw
  obtain ⟨a,ha,rfl⟩:=A0m.mp hw';obtain ⟨z,hz1,hz2⟩:=vG hR a ha;obtain ⟨bs,rb⟩:=read a z hz2 (hrs z hz1);obtain ⟨cs,rc⟩:=read p r hp hr;have g:=A5i (.tuple (z.map gK)) (.tuple (r.map gK)) X.A.in1 s _ _ bs cs rb rc (jr z (hrs z hz1)) (jr r hr) (by
   have h1:=nQ z;have h2:PyData.depth (.tuple (z.map gK))<=3:=by show PyData.depthAll (z.map gK)+1<=3;lia
   have h3:X.A.in1.units<=X.A.units+32:=by show X.A.units+1<=X.A.units+32;lia
   lia)
  have e:PyData.eqv (.tuple (z.map gK)) (.tuple (r.map gK))=decide (z=r):=kY z r (hrs z hz1) hr;rw [e] at g
  show SeqAt.EqAt _ _ _ _ (match H a with | some (.tup q)=>decide (q=r) | _=>false)
  rw [hz2];exact g
 ·have e:=any_rows (r:=r) hR;have e2:((as.map Value.ref).toArray.any fun u=>match u with | .ref a=>(match H a with | some (.tup q)=>decide (q=r) | _=>false) | _=>false)=rows.any fun q=>decide (q=r):=by
   (rw [<- e,List.any_toArray]) <;> rfl
  rw [e2];exact q
end L2
namespace M
open PySem PySem.Spec PyProof.Rows PySem.W PySem.Calls L2
theorem Ud {k k':Str}{d d':Int}{rest rest':List V}:eY (.str k::.int d::rest) (.str k'::.int d'::rest')=if d≠d' then decide (d<d') else if dF k≠dF k' then decide (dF k<dF k') else mZ (.str k::.int d::rest) (.str k'::.int d'::rest'):=rfl
inductive Ai (vs:List V) (H:Hp) (Q:VK) (cD:XK):Prop
 | mk (p q:Addr) (r s:List V) (_:vs=[.ref p,.ref q]) (_:H p=some (.tup r)) (_:H q=some (.tup s)) (_:gG r) (_:gG s) (_:r≠s) (_:∀ H',Same H H'->Q (.bl (eY r s)) H'):Ai vs H Q cD
theorem Lb:aQ ["_law_one", "_law_other", "_law_kinds_here"] A6d (aJ Ib):=0x0
theorem Ue (F:fK K "_law_ahead" "_law_ahead" Ib f fd)  (G1:aL P w K mg base bN 1 g1 d1 [] KZ) (M1:Ms K mg "_law_kinds" g1 d1 []):aL P w K mg base bN 2 f fd A6d Ai:=by
 refine F.ok Lb 0x1 0x3;obtain ⟨p,q,r,s',rfl,hp,hq,hr',hs',hne,kk⟩:=h;have hir:=hr';have his:=hs';obtain ⟨k,d,rest,l,R⟩:=hr';obtain ⟨k',d',rest',l',S⟩:=hs';have e1:=R.e;have e2:=S.e;subst e1 e2;refine ⟨_,au (bQ (aV oV (aO bA 0x3A aA 0x5) 0x19 (bH _))
   (aG (aZ (jd pR (aO bA 0x3A aA 0x5) 0x19 (bH _)))) aX)
  (au (aU (i:=2) Lb.nd rfl 0x8 (Q0 G1 hr rfl M1.m M1.k M1.b .nil aY))
  (au (bQ (aV oV (aO bA 0x3A aA 0x5) 0x19 (bH _))
   (aG (aZ (jd pR (jj A0H A2X A3Q sE (pv 2) (aj (aO bA 0x3A aA 0x5) aC)) (jj A0H A2X A3Q sE (pv 2) (aj 0x19 aC)) (bH _)))) aX)
  (aG (aZ (jd (a0U hr.units) 0x3A 0x11 (bH _)))))),?_⟩
 have Vr:=fun H' s=>by have g:=kk H' s;rw [Ud] at g;exact g
 refine ⟨_,rfl,p,_,_,_,rfl,rfl,bR.of hp,aH (j:=1) rfl,_,rfl,q,_,_,_,rfl,rfl,bR.of hq,aH (j:=1) rfl,rfl,_,rfl,?_⟩
 by_cases a:d=d'
 ·subst a;rw [A0j rfl];refine cu ?_;refine ⟨rfl,fun z hz=>?_⟩;have ek:U6=cJ.map V.str:=rfl;rw [ek]
  apply 0o1 H z hz s1 z1 H1
  have hp1:=s1 _ _ hp;have hq1:=s1 _ _ hq;refine ⟨_,rfl,p,_,_,_,rfl,rfl,bR.of hp1,aH (j:=0) rfl,_,rfl,q,_,_,_,rfl,rfl,bR.of hq1,aH (j:=0) rfl,rfl,_,rfl,?_⟩;have g:=Vr H1 s1;rw [A0e (show ¬ (d≠d) from fun z=>z rfl)] at g
  by_cases c:k=k'
  ·subst c;rw [A0j rfl];refine cu ?_;rw [A0e (show ¬ (dF k≠dF k) from fun z=>z rfl)] at g
   exact ⟨_,rfl,_,rfl,p,q,_,_,rfl,rfl,hp1,hq1,R.flat,S.flat,hir.same his rfl,hne,g⟩
  ·rw [A0s (fun z=>c (by injection z))];refine dB ?_;have ci:dF k≠dF k':=fun z=>c (Ed (mX R.f) (mX S.f) z);rw [A0i ci] at g;obtain ⟨i1,i2,i3⟩:=Ah (mX R.f);obtain ⟨j1,j2,j3⟩:=Ah (mX S.f);refine ⟨_,rfl,.inl ⟨rfl,_,bT.of z1⟩,_,rfl,p,_,_,_,rfl,rfl,bR.of hp1,aH (j:=0) rfl,z,cJ,k,dF k,rfl,rfl,bT.of z1,i1,i2,by lia,?_⟩;refine ⟨_,rfl,.inl ⟨rfl,_,bT.of z1⟩,_,rfl,q,_,_,_,rfl,rfl,bR.of hq1,aH (j:=0) rfl,z,cJ,k',dF k',rfl,rfl,bT.of z1,j1,j2,by lia,?_⟩;refine ⟨_,_,rfl,rfl,?_⟩;have e:decide (((dF k:Nat):Int)<((dF k':Nat):Int))=decide (dF k<dF k'):=by rw [A1i];simp
   dsimp only;rw [e];exact g
 ·rw [A0s (fun z=>a (by injection z))];refine dB ?_;refine ⟨_,rfl,p,_,_,_,rfl,rfl,bR.of hp,aH (j:=1) rfl,_,rfl,q,_,_,_,rfl,rfl,bR.of hq,aH (j:=1) rfl,_,_,rfl,rfl,?_⟩;have g:=Vr H (Same.refl _);rw [A0i a] at g;exact g
inductive vP (K:W.Frag) (vs:List V) (H:Hp) (Q:VK) (cD:XK):Prop
 | mk (l:Addr) (_:vs=[.ref l]) (_:Eh K l H Q):vP K vs H Q cD
theorem Ij {out:List Addr} (h:Fg dat out) (hrow:∀ a∈p::out,gG (dat a)) (hne:∀ a∈out,dat a≠dat p) (hj:j<=out.length) (hlo:∀ m (hm:m<out.length),m<j->eY (dat out[m]) (dat p)=true)
  (hhi:∀ (hj':j<out.length),eY (dat out[j]) (dat p)=false):Fg dat (out.take j++p::out.drop j):=by
 unfold Fg at h ⊢;rw [A3q];have hp:gG (dat p):=hrow p A0h;have bG:∀ a∈out,gG (dat a):=fun a ha=>hrow a (jh _ ha);have lo:∀ a∈out.take j,eY (dat a) (dat p)=true:=fun a ha=>by
  obtain ⟨m,hm,rfl⟩:=A1V.mp ha;rw [A0G] at hm;rw [A5c];exact hlo m 0x2 0x2
 have hi:∀ b∈out.drop j,eY (dat p) (dat b)=true:=fun b hb=>by
  obtain ⟨m,hm,rfl⟩:=A1V.mp hb;rw [A1z] at hm;rw [List.getElem_drop];have hj':j<out.length:=by lia
  have first:=sZ (bG _ (A0N hj')) hp (hne _ (A0N hj')) (hhi hj')
  by_cases hm0:m=0
  ·subst hm0;exact first
  ·have pw:=A1f.mp h j (j+m) hj' 0x2 0x2;exact kZ hp (bG _ (A0N hj')) (bG _ (A0N _)) first pw
 refine ⟨h.sublist (List.take_sublist _ _),List.pairwise_cons.mpr ⟨hi,h.sublist (List.drop_sublist _ _)⟩,fun a ha b hb=>?_⟩;rcases List.mem_cons.mp hb with rfl | hb
 ·exact lo a ha
 ·exact kZ (bG a (A2l ha)) hp (bG b (A3o hb)) (lo a ha) (hi b hb)
theorem nU:aQ ["_law_rows_here", "_law_found", "_law_row_here", "_law_at"] ["_law_rows_here"] (aJ Af):=0x0
theorem O6 (F:fK K "_law_sorted" "_law_sorted" Af f fd) (mn:mg "len"=none)  (G1:aL P w K mg base bN 2 g1 d1 A6d Ai) (M1:Ms K mg "_law_ahead" g1 d1 A6d):aL P w K mg base bN 3 f fd ["_law_rows_here"] (vP K):=by
 refine F.ok nU 0x1 0x3;obtain ⟨l,rfl,all,dat,hq,h64,RO,q⟩:=h;refine ⟨_,au (aU (i:=1) nU.nd rfl 0x8 (eG aC))
  (au (iz A0W rfl (gH 0x3A) (bD (i:=2) nU.nd rfl 0x8)
   (au (aU (i:=3) nU.nd rfl 0x8 aA)
   (au (lO A0W (PW.pt (pA (aV pR (pv 3) (bF dI rfl mn A1y 0x33) (bH _)) (mq (dU (bC G1 hr rfl M1.m M1.k M1.b .nil aY (aj (aO bI 0x11 (pv 3) 0x5) 0x3D))))))
    (aG (aU (i:=3) nU.nd rfl 0x8 (aR dH (pv 3) aA))))
   (aG (bO (jj A0H PySem.F.slot_list_insert PySem.F.type_list_insert NZ 0x11 (aj (pv 3) 0x3D)))))))
  (aG (aZ 0x11))),?_⟩
 refine ⟨small 0xA,fun D hD=>?_⟩;have s1:=aP hD (.lst []);refine ⟨_,rfl,l,rfl,⟨_,s1.seq hq⟩,?_⟩;refine iB (K:=K) (a:=l) (xs:=all.map V.ref) (fun i σ Hx=>∃ (u2 u3:Option V) (out:List Addr),σ=[some (.ref l),some (.ref D),u2,u3]/\Same H Hx/\Hx D=some (.lst (out.map V.ref))/\out.Perm (all.take i)/\Fg dat out) ⟨none,none,[],rfl,s1,ao,by simp,List.Pairwise.nil⟩
  (fun i σ Hx _ h=>by obtain ⟨_,_,_,_,sx,_⟩:=h;exact sx.seq hq) ?_ ?_
 ·rintro i v σ Hx hv ⟨u2,u3,out,rfl,sx,dx,hp,hu⟩;rw [jY] at hv;obtain ⟨p,hpi,rfl⟩:=A0w.mp hv;have hil:i<all.length:=(A0l.mp hpi).1;have epi:all[i]=p:=(A0l.mp hpi).2;have mem:∀ a∈out,a∈all:=fun a ha=>A2l (hp.mem_iff.mp ha);have a0Y:p∈all:=wD hpi;have lo:out.length<=64:=by rw [hp.length_eq,A0G];lia
  have ne:∀ a∈out,dat a≠dat p:=fun a ha=>by
   obtain ⟨m,hm,rfl⟩:=A1V.mp (hp.mem_iff.mp ha);rw [A0G] at hm;rw [A5c,<- epi];exact sG RO 0x2 hil 0x2
  refine ⟨fun m σ Hy=>∃ j:Nat,m=out.length - j/\j<=out.length/\σ=[some (.ref l),some (.ref D),some (.ref p),some (.int ((j:Nat):Int))]/\Same H Hy/\Hy D=some (.lst (out.map V.ref))/\∀ m (hm:m<out.length),m<j->eY (dat out[m]) (dat p)=true,⟨_,0,rfl,A0Z _,rfl,sx,dx,fun m _ h=>absurd h (A5m _)⟩,?_⟩;rintro m σ Hy ⟨j,rfl,hj,rfl,sy,dy,hlo⟩;have fin:∀ Hz,Same H Hz->Hz D=some (.lst (out.map V.ref))->(∀ (hj':j<out.length),eY (dat out[j]) (dat p)=false)->∃ (u2 u3:Option V) (out':List Addr),[some (V.ref l),some (.ref D),some (.ref p),some (.int ((j:Nat):Int))]=[some (V.ref l),some (.ref D),u2,u3]/\Same H (upd Hz D (.lst ((out.map V.ref).take j++V.ref p::(out.map V.ref).drop j)))/\(upd Hz D (.lst ((out.map V.ref).take j++V.ref p::(out.map V.ref).drop j))) D=some (.lst (out'.map V.ref))/\out'.Perm (all.take (i+1))/\Fg dat out':=fun Hz sz dz hhi=>by
   refine ⟨_,_,out.take j++p::out.drop j,rfl,bL sz hD,by rw [ao];simp,?_,Ij hu (fun a ha=>?_) ne hj hlo hhi⟩
   ·rw [A1o,hpi];have h1:(out.take j++p::out.drop j).Perm (p::(out.take j++out.drop j)):=List.perm_middle;rw [A4c] at h1;refine h1.trans ?_;have h2:(all.take i++[p]).Perm (p::all.take i):=by
     have:=List.perm_middle (a:=p) (l₁:=all.take i) (l₂:=[])
     simpa using this
    exact ((List.perm_cons p).mpr hp).trans h2.symm
   ·rcases List.mem_cons.mp ha with rfl | ha
    ·exact (RO.1 _ a0Y).2
    ·exact (RO.1 _ (mem a ha)).2
  refine ⟨_,rfl,_,rfl,D,_,rfl,.inl (bT.of dy),_,_,rfl,rfl,_,rfl,?_⟩;rw [cg]
  by_cases hjl:j<out.length
  ·rw [A0j (show ((j:Nat):Int)<((out.length:Nat):Int) by lia)]
   refine dB ?_;have hm:=mem _ (A0N hjl);refine ⟨_,rfl,_,rfl,D,_,_,V.ref out[j],rfl,rfl,bT.of dy,aH (by rw [jY,ju hjl];rfl),_,rfl,out[j],p,dat out[j],dat p,rfl,sy _ _ (RO.1 _ hm).1,sy _ _ (RO.1 _ a0Y).1,(RO.1 _ hm).2,(RO.1 _ a0Y).2,ne _ (A0N hjl),fun Hz sz=>⟨_,rfl,?_⟩⟩;have tz:=sy.trans sz;have dz:=sz _ _ dy;cases el:eY (dat out[j]) (dat p) with
   | true =>
    refine ⟨fun σ' H'=>∃ j':Nat,out.length - j'<out.length - j/\j'<=out.length/\σ'=[some (.ref l),some (.ref D),some (.ref p),some (.int ((j':Nat):Int))]/\Same H H'/\H' D=some (.lst (out.map V.ref))/\∀ m (hm:m<out.length),m<j'->eY (dat out[m]) (dat p)=true,fun σ' H' ⟨j',a1,a2,a3,a4,a5,a6⟩=>⟨_,a1,j',rfl,a2,a3,a4,a5,a6⟩,?_⟩;refine ⟨_,rfl,_,_,rfl,rfl,j+1,by lia,by lia,?_,tz,dz,fun m hm hmj=>?_⟩
    ·rfl
    ·by_cases e:m=j
     ·subst e;exact el
     ·exact hlo m hm 0x2
   | false =>
    refine ⟨_,rfl,.inl ⟨rfl,_,bT.of dz⟩,_,rfl,_,rfl,D,_,j,_,rfl,rfl,dz,by rw [cg];exact hj,by rw [cg];lia,?_⟩;exact fin Hz tz dz fun _=>el
  ·rw [A0s (show ¬ ((j:Nat):Int)<((out.length:Nat):Int) by lia)]
   refine cu ?_;refine ⟨_,rfl,.inl ⟨rfl,_,bT.of dy⟩,_,rfl,_,rfl,D,_,j,_,rfl,rfl,dy,by rw [cg];exact hj,by rw [cg];lia,?_⟩;exact fin Hy sy dy fun h=>absurd h hjl
 ·rintro σ Hx ⟨u2,u3,out,rfl,sx,dx,hp,hu⟩;rw [cg,A1h] at hp;exact ⟨_,rfl,q D out Hx sx hD dx hp hu⟩
theorem vQ {α:Type}:∀ (bs pre:List α),(List.range' pre.length bs.length).filterMap (fun i=>(pre++bs)[i]?)=bs
 | [],pre=>rfl
 | x::bs,pre=>by
  rw [pN,List.range'_succ,A1O];have e:(pre++x::bs)[pre.length]?=some x:=by simp
  rw [e];have ih:=vQ bs (pre++[x]);rw [iT,A0t,A2J] at ih;simp only [A2f,A2p] at ih
  show x::_=x::bs
  rw [ih]
theorem yD {bs:List Addr} (h:ix.Perm (List.range bs.length)):(ix.filterMap (bs[·]?)).Perm bs:=by
 have g:=h.filterMap (bs[·]?);have e:=vQ bs [];simp only [A2p,A4r] at e;rw [List.range_eq_range'] at g;rw [e] at g;exact g
theorem mj (bs:List Addr):∀ ix:List Nat,ix.filterMap ((bs.map V.ref)[·]?)=(ix.filterMap (bs[·]?)).map V.ref
 | []=>rfl
 | i::ix=>by
  rw [A1O,A1O,jY];cases bs[i]? with
  | none=>exact mj bs ix
  | some b=>rw [A0g,<- mj bs ix];rfl
theorem a0Z:∀ n:_root_.Fin 25,(idxV n.val none none (some (-1))).isPerm (List.range n.val)=true:=by decide +kernel
theorem a00:∀ n:_root_.Fin 25,(idxV n.val (some 1) none (some 2)++idxV n.val none none (some 2)).isPerm (List.range n.val)=true:=by decide +kernel
theorem Ug {bs:List Addr} (h:bs.length<=24):∃ cs:List Addr,nR (bs.map V.ref) none none (some (-1))=cs.map V.ref/\cs.Perm bs:=by
 unfold nR;rw [cg,mj];exact ⟨_,rfl,yD (List.isPerm_iff.mp (a0Z ⟨bs.length,by lia⟩))⟩
theorem Uh {bs:List Addr} (h:bs.length<=24):∃ cs ds:List Addr,nR (bs.map V.ref) (some 1) none (some 2)=cs.map V.ref/\nR (bs.map V.ref) none none (some 2)=ds.map V.ref/\(cs++ds).Perm bs:=by
 unfold nR;rw [cg,mj,mj];refine ⟨_,_,rfl,rfl,?_⟩;rw [<- List.filterMap_append];exact yD (List.isPerm_iff.mp (a00 ⟨bs.length,by lia⟩))
inductive Aj (K:W.Frag) (vs:List V) (H:Hp) (Q:VK) (cD:XK):Prop
 | mk (l:Addr) (n:Int) (all:List Addr) (_:vs=[.ref l,.int n]) (_:wB n) (_:bT K H l 0x4B) (_:all.length<=24) (_:∀ (D:Addr) (out:List Addr) (H':Hp),Same H H'->H' D=some (.lst (out.map V.ref))->out.Perm all->Q (.ref D) H'):Aj K vs H Q cD
theorem Ui {all:List Addr} (h:j<=all.length):gw 0x4B (some ((j:Nat):Int)) none=(all.drop j).map V.ref:=by
 unfold gw;have e2:HT.eV (0x4B).length (0x4B).length none=(0x4B).length:=rfl;rw [e2,HT.kE,cg,A2q h,A3b (by rw [A1z,cg];exact A0f _),List.map_drop]
theorem a01 {all:List Addr} (h:j<=all.length):gw 0x4B none (some ((j:Nat):Int))=(all.take j).map V.ref:=by
 unfold gw;have e1:HT.eV (0x4B).length 0 none=0:=rfl;rw [e1,HT.kE,A4N,Nat.sub_zero,cg,A2q h,List.map_take]
theorem qK:aQ ["_law_rows_here", "_law_number", "_law_at", "_law_turned"] A6g (aJ Ie):=0x0
theorem Uj (F:fK K "_law_mixed" "_law_mixed" Ie f fd) (mn:mg "len"=none):aL P w K mg base bN 1 f fd A6g (Aj K):=by
 refine F.ok qK 0x1 0x3;obtain ⟨l,n,all,rfl,on,hq,h24,q⟩:=h;refine ⟨_,au (aU (i:=2) qK.nd rfl 0x8 (aR bY 0x11 (aR dH (bF dI rfl mn A1y (aj 0x3A aC)) aA)))
  (au (aU (i:=3) qK.nd rfl 0x8 (aR pC (dY jC 0x3A (cA (pv 2)) fj) (dY jC 0x3A fj (cA (pv 2)))))
  (au (bQ (aV dO (aR bY (aR jB 0x11 aA) aA) aA (bH _)) (aG (aU (i:=3) qK.nd rfl 0x8 (oH (pv 3) fj fj (cA (wM rC aA))))) aX)
  (au (bQ (aV dO (aR bY (aR jB 0x11 aA) aA) aA (bH _)) (aG (aU (i:=3) qK.nd rfl 0x8 (aR pC (oH (pv 3) (cA aA) fj (cA aA)) (oH (pv 3) fj fj (cA aA))))) aX)
  (aG (aZ (pv 3)))))),?_⟩
 have pos:(0:Int)<((0x4B).length:Int)+1:=by lia
 refine ⟨_,rfl,_,rfl,l,_,rfl,.inl hq,_,_,rfl,rfl,_,_,rfl,rfl,pos,?_⟩;have m0:=A0Q n (A3X pos);have m1:=A0J n pos;rw [cg] at m0 m1 ⊢;obtain ⟨j,hj⟩:∃ j:Nat,n % ((all.length:Int)+1)=((j:Nat):Int):=⟨_,(Int.toNat_of_nonneg m0).symm⟩;have hjl:j<=all.length:=by lia
 dsimp only;rw [hj];refine ⟨_,rfl,_,rfl,_,rfl,l,_,rfl,hq,fun p1 hp1=>?_⟩;rw [Ui hjl]
 apply 0o1 H p1 hp1 s1 k1 H1
 refine ⟨_,rfl,_,rfl,_,rfl,l,_,rfl,s1.seq hq,fun p2 hp2=>?_⟩;rw [a01 hjl]
 apply 0o1 H1 p2 hp2 s2 k2 H2
 have k12:=s2 _ _ k1;have t2:=s1.trans s2;refine ⟨p1,p2,_,_,rfl,rfl,k12,k2,small (by simp;lia),fun p3 hp3=>?_⟩;rw [<- jP]
 apply 0o1 H2 p3 hp3 s3 k3 H3
 have t3:=t2.trans s3;have pm:(all.drop j++all.take j).Perm all:=by
  have:=List.perm_append_comm (l₁:=all.drop j) (l₂:=all.take j);rw [A4c] at this;exact this
 have pl:=pm.length_eq;generalize all.drop j++all.take j=bs at k3 pm pl ⊢;have bl:bs.length<=24:=by lia
 refine 0x43
 by_cases c1:n / 7 % 3=1
 ·rw [A0j (show V.int (n / 7 % 3)=V.int 1 by rw [c1])]
  refine dB ?_;obtain ⟨cs,e1,pc⟩:=Ug bl;refine ⟨_,rfl,_,rfl,_,rfl,p3,_,rfl,bT.of k3,by decide,by rw [e1,cg,pc.length_eq];lia,fun p4 X6=>?_⟩;rw [e1];have s4:=aP X6 (.lst (cs.map V.ref));refine 0x43
  rw [A0s (show ¬ V.int (n / 7 % 3)=V.int 2 by rw [c1];intro z;injection z with z;exact absurd z 0x7)]
  refine cu ?_;exact ⟨_,rfl,q p4 cs _ (t3.trans s4) ao (pc.trans pm)⟩
 ·rw [A0s (show ¬ V.int (n / 7 % 3)=V.int 1 from fun z=>c1 (by injection z))]
  refine cu ?_;refine 0x43
  by_cases c2:n / 7 % 3=2
  ·rw [A0j (show V.int (n / 7 % 3)=V.int 2 by rw [c2])]
   refine dB ?_;obtain ⟨cs,ds,e1,e2,pc⟩:=Uh bl;have ll:=pc.length_eq;rw [iT] at ll;refine ⟨_,rfl,_,rfl,_,rfl,p3,_,rfl,bT.of k3,by decide,by rw [e1,cg];lia,fun p4 X6=>?_⟩;rw [e1]
   apply 0o1 H3 p4 X6 s4 k4 H4
   have k34:=s4 _ _ k3;have t4:=t3.trans s4;refine ⟨_,rfl,_,rfl,p3,_,rfl,bT.of k34,by decide,by rw [e2,cg];lia,fun p5 Vq=>?_⟩;rw [e2]
   apply 0o1 H4 p5 Vq s5 k5 H5
   have k45:=s5 _ _ k4;have t5:=t4.trans s5;refine ⟨p4,p5,_,_,rfl,rfl,k45,k5,small (by simp;lia),fun p6 hp6=>?_⟩;rw [<- jP];exact ⟨_,rfl,q p6 (cs++ds) _ (t5.trans (aP hp6 _)) ao (pc.trans pm)⟩
  ·rw [A0s (show ¬ V.int (n / 7 % 3)=V.int 2 from fun z=>c2 (by injection z))]
   refine cu ?_;exact ⟨_,rfl,q p3 bs _ t3 k3 pm⟩
abbrev Ak:Stmt:=top 46
structure Bq where
 d:Int
 g:Addr
 rs:List Addr
def qW (gs:List Bq):List 0x61:=gs.map fun x=>(Sum.inl x.d,V.ref x.g)
def Le (H:Hp) (gs:List Bq):Prop:=∀ x∈gs,H x.g=some (.lst (x.rs.map V.ref))
structure Ei (dat:Addr->List V) (gs:List Bq) (out:List Addr):Prop where
 cat:(gs.map (·.rs)).flatten=out
 day:∀ x∈gs,∀ a∈x.rs,iy (dat a)=x.d
 up:gs.Pairwise fun x y=>x.d<y.d
 nd:(gs.map (·.g)).Nodup
 ne:∀ x∈gs,x.rs≠[]
theorem O7 {s:List V} (h:eY r s=true):iy r<=iy s:=by
 unfold eY at h
 by_cases e:iy r=iy s
 ·lia
 ·rw [A0i e] at h;exact Int.le_of_lt (sS h)
theorem Ei.Uk {gs:List Bq}{x:Bq}{o:List Addr} (h:Ei dat (gs++[x]) o) (e:iy (dat p)=x.d):Ei dat (gs++[⟨x.d,x.g,x.rs++[p]⟩]) (o++[p]):=by
 have hc:=h.cat;refine ⟨?_,fun y hy a ha=>?_,?_,?_,fun y hy=>?_⟩
 ·rw [jP,A2T] at hc ⊢;rw [<- hc];simp
 ·rcases A0v.mp hy with c | c
  ·exact h.day y (A1m _ c) a ha
  ·rw [A0c.mp c] at ha ⊢;rcases A0v.mp ha with c | c
   ·exact h.day x 0xA a c
   ·rw [A0c.mp c];exact e
 ·have:=h.up;rw [A3q] at this ⊢;exact ⟨this.1,List.pairwise_singleton ..,fun a ha b hb=>by rw [A0c.mp hb];exact this.2.2 a ha x 0xA⟩
 ·have:=h.nd;rw [jP] at this ⊢;exact this
 ·rcases A0v.mp hy with c | c
  ·exact h.ne y (A1m _ c)
  ·rw [A0c.mp c];simp
theorem Ei.Xf {gs:List Bq}{o:List Addr}{g:Addr}{d:Int} (h:Ei dat gs o) (hd:iy (dat p)=d) (lt:∀ x∈gs,x.d<d) (hg:∀ x∈gs,x.g≠g):Ei dat (gs++[⟨d,g,[p]⟩]) (o++[p]):=by
 refine ⟨?_,fun y hy a ha=>?_,?_,?_,fun y hy=>?_⟩
 ·rw [jP,A2T,h.cat];simp
 ·rcases A0v.mp hy with c | c
  ·exact h.day y c a ha
  ·rw [A0c.mp c] at ha ⊢;rw [A0c.mp ha];exact hd
 ·rw [A3q];exact ⟨h.up,List.pairwise_singleton ..,fun a ha b hb=>by rw [A0c.mp hb];exact lt a ha⟩
 ·rw [jP,A1Z];refine ⟨h.nd,by simp,fun a ha b hb=>?_⟩;obtain ⟨x,hx,rfl⟩:=A0m.mp ha;simp at hb;rw [hb];exact hg x hx
 ·rcases A0v.mp hy with c | c
  ·exact h.ne y c
  ·rw [A0c.mp c];simp
theorem Ej:∀ {gs:List Bq}{d:Int},bJ (qW gs) (.inl d)=none->∀ x∈gs,x.d≠d
 | [],_,_,x,hx=>nomatch hx
 | y::gs,d,h,x,hx=>by
  by_cases e:y.d=d
  ·unfold qW bJ at h;rw [A0g,A1M (by simp [e])] at h;cases h
  ·rcases List.mem_cons.mp hx with rfl | c
   ·exact e
   ·refine Ej (gs:=gs) ?_ x c;unfold qW bJ at h ⊢;rw [A0g,A1x (by simp;exact e)] at h;exact h
theorem Ek:∀ {gs:List Bq}{d:Int}{v:V},bJ (qW gs) (.inl d)=some v->∃ x∈gs,x.d=d/\v=.ref x.g
 | [],_,_,h=>by cases h
 | y::gs,d,v,h=>by
  by_cases e:y.d=d
  ·unfold qW bJ at h;rw [A0g,A1M (by simp [e])] at h;injection h with h;exact ⟨y,A0h,e,h.symm⟩
  ·obtain ⟨x,hx,h1,h2⟩:=Ek (gs:=gs) (d:=d) (v:=v) (by
    unfold qW bJ at h ⊢;rw [A0g,A1x (by simp;exact e)] at h;exact h)
   exact ⟨x,jh _ hx,h1,h2⟩
theorem Xg {gs:List Bq}{d:Int}{g:Addr}{rs:List Addr} (h:∀ x∈gs,x.d≠d):putK (qW gs) (.inl d) (.ref g)=qW (gs++[⟨d,g,rs⟩]):=by
 have hf:(qW gs).any (fun kv=>decide (kv.1=(Sum.inl d:Key)))=false:=by
  rw [A3R];intro kv hkv;obtain ⟨a,ha,rfl⟩:=A0m.mp hkv;simp only [A1J];exact fun z=>h a ha (by injection z)
 unfold putK;rw [A0e (by rw [hf];exact A0o)];unfold qW;rw [jP];rfl
theorem Xh {gs:List Bq} (up:gs.Pairwise fun x y=>x.d<y.d) {x:Bq} (hx:x∈gs) (le:∀ y∈gs,y.d<=x.d):∃ g0,gs=g0++[x]:=by
 obtain ⟨s,t,rfl⟩:=List.append_of_mem hx;have h2:=(A3q.mp up).2.1;cases t with
 | nil=>exact ⟨s,rfl⟩
 | cons y t =>
  have h3:=(List.pairwise_cons.mp h2).1 y 0xA;have h4:=le y 0xA;lia
inductive vR (K:W.Frag) (vs:List V) (H:Hp) (Q:VK) (cD:XK):Prop
 | mk (l:Addr) (all:List Addr) (dat:Addr->List V) (_:vs=[.ref l]) (_:bT K H l 0x4B) (_:all.length<64) (_:iK H all dat) (_:∀ D gs out H',Same H H'->H D=none->H' D=some (.dK (qW gs))->Le H' gs->Ei dat gs out->out.Perm all->Fg dat out->(∀ x∈gs,H x.g=none)->Q (.ref D) H'):vR K vs H Q cD
theorem vU:aQ ["rows", "days", "row"] ["rows"] (aJ Ak):=0x0
theorem O8 (F:fK K "by_days" "by_days" Ak f fd)  (G1:aL P w K mg base bN 4 g1 d1 ["rows"] (vO K)) (M1:Ms K mg "judged_order" g1 d1 ["rows"]):aL P w K mg base bN 5 f fd ["rows"] (vR K):=by
 refine F.ok vU 0x1 0x3;obtain ⟨l,all,dat,rfl,hl,h64,RO,q⟩:=h;refine ⟨_,au (aU (i:=1) vU.nd rfl 0x8 jm)
  (au (iz A0W rfl (gH (bC G1 hr rfl M1.m M1.k M1.b .nil aY (aj 0x3A aC))) (bD (i:=2) vU.nd rfl 0x8)
   (aG (bO (jj A0H A0T A0U dR (Tw 0x11 (aO bA (pv 2) aA 0x5) (eG aC) ⟨rfl,rfl,rfl,rfl⟩) 0x3D))))
  (aG (aZ 0x11))),?_⟩
 intro D hD;have s1:=aP hD (.dK []);refine ⟨_,rfl,l,rfl,all,dat,s1.seq hl,h64,⟨fun a ha=>⟨s1 _ _ (RO.1 a ha).1,(RO.1 a ha).2⟩,RO.2⟩,fun S out H2 s2 hS0 hS hp hu=>⟨S,rfl,⟨_,bT.of hS⟩,?_⟩⟩;have s12:=s1.trans s2;have row:∀ a∈out,H a=some (.tup (dat a))/\gG (dat a):=fun a ha=>RO.1 a (hp.mem_iff.mp ha);have hol:out.length<64:=by rw [hp.length_eq];exact h64
 have hS1:H S=none:=s1.free hS0;refine iB (K:=K) (a:=S) (xs:=out.map V.ref) (fun i σ Hx=>∃ (u:Option V) (gs:List Bq),σ=[some (.ref l),some (.ref D),u]/\Same H Hx/\Hx S=some (.lst (out.map V.ref))/\Hx D=some (.dK (qW gs))/\Le Hx gs/\Ei dat gs (out.take i)/\(∀ x∈gs,H x.g=none/\x.g≠S)/\gs.length<=i)
  ⟨none,[],rfl,s12,hS,s2 _ _ ao,(fun x hx=>nomatch hx),⟨rfl,(fun x hx=>nomatch hx),.nil,.nil,(fun x hx=>nomatch hx)⟩,(fun x hx=>nomatch hx),A0Z _⟩ (fun i σ Hx _ h=>by obtain ⟨_,_,_,_,h,_⟩:=h;exact bT.of h) ?_ ?_
 ·rintro i v σ Hx hv ⟨u,gs,rfl,sx,YS,O9,GA,GO,fr,hgl⟩;rw [jY] at hv;obtain ⟨p,hpi,rfl⟩:=A0w.mp hv;have hil:i<out.length:=(A0l.mp hpi).1;have pm:p∈out:=wD hpi;have tk:out.take (i+1)=out.take i++[p]:=by rw [A1o,hpi];rfl
  obtain ⟨hpt,k0,d,rest,lf,RD⟩:=row p pm;have hpx:=sx _ _ hpt;have ed:iy (dat p)=d:=by rw [RD.e];rfl
  have a1:wX (dat p) 1=some (.int d):=aH (j:=1) (by rw [RD.e];rfl);have le:∀ x∈gs,x.d<=d:=fun x hx=>by
   obtain ⟨a,ha⟩:=List.exists_mem_of_ne_nil _ (GO.ne x hx);have hm:a∈out.take i:=by rw [<- GO.cat];exact List.mem_flatten.mpr ⟨_,A0m.mpr ⟨x,hx,rfl⟩,ha⟩
   rw [<- GO.day x hx a ha,<- ed];obtain ⟨j,hj,rfl⟩:=A1V.mp hm;rw [A0G] at hj;rw [A5c];have:=A1f.mp hu j i 0x2 hil 0x2;rw [(A0l.mp hpi).2] at this;exact O7 this
  have nDS:D≠S:=aK O9 YS 0x4;refine ⟨_,rfl,D,rfl,.inl ⟨_,.inl O9⟩,_,rfl,p,_,_,_,rfl,rfl,bR.of hpx,a1,small 0xA,fun e he=>?_⟩;have nDe:D≠e:=aq O9 he;have nSe:S≠e:=aq YS he;have se:=aP he (.lst []);refine ⟨qW gs,.inl d,by rw [ak nDe];exact O9,rfl,bU (by rw [show (qW gs).length=gs.length from cg ..];lia),fun v hv=>?_,fun hn=>?_⟩
  ·obtain ⟨x,hx,hxd,rfl⟩:=Ek hv;obtain ⟨g0,rfl⟩:=Xh GO.up hx (fun y hy=>by rw [hxd];exact le y hy);have gx:=se _ _ (GA x hx);have nxD:x.g≠D:=aK gx (by rw [ak nDe];exact O9) 0x4;have hdn:=GO.nd;rw [jP,A1Z] at hdn;have hln:x.rs.length<1000:=by
    have h1:((g0++[x]).map (·.rs)).flatten.length<=i:=by rw [GO.cat,A0G];lia
    rw [jP,A2T,iT] at h1;simp at h1;lia
   refine ⟨.inl ⟨rfl,_,bT.of gx⟩,_,rfl,x.g,_,_,rfl,rfl,gx,bU (by rw [cg];lia),?_⟩;refine ⟨_,g0++[⟨x.d,x.g,x.rs++[p]⟩],rfl,?_,?_,?_,fun y hy=>?_,by rw [tk];exact GO.Uk (ed.trans hxd.symm),fun y hy=>?_,?_⟩
   ·exact fun c o hc=>by rw [ak (aq hc (fr x hx).1)];exact se _ _ (sx _ _ hc)
   ·rw [ak (A0k (fr x hx).2)];exact se _ _ YS
   ·rw [ak (A0k nxD),ak nDe,O9];unfold qW;rw [jP,jP];rfl
   ·rcases A0v.mp hy with c | c
    ·have nyx:y.g≠x.g:=hdn.2.2 _ (A0m.mpr ⟨y,c,rfl⟩) _ 0xA;rw [ak nyx];exact se _ _ (GA y (A1m _ c))
    ·rw [A0c.mp c,ao,jP];rfl
   ·rcases A0v.mp hy with c | c
    ·exact fr y (A1m _ c)
    ·rw [A0c.mp c];exact fr x hx
   ·rw [iT] at hgl ⊢;simp at hgl ⊢;lia
  ·have hne:=Ej hn;have he0:H e=none:=sx.free he;have neD:e≠D:=A0k nDe;have gx:(upd (upd Hx e (.lst [])) D (.dK (putK (qW gs) (.inl d) (.ref e)))) e=some (.lst []):=by rw [ak neD,ao]
   refine ⟨.inl ⟨rfl,_,bT.of gx⟩,_,rfl,e,_,_,rfl,rfl,gx,bU 0x7,?_⟩;refine ⟨_,gs++[⟨d,e,[p]⟩],rfl,?_,?_,?_,fun y hy=>?_,by rw [tk];exact GO.Xf ed (fun x hx=>by have:=le x hx;have:=hne x hx;lia) (fun x hx=>aq (GA x hx) he),fun y hy=>?_,?_⟩
   ·exact fun c o hc=>by rw [ak (aq hc he0),ak (aq hc hD),ak (aq hc he0)];exact sx _ _ hc
   ·rw [ak nSe,ak (A0k nDS),ak nSe];exact YS
   ·rw [ak nDe,ao,Xg hne]
   ·rcases A0v.mp hy with c | c
    ·have n1:y.g≠e:=aq (GA y c) he;have n2:y.g≠D:=aK (GA y c) O9 0x4;rw [ak n1,ak n2,ak n1];exact GA y c
    ·rw [A0c.mp c,ao];rfl
   ·rcases A0v.mp hy with c | c
    ·exact fr y c
    ·rw [A0c.mp c];exact ⟨he0,A0k nSe⟩
   ·rw [iT];simp;lia
 ·rintro σ Hx ⟨u,gs,rfl,sx,YS,O9,GA,GO,fr,_⟩;rw [cg,A1h] at GO;exact ⟨_,rfl,q D gs out Hx sx hD O9 GA GO hp hu fun x hx=>(fr x hx).1⟩
end M
namespace L2
open PySem PySem.Spec PyProof.Rows
inductive YT (Q:VK) (v:V) (H1:Hp):Prop
 | mk (a:Addr) (kvs:List 0x2B) (_:v=.ref a) (_:H1 a=some 0x24) (_:∀ o,Q v (upd H1 a 0x63)):YT Q v H1
def tFz (t:TE):TE:=fun σ H Q=>t σ H fun v H1=>YT Q v H1
theorem a2q {t:TE} (he:PE X e t):PE X e (tFz t):=by
 intro pins s σ H Q I h;refine A1d 0x5A (fun v s' hq=>?_) fun _ _ y=>y;obtain ⟨x,H',I',r,a,kvs,rfl,ea,q⟩:=hq;obtain ⟨o,I1,n⟩:=I'.freeze ea;exact ⟨_,_,I1,r,q o⟩
theorem Oa {o:Obj}{D:Ends} (Pv:Nat->St->Hp->Prop) (h0:Pv 0 σ H) (hl:∀ i σ H,i<=kvs.length->Pv i σ H->H a=some 0x63)
  (hb:∀ i kv σ H p,kvs[i]?=some kv->Pv i σ H->H p=none->g (.ref p) σ (upd H p (.tup [kV kv.1,kv.2])) fun σ2 H2=>tb { D with nx:=Pv (i+1),ct:=Pv (i+1),bk:=D.nx } σ2 H2)
  (he:∀ σ H,Pv kvs.length σ H->D.nx σ H):∃ W:Nat->Nat->St->Hp->Prop,(∃ m,W 0 m σ H)/\∀ i m σ H,W i m σ H ->
   ((Yt a o kvs).stop i H/\D.nx σ H)\/((Yt a o kvs).go i H/\∃ N:St->Hp->Prop,(∀ σ' H',N σ' H'->∃ m',m'<m/\W (i+1) m' σ' H')/\∀ x H',(Yt a o kvs).J8 i H x H'->g x σ H' fun σ2 H2=>tb { D with nx:=N,ct:=N,bk:=D.nx } σ2 H2):=by
 refine ⟨fun i m σ H=>i+m=kvs.length/\Pv i σ H,⟨kvs.length,by lia,h0⟩,?_⟩;rintro i m σ H ⟨hm,hP⟩;have hf:=hl i σ H 0x2 hP
 by_cases hi:i<kvs.length
 ·refine .inr ⟨⟨hf,hi⟩,Pv (i+1),fun σ' H' h=>⟨m - 1,by lia,by lia,h⟩,?_⟩;rintro x H' ⟨p,kv,hkv,rfl,hp,rfl⟩;exact hb i kv σ H p hkv hP hp
 ·have e:i=kvs.length:=by lia
  subst e;exact .inl ⟨⟨hf,A0f _⟩,he σ H hP⟩
end L2
namespace M
open PySem L2 PyProof.Rows
def core (e:aM):Str×Option Str×Str×Int×(Int×Int):=(e.n,e.lord,e.man,e.own,e.due)
def Ul:Option Str->PyData
 | none=>.none
 | some s=>.str s
abbrev kd (f:aM->PyData) (es:List aM):List (Key×PyData):=es.map fun e=>(Sum.inr e.n,f e)
abbrev loD (es:List aM):=kd (fun e=>Ul e.lord) es
abbrev hoD (es:List aM):=kd (fun e=>.str e.man) es
abbrev owD (es:List aM):=kd (fun e=>.int e.own) es
abbrev seD (es:List aM):=kd (fun e=>.tuple [.int e.due.1,.int e.due.2]) es
def Lf (es es':List aM):Bool:=gY (loD es) (loD es')&&(gY (hoD es) (hoD es')&&(gY (owD es) (owD es')&&gY (seD es) (seD es')))
def sI (es:List aM) (ks:List Str):Prop:=nms es=("" : Str)::ks.filter fun (n:Str)=>decide (n∈nms es)
theorem Um {f:aM->PyData}{e:aM}:∀ {es:List aM},(nms es).Nodup->e∈es->NP (kd f es) (.inr e.n)=some (f e)
 | [],_,h=>nomatch h
 | y::es,nd,h=>by
  have nd':=A0P.mp nd
  by_cases q:y.n=e.n
  ·have:y=e:=by
    rcases List.mem_cons.mp h with h | h
    ·exact h.symm
    ·exact absurd (A0m.mpr ⟨e,h,q.symm⟩) nd'.1
   subst this;unfold NP kd;rw [A0g,A1M 0xA];rfl
  ·have he:e∈es:=by
    rcases List.mem_cons.mp h with h | h
    ·exact absurd (by rw [h]) q
    ·exact h
   have:=Um (f:=f) (e:=e) nd'.2 he;unfold NP kd at this ⊢;rw [A0g,A1x (by simp;exact q)];exact this
theorem Uo {f:aM->PyData}{n:Str}:∀ {es:List aM}{d:PyData},NP (kd f es) 0x28=some d->n∈nms es
 | [],_,h=>by cases h
 | y::es,d,h=>by
  by_cases q:y.n=n
  ·rw [<- q];exact A0h
  ·refine jh _ (Uo (f:=f) (es:=es) (d:=d) ?_);unfold NP kd at h ⊢;rw [A0g,A1x (by simp;exact q)] at h;exact h
theorem Al {f:aM->PyData}{es es':List aM} (h:gY (kd f es) (kd f es')=true):es.length=es'.length/\∀ e∈es,vI (kd f es') (.inr e.n,f e)=true:=by
 unfold gY at h;rw [A0Y] at h;refine ⟨by have:=h.1;simpa using this,fun e he=>?_⟩;exact A1G.mp h.2 _ (A0m.mpr ⟨e,he,rfl⟩)
theorem uq {f:aM->PyData}{es':List aM}{e e':aM} (nd:(nms es').Nodup) (h:vI (kd f es') (.inr e.n,f e)=true) (he:e'∈es') (hn:e'.n=e.n):PyData.eqv (f e) (f e')=true:=by
 have a:=Um (f:=f) nd he;rw [hn] at a;unfold vI at h;rw [a] at h;exact h
theorem a02 {f:aM->PyData}{es':List aM}{e:aM} (h:vI (kd f es') (.inr e.n,f e)=true):e.n∈nms es':=by
 unfold vI at h;cases a:NP (kd f es') (.inr e.n) with
 | none=>rw [a] at h;cases h
 | some d=>exact Uo a
theorem Uq {a b:Option Str} (h:PyData.eqv (Ul a) (Ul b)=true):a=b:=by
 cases a with
 | none=>cases b with
  | none=>rfl
  | some y=>cases h
 | some x=>cases b with
  | none=>cases h
  | some y =>
   have:(x==y)=true:=h;rw [A4z this]
theorem Ur {l m:List Str} (hl:l.Nodup) (hm:m.Nodup) (sub:∀ x∈l,x∈m) (len:l.length=m.length):∀ x∈m,x∈l:=fun x hx=>by
 by_cases c:x∈l
 ·exact c
 ·have:=sub_len (l:=x::l) (m:=m) (A0P.mpr ⟨c,hl⟩) fun y hy=>by
   rcases List.mem_cons.mp hy with rfl | h
   ·exact hx
   ·exact sub y h
  rw [pN] at this;lia
theorem Ob {es es':List aM} (o:sI es ks) (o':sI es' ks') (pre:ks' <+: ks) (nd:(nms es).Nodup) (nd':(nms es').Nodup) (h:Lf es es'=true):es.map core=es'.map core:=by
 unfold Lf at h;simp only [A0Y] at h;obtain ⟨h1,h2,h3,h4⟩:=h;obtain ⟨len,g1⟩:=Al h1;obtain ⟨_,g2⟩:=Al h2;obtain ⟨_,g3⟩:=Al h3;obtain ⟨_,g4⟩:=Al h4;have sub:∀ x∈nms es,x∈nms es':=fun x hx=>by
  obtain ⟨e,he,rfl⟩:=dM hx;exact a02 (g1 e he)
 have ln:(nms es).length=(nms es').length:=by rw [cg,cg];exact len
 have sup:=Ur nd nd' sub ln;have en:nms es=nms es':=by
  obtain ⟨more,rfl⟩:=pre;have ef:∀ l:List Str,(l.filter fun n=>decide (n∈nms es))=l.filter fun n=>decide (n∈nms es'):=fun l =>
   A2M fun x _=>by
    by_cases c:x∈nms es
    ·rw [A0j c,A0j (sub x c)]
    ·rw [A0s c,A0s fun z=>c (sup x z)]
  unfold sI at o o';rw [ef,A3e] at o;have l1:=A1v List.length o;have l2:=A1v List.length o';rw [pN,iT] at l1;rw [pN] at l2;have l3:(more.filter fun n=>decide (n∈nms es')).length=0:=by lia
  rw [List.length_eq_zero_iff.mp l3,A1s] at o;exact o.trans o'.symm
 refine List.ext_getElem? fun i=>?_;rw [jY,jY];have ei:(nms es)[i]?=(nms es')[i]?:=by rw [en]
 rw [jY,jY] at ei;cases a:es[i]? with
 | none =>
  rw [a] at ei;cases b:es'[i]? with
  | none=>rfl
  | some e'=>rw [b] at ei;cases ei
 | some e =>
  rw [a] at ei;cases b:es'[i]? with
  | none=>rw [b] at ei;cases ei
  | some e' =>
   rw [b] at ei;have hn:e'.n=e.n:=by injection ei with ei;exact ei.symm
   have he:=wD a;have he':=wD b;have q1:=Uq (uq nd' (g1 e he) he' hn);have q2:(e.man==e'.man)=true:=uq nd' (g2 e he) he' hn;have q3:(e.own==e'.own)=true:=uq nd' (g3 e he) he' hn;have q4:((e.due.1==e'.due.1)&&((e.due.2==e'.due.2)&&true))=true:=uq nd' (g4 e he) he' hn;simp only [A0Y,and_true] at q4;have r1:=A4z q4.1;have r2:=A4z q4.2
   show some (core e)=some (core e')
   unfold core;rw [hn,q1,A4z q2,A4z q3,show e.due=e'.due from Prod.ext r1 r2]
theorem Oc {es:List aM}{bG:Rw}{y:aM} (o:sI es ks) (R:Pu es ks ls j wd) (hst:dZ es ks y bG) (hok:bG.Ok ls) (hls:∀ n∈ls,n≠""/\PyData.strOk n=true):sI 0x21 (stK ks bG):=by
 have new:∀ (n:Str) (es2:List aM) (x:aM),nms es2=nms es->x.n=n->n∉ks->n≠""->sI (es2++[x]) (ks++[n]):=fun n es2 x h2 hx hn h0=>by
  have hnn:n∉nms es:=R.new hn h0;unfold sI at o ⊢;have e1:nms (es2++[x])=nms es++[n]:=by show List.map _ _=_;rw [jP];show nms es2++[x.n]=_;rw [h2,hx]
  rw [e1,A3e];have f1:(ks.filter fun m=>decide (m∈nms es++[n]))=ks.filter fun m=>decide (m∈nms es):=A2M fun m hm=>by
   have:m≠n:=fun z=>hn (z ▸ hm);simp [this]
  have f2:([n].filter fun m=>decide (m∈nms es++[n]))=[n]:=by simp
  rw [f1,f2]
  conv=>lhs;rw [o]
  rfl
 have a03:∀ (g:aM->aM) (m:Str),(∀ z,(g z).n=z.n)->nms (mod m g es)=nms es:=fun g m hg=>by
  show List.map _ (List.map _ es)=_
  rw [A0R];refine A1I fun z _=>?_
  show (if z.n=m then g z else z).n=z.n
  split
  ·exact hg z
  ·rfl
 cases bG with
 | grant e n m a s=>exact new n _ _ (a03 _ _ fun _=>rfl) rfl hst.2.2.1 (hls n hok.1).1
 | part e n m a=>exact new n _ _ (a03 _ _ fun _=>rfl) rfl hst.2.2.1 (hls n hok.1).1
 | convey e m =>
  have:nms (stp y es t1 t2 b1 b2 (.convey e m))=nms es:=a03 _ _ fun _=>rfl;unfold sI at o ⊢;rw [this];exact o
 | eZ e =>
  have e1:nms (stp y es t1 t2 b1 b2 (.eZ e))=(nms es).filter fun n=>decide (n≠y.n):=by
   show List.map _ (List.map _ (List.filter _ es))=_
   rw [A0R]
   show List.map (fun z=>(Du y.n (y.lord.getD "") y.own z).n) _=_
   show List.map (fun z:aM=>z.n) _=_
   rw [A3K];rfl
  have hy:y.n≠"":=by have h2:=hst.2;rw [h2];exact hok
  unfold sI at o ⊢;rw [e1]
  conv=>lhs;rw [o]
  rw [A1u (by simpa using A0k hy),List.filter_filter]
  congr 1
  refine A2M fun m _=>?_;rw [A1i,A0Y,A1K,A1K,A1K,A0V,A1K];exact And.comm
abbrev Am:Stmt:=inClass (top 44) 1
structure nW (K:PySem.W.Frag) (CC:Addr):Prop where
 cl:Cls K CC
 n1:dW K CC "many_acres"
 n2:dW K CC "coins"
 n3:dW K CC "realm"
 n4:dW K CC "judged"
 n5:dW K CC "lands"
abbrev Fi (n b:Int) (z jl ll:Addr):List (Str×V):=[("many_acres",.int n),("coins",.int b),("realm",.ref z),("judged",.ref jl),("lands",.ref ll)]
def Mn (es:List aM):Prop:=∀ e∈es,PyData.strOk e.man=true
theorem Mn.step {es:List aM}{bG:Rw}{y:aM} (h:Mn es) (hx:bG.Tx):Mn 0x21:=by
 cases bG with
 | grant e n m a s =>
  intro z hz;rcases A0v.mp hz with c | c
  ·obtain ⟨y0,h0,rfl⟩:=cU c;have:=h y0 h0
   split <;> exact this
  ·rw [A0c.mp c];exact hx.2.2
 | part e n m a =>
  intro z hz;rcases A0v.mp hz with c | c
  ·obtain ⟨y0,h0,rfl⟩:=cU c;have:=h y0 h0
   split <;> exact this
  ·rw [A0c.mp c];exact hx.2.2
 | convey e m =>
  intro z hz;obtain ⟨y0,h0,rfl⟩:=cU hz;have:=h y0 h0
  split
  ·exact hx.2
  ·exact this
 | eZ e =>
  intro z hz;obtain ⟨y0,h0,rfl⟩:=A0m.mp hz;exact h y0 (A0V.mp h0).1
theorem vV {H:Hp}{f:aM->V}{g:aM->PyData}:∀ {es:List aM},(∀ e∈es,cO H (f e) (g e)/\(g e).canLay0=true/\(g e).depth<=8)->wJ H (kv f es) (kd g es)
 | [],_=>.nil
 | y::es,h=>.cons ⟨rfl,h y A0h⟩ (vV (es:=es) fun e he=>h e (jh _ he))
theorem Us {es:List aM} (W:WF es):wJ H (iY es) (loD es):=vV fun e he=>by
 by_cases hn:e.n=""
 ·obtain ⟨c,r,rfl,hc,hl,_⟩:=W.hd;have:e=c:=vH W.nd he A0h (hn.trans hc.symm);rw [this,hl];exact ⟨.non,rfl,by decide⟩
 ·obtain ⟨p,hp,hm,_⟩:=W.lord e he hn;obtain ⟨z,hz,rfl⟩:=dM hm;rw [hp];exact ⟨.str _,W.ok z hz,by show PyData.depth (.str _)<=8;exact A1j rfl⟩
theorem Ut {es:List aM} (M:Mn es):wJ H (hoL es) (hoD es):=vV fun e he=>⟨.str _,M e he,A1j rfl⟩
theorem Uu {es:List aM}:wJ H (lH es) (owD es):=vV fun e he=>⟨.int _,rfl,A1j rfl⟩
theorem Uv {es:List aM} (fr:∀ e∈es,jy H e.ta e.due.1 e.due.2):wJ H (Kd es) (seD es):=vV fun e he=>⟨.tup (fr e he) (.cons (.int _) (.cons (.int _) .nil)),rfl,A1j rfl⟩
structure Kept (C:Addr) (H:Hp) (qk:Ad) (ek:List aM) (kk ks:List Str):Prop where
 L:Ln C qk H ek
 fr:∀ e∈ek,jy H e.ta e.due.1 e.due.2
 W:WF ek
 M:Mn ek
 o:sI ek kk
 pre:kk <+: ks
theorem Kept.same {qk:Ad}{ek:List aM}{kk:List Str} (a:Kept C H qk ek kk ks) (s:Same H H'):Kept C H' qk ek kk ks:=⟨a.L.same s,fun e he=>s _ _ (a.fr e he),a.W,a.M,a.o,a.pre⟩
theorem Kept.store {qk:Ad}{ek:List aM}{kk:List Str}{fs:List (Str×V)} (a:Kept C H qk ek kk ks) (hc:H c=some (.ins CC dc fs)) (hx:qk.x≠c):Kept C (upd H c (.ins CC dc fs')) qk ek kk ks :=
 ⟨⟨by rw [ak hx];exact a.L.o,by rw [ak (aK a.L.l1 hc 0x4)];exact a.L.l1,by rw [ak (aK a.L.l2 hc 0x4)];exact a.L.l2,by rw [ak (aK a.L.l3 hc 0x4)];exact a.L.l3,by rw [ak (aK a.L.l4 hc 0x4)];exact a.L.l4,by rw [ak (aK a.L.l5 hc 0x4)];exact a.L.l5⟩,
  fun e he=>by have h:=a.fr e he;unfold jy at h ⊢;rw [ak (aK h hc 0x4)];exact h,a.W,a.M,a.o,a.pre⟩
theorem Kept.lst {qk:Ad}{ek:List aM}{kk:List Str}{xs':List V} (a:Kept C H qk ek kk ks) (hc:H c=some (.lst xs)):Kept C (upd H c (.lst xs')) qk ek kk ks :=
 ⟨⟨by rw [ak (aK a.L.o hc 0x4)];exact a.L.o,by rw [ak (aK a.L.l1 hc 0x4)];exact a.L.l1,by rw [ak (aK a.L.l2 hc 0x4)];exact a.L.l2,by rw [ak (aK a.L.l3 hc 0x4)];exact a.L.l3,by rw [ak (aK a.L.l4 hc 0x4)];exact a.L.l4,by rw [ak (aK a.L.l5 hc 0x4)];exact a.L.l5⟩,
  fun e he=>by have h:=a.fr e he;unfold jy at h ⊢;rw [ak (aK h hc 0x4)];exact h,a.W,a.M,a.o,a.pre⟩
theorem Xi {h l:Int}{A:Prop} (h1:h=l->A) (h2:h≠l->B):if decide (V.int h=V.int l)=true then A else B:=by
 refine iQ (fun c=>h1 ?_) fun c=>h2 fun z=>c (A0j (by rw [z]));have:=sS c;injection this
structure El (C:Addr) (H:Hp) (ll:Addr) (jO:List Addr) (qk:Ad):Prop where
 l:H ll=some (.lst (jO.map V.ref))
 all:∀ a∈jO,∃ (d:Int) (x:Addr),H a=some (.tup [.int d,.ref x])/\d<=9999
 last:∃ l0 t,∃ d:Int,jO=l0++[t]/\H t=some (.tup [.int d,.ref qk.x])
def Fk (H:Hp) (qk:Ad):Prop:=H qk.x=none/\∀ a∈[qk.a1,qk.a2,qk.a3,qk.a4,qk.a5],H a=none
inductive vW (CC CR CK C:Addr) (vs:List V) (H:Hp) (Q:VK) (cD:XK):Prop
 | mk (c dc jl ll:Addr) (m:Rm) (q:Ad) (es:List aM) (ks:List Str) (qk:Ad) (ek:List aM) (kk:List Str) (jO:List Addr) (n b d:Int) (_:vs=[.ref c,.int d]) (_:H c=some 0x47) (_:gU CR CK C H m q es ks) (_:WF es) (_:Mn es) (_:sI es ks) (_:(∀ e∈es,jy H e.ta e.due.1 e.due.2)) (_:bJ (zN es) (.inr "")=some (.int n)) (_:1<=n) (_:n<=9999) (_:d<=9999) (_:El C H ll jO qk) (_:Kept C H qk ek kk ks) (_:jO.length<=1000) (_:∀ Ik Em yE ek' Vr H',(∀ a u,a≠c->a≠ll->H a=some u->H' a=some u)->H' c=some (.ins CC dc (Fi n b m.z jl Ik))->El C H' Ik Em yE->Kept C H' yE ek' Vr ks->ek'.map core=es.map core->Em.length<=jO.length+1->(Ik=ll\/H Ik=none)->(yE=qk\/Fk H yE)->Q .non H'):vW CC CR CK C vs H Q cD
section
variable {CR:Addr}
theorem En:aQ ["self", "day", "ground"] ["self", "day"] (aJ Am):=0x0
theorem Od (l0:List Addr) (t:Addr):wX ((l0++[t]).map V.ref) (-1)=some (.ref t):=by
 rw [jP];exact Ce _ _
theorem Oe (TC:nW K CC) (TR:jV K CR) (T:cW K C) (F:fK K "end_day" "Court.end_day" Am f fd) 
  (G1:aL P w K mg base bN 5 g1 d1 A5S (oG C)) (m1:Meth K C "twin" g1) (b1:Binds K d1 A5S [])
  (G2:aL P w K mg base bN 1 g2 d2 ["self", "other"] (zW C)) (m2:Meth K C "same" g2) (b2:Binds K d2 ["self", "other"] []) :
  aL P w K mg base bN 6 f fd ["self", "day"] (vW CC CR CK C):=by
 refine F.ok En 0x1 0x3;obtain ⟨c,dc,jl,ll,m,q,es,ks,qk,ek,kk,jO,n,b,d,rfl,hc,R,W,MN,OK,fr,hbr,n1,n2,hd,LA,KP,hlt,k⟩:=h;have hr1:cP 1 _:=hr.mono 0x7;refine ⟨_,au (aU (i:=2) En.nd rfl 0x8 (bB 0xD rfl))
  (aG (bQ (aV dO 0x11 aA (bH _))
   (aG (dX 0x3A (eG (aj (cN (aj aA (aj (ji (CX:=bN) (E:=E0) (pv 2) T.cl m1 G1 hr b1 .nil aY) aC))) aC)) rfl))
   (aG (bQ (gO (dU (bW (CX:=bN) (E:=E0) (pv 2) T.cl m2 G2 hr1 b2 .nil aY (aj (aO bA (aO bI 0xD (wM rC aA) 0x5) aA 0x5) aC))))
    (aG (bO (jj A0H A0T A0U dR 0xD (aj (cN (aj 0x11 (aj (ji (CX:=bN) (E:=E0) (pv 2) T.cl m1 G1 hr b1 .nil aY) aC))) aC)))) aX)))),?_⟩
 refine ⟨_,rfl,c,CC,dc,_,_,rfl,hc,TC.cl,TC.n3,rfl,m.z,CR,m.dz,_,_,rfl,R.o,TR.cl,TR.n1,rfl,?_⟩;have twin:∀ (Q1:VK),(∀ y H1,Same H H1->H y=none->(∃ yE,yE.x=y/\Kept C H1 yE es ks ks/\Fk H yE)->Q1 (.ref y) H1)->oG C [.ref q.x] H Q1 E0:=fun Q1 k1 =>
  ⟨q.x,q.dx,q.a1,q.a2,q.a3,q.a4,q.a5,_,_,_,_,_,n,rfl,R.L,hbr,n1,n2,fun y dy c1 c2 c3 c4 c5 H1 s1 L1 hy h1 h2 h3 h4 h5 _=>k1 y H1 s1 hy ⟨adL y dy c1 c2 c3 c4 c5 n,rfl,⟨L1,fun e he=>s1 _ _ (fr e he),W,MN,OK,A3v _⟩,hy,fun a ha=>by
   simp only [List.mem_cons,A0L,A1N] at ha;rcases ha with z | z | z | z | z <;> (rw [z];assumption)⟩⟩
 refine ⟨_,rfl,rfl,_,rfl,Xi (fun e=>?_) (fun _=>?_)⟩
 ·refine ⟨_,rfl,q.x,q.dx,_,rfl,R.L.o,rfl,?_⟩;dsimp only [oK,List.cons_append,List.nil_append];refine twin _ fun y H1 s1 hy0 hkp=>?_;obtain ⟨yE,hqx,K1,FK⟩:=hkp;refine ⟨small 0xA,fun t ht=>⟨small 0xA,fun l' hl'=>?_⟩⟩;have st:=aP ht (.tup [V.int 0,V.ref y]);have t1:(upd H1 t (.tup [V.int 0,V.ref y])) t=some (.tup [V.int 0,V.ref y]):=ao;generalize upd H1 t (.tup [V.int 0,V.ref y])=H2 at st t1 hl' ⊢;have sl:=aP hl' (.lst [V.ref t]);have l1:(upd H2 l' (.lst [V.ref t])) l'=some (.lst [V.ref t]):=ao;have hl0:H l'=none:=(s1.trans st).free hl';generalize upd H2 l' (.lst [V.ref t])=H3 at sl l1 ⊢;have s3:=s1.trans (st.trans sl);have c3:=s3 _ _ hc;have t3:=sl _ _ t1;refine ⟨_,rfl,c,CC,dc,_,rfl,c3,TC.cl,TC.n5,A0u rfl,?_⟩;refine k l' [t] yE es ks _ (fun a u h1 _ ha=>by rw [ak h1];exact s3 _ _ ha) (by rw [ao];rfl) ⟨?_,fun a ha=>?_,[],t,0,rfl,?_⟩ ((K1.same (st.trans sl)).store c3 ?_) rfl 0xA (.inr hl0) (.inr FK)
  ·rw [ak (aK l1 c3 0x4)];exact l1
  ·rw [A0c.mp ha];exact ⟨0,y,by rw [ak (aK t3 c3 0x4)];exact t3,by decide⟩
  ·rw [hqx,ak (aK t3 c3 0x4)];exact t3
  ·rw [hqx];exact fun z=>by rw [z,hc] at hy0;cases hy0
 ·obtain ⟨l0,t,d0,Xj,ht⟩:=LA.last;refine ⟨_,rfl,q.x,q.dx,_,rfl,R.L.o,rfl,_,rfl,c,CC,dc,_,_,rfl,hc,TC.cl,TC.n5,rfl,1,rfl,ll,_,_,_,rfl,rfl,bT.of LA.l,by rw [Xj];exact Od l0 t,t,_,_,_,rfl,rfl,bR.of ht,aH (j:=1) rfl,?_⟩;refine ⟨q.x,q.dx,q.a1,q.a2,q.a3,q.a4,q.a5,_,_,_,_,_,qk.x,qk.dx,qk.a1,qk.a2,qk.a3,qk.a4,qk.a5,_,_,_,_,_,_,_,_,_,_,_,_,_,rfl,R.L,KP.L,Us W,Ut MN,Uu,Uv fr,Us KP.W,Ut KP.M,Uu,Uv KP.fr,_,rfl,?_⟩
  show if (!(Lf es ek))=true then _ else _
  cases hs:Lf es ek with
  | true=>exact cu (k ll jO qk ek kk H (fun a u _ _ h=>h) hc LA KP (Ob OK KP.o KP.pre W.nd KP.W.nd hs).symm 0x2 (.inl rfl) (.inl rfl))
  | false =>
   refine dB ⟨_,rfl,c,CC,dc,_,_,rfl,hc,TC.cl,TC.n5,rfl,.inl ⟨rfl,_,bT.of LA.l⟩,_,rfl,_,rfl,q.x,q.dx,_,rfl,R.L.o,rfl,?_⟩;dsimp only [oK,List.cons_append,List.nil_append];refine twin _ fun y H1 s1 hy0 hkp=>?_;obtain ⟨yE,hqx,K1,FK⟩:=hkp;refine ⟨small 0xA,fun t' ht'=>?_⟩;have st:=aP ht' (.tup [V.int d,V.ref y]);have t1:(upd H1 t' (.tup [V.int d,V.ref y])) t'=some (.tup [V.int d,V.ref y]):=ao;generalize upd H1 t' (.tup [V.int d,V.ref y])=H2 at st t1 ⊢;have s2:=s1.trans st;have l2:=s2 _ _ LA.l;refine ⟨ll,_,_,rfl,rfl,l2,bU (by rw [cg];lia),?_⟩;have el:jO.map V.ref++[V.ref t']=(jO++[t']).map V.ref:=by rw [jP];rfl
   rw [el];refine k ll (jO++[t']) yE es ks _ (fun a u _ h2 ha=>by rw [ak h2];exact s2 _ _ ha) ?_ ⟨ao,fun a ha=>?_,jO,t',d,rfl,?_⟩ ((K1.same st).lst l2) rfl (by rw [iT];simp) (.inl rfl) (.inr FK)
   ·rw [ak (aK hc LA.l 0x4)];exact s2 _ _ hc
   ·rcases A0v.mp ha with z | z
    ·obtain ⟨d1,x1,h1,h2⟩:=LA.all a z;have h1':=s2 _ _ h1;exact ⟨d1,x1,by rw [ak (aK h1' l2 0x4)];exact h1',h2⟩
    ·rw [A0c.mp z];exact ⟨d,y,by rw [ak (aK t1 l2 0x4)];exact t1,hd⟩
   ·rw [hqx,ak (aK t1 l2 0x4)];exact t1
abbrev Ao:Stmt:=inClass (top 44) 6
abbrev Il:Stmt:=inClass (top 44) 4
abbrev Aq:Stmt:=top 45
inductive vX (CC C:Addr) (vs:List V) (H:Hp) (Q:VK) (cD:XK):Prop
 | mk (c dc z jl ll:Addr) (qk:Ad) (ek:List aM) (jO:List Addr) (n b w:Int) (_:vs=[.ref c,.int 9999]) (_:H c=some (.ins CC dc (Fi n b z jl ll))) (_:El C H ll jO qk) (_:Ln C qk H ek) (_:jO.length<=1000) (_:bJ (zN ek) (.inr "")=some (.int w)) (_:1<=w) (_:w<=9999) (_:∀ y dy b1 b2 b3 b4 b5 H',Same H H'->bZ C H' y dy b1 b2 b3 b4 b5 (iY ek) (hoL ek) (lH ek) (Kd ek) (zN ek)->H y=none->H b1=none->H b2=none->H b3=none->H b4=none->H b5=none->Gp b1 b2 b3 b4 b5->Q (.ref y) H'):vX CC C vs H Q cD
inductive Ar (CC:Addr) (K:W.Frag) (vs:List V) (H:Hp) (Q:VK) (cD:XK):Prop
 | mk (c dc z jl ll:Addr) (xs:List V) (n b:Int) (_:vs=[.ref c]) (_:H c=some (.ins CC dc (Fi n b z jl ll))) (_:H jl=some (.lst xs)) (_:xs.length<=1000) (_:∀ D,H D=none->Q (.ref D) (upd H D (.lst xs))):Ar CC K vs H Q cD
theorem Xk:aQ A5S A5S (aJ Il):=0x0
theorem Uw (TC:nW K CC) (F:fK K "verdicts" "Court.verdicts" Il f fd) (mli:mg "list"=none):aL P w K mg base bN 1 f fd A5S (Ar CC K):=by
 refine F.ok Xk 0x1 0x3;obtain ⟨c,dc,z,jl,ll,xs,n,b,rfl,hc,hj,_,k⟩:=h;refine ⟨_,aG (aZ (fY yU rfl mli o9 (aj 0xD aC))),?_⟩;exact ⟨_,rfl,c,CC,dc,_,_,rfl,hc,TC.cl,TC.n4,rfl,jl,_,rfl,.inl (bT.of hj),k⟩
theorem nY:aQ ["self", "day", "ground", "first", "later"] ["self", "day"] (aJ Ao):=0x0
theorem Og (TC:nW K CC) (T:cW K C) (F:fK K "land" "Court.land" Ao f fd) 
  (G1:aL P w K mg base bN 5 g1 d1 A5S (oG C)) (m1:Meth K C "twin" g1) (b1:Binds K d1 A5S []):aL P w K mg base bN 6 f fd ["self", "day"] (vX CC C):=by
 refine F.ok nY 0x1 0x3;obtain ⟨c,dc,z,jl,ll,qk,ek,jO,n,b,w0,rfl,hc,LA,LK,hlt,hbr,w1,w2,k⟩:=h;refine ⟨_,au (aU (i:=2) nY.nd rfl 0x8 (aO bA (aO bI 0xD aA 0x5) aA 0x5))
  (au (iz A0W rfl (gH 0xD) (lq rfl (bM (bD (i:=3) nY.nd rfl 0x8) (bM (bD (i:=4) nY.nd rfl 0x8) gj)))
   (aG (bQ (aV BK (pv 3) 0x11 (bH _)) (aG (aU (i:=2) nY.nd rfl 0x8 (pv 4))) aX)))
  (aG (aZ (ji (CX:=bN) (E:=E0) (pv 2) T.cl m1 G1 hr b1 .nil aY)))),?_⟩
 obtain ⟨l0,t,d,Xj,ht⟩:=LA.last;obtain ⟨a0,r0,e0⟩:∃ a r,jO=a::r:=by
  cases jO with
  | nil=>exact absurd (A1v List.length Xj) 0xA
  | cons a r=>exact ⟨a,r,rfl⟩
 obtain ⟨d0,x0,ha0,_⟩:=LA.all a0 (by rw [e0];exact A0h);refine ⟨_,rfl,c,CC,dc,_,_,rfl,hc,TC.cl,TC.n5,rfl,ll,_,_,_,rfl,rfl,bT.of LA.l,aH (j:=0) (by rw [e0];rfl),a0,_,_,_,rfl,rfl,bR.of ha0,aH (j:=1) rfl,?_⟩;refine ⟨_,rfl,c,CC,dc,_,_,rfl,hc,TC.cl,TC.n5,rfl,ll,rfl,⟨_,bT.of LA.l⟩,?_⟩;refine iB (K:=K) (a:=ll) (xs:=jO.map V.ref) (fun i σ Hx=>∃ (u3 u4:Option V) (g:Addr),σ=[some (.ref c),some (.int 9999),some (.ref g),u3,u4]/\Hx=H/\(0<i->∃ a,∃ d:Int,jO[i - 1]?=some a/\H a=some (.tup [.int d,.ref g])))
  ⟨none,none,x0,rfl,rfl,fun h=>absurd h 0x2⟩ (fun i σ Hx _ h=>by obtain ⟨_,_,_,_,h,_⟩:=h;rw [h];exact bT.of LA.l) ?_ ?_
 ·rintro i v σ Hx hv ⟨u3,u4,g,rfl,rfl,_⟩;rw [jY] at hv;obtain ⟨a,hai,rfl⟩:=A0w.mp hv;obtain ⟨d1,x1,ha,hd⟩:=LA.all a (wD hai);refine ⟨a,_,rfl,bR.of ha,rfl,_,_,rfl,_,_,rfl,rfl,?_⟩;refine ⟨_,rfl,_,rfl,_,_,rfl,rfl,_,rfl,iQ (fun _=>?_) (fun c=>absurd (A0j hd) c)⟩;exact ⟨_,rfl,_,_,x1,rfl,rfl,fun _=>⟨a,d1,hai,ha⟩⟩
 ·rintro σ Hx ⟨u3,u4,g,rfl,rfl,hg⟩;obtain ⟨a,d1,hai,ha⟩:=hg (by rw [cg,e0];simp);have:a=t:=by
   rw [cg,Xj,iT] at hai;simp at hai;exact hai.symm
  subst this;rw [ht] at ha;have eg:qk.x=g:=by injection ha with ha;injection ha with ha;injection ha with _ ha;injection ha with ha;injection ha
  subst eg;refine ⟨_,rfl,qk.x,qk.dx,_,rfl,LK.o,rfl,?_⟩;dsimp only [oK,List.cons_append,List.nil_append];exact ⟨qk.x,qk.dx,qk.a1,qk.a2,qk.a3,qk.a4,qk.a5,_,_,_,_,_,w0,rfl,LK,hbr,w1,w2,k⟩
abbrev Av:Stmt:=inClass (top 44) 0
inductive JL (Fj:List aM) (Fl:List Str):List Rw->List Str->List aM->List Str->Prop
 | nil:JL Fj Fl [] [] Fj Fl
 | snoc {rws:List Rw}{ws:List Str}{es es':List aM}{ks ks':List Str}{bG:Rw}{w:Str}:JL Fj Fl rws ws es ks->Jd es ks bG w es' ks'->JL Fj Fl (rws++[bG]) (ws++[w]) es' ks'
def Vs (es:List aM) (n:Int):Prop:=∃ c∈es,c.n=""/\c.br=n
theorem Vs.val {es:List aM}{n:Int} (h:Vs es n) (nd:(nms es).Nodup):bJ (zN es) (.inr "")=some (.int n):=by
 obtain ⟨c,hc,h1,h2⟩:=h;have:=cG (f:=fun e=>V.int e.br) nd hc;rw [h1,h2] at this;exact this
theorem Vs.step {es:List aM}{n:Int}{bG:Rw}{y:aM} (h:Vs es n) (hst:dZ es ks y bG) (hok:bG.Ok ls):Vs 0x21 n:=by
 obtain ⟨c,hc,h1,h2⟩:=h;have md:∀ (g:aM->aM) (m:Str),(∀ z,(g z).n=z.n)->(m=""->∀ z,(g z).br=z.br)->∃ c'∈mod m g es,c'.n=""/\c'.br=n:=fun g m g1 g2=>by
  refine ⟨if c.n=m then g c else c,A0m.mpr ⟨c,hc,rfl⟩,?_⟩
  by_cases e:c.n=m
  ·rw [A0i e];exact ⟨(g1 c).trans h1,(g2 (e ▸ h1) c).trans h2⟩
  ·rw [A0e e];exact ⟨h1,h2⟩
 have app:∀ {l:List aM}{x:aM},(∃ c'∈l,c'.n=""/\c'.br=n)->Vs (l++[x]) n:=fun ⟨c',hm,q⟩=>⟨c',A1m _ hm,q⟩;cases bG with
 | grant e k m a s=>exact app (md _ _ 0xF fun _ _=>rfl)
 | part e k m a=>exact app (md _ _ 0xF fun z=>absurd (hst.2.1.symm.trans z) hok.2.2.2)
 | convey e m=>exact md _ _ 0xF fun _ _=>rfl
 | eZ e=>exact ⟨_,A0m.mpr ⟨c,A0V.mpr ⟨hc,A0j fun z=>hok (hst.2.symm.trans (z.symm.trans h1))⟩,rfl⟩,h1,h2⟩
structure fM (H:Hp) (jl:Addr) (ts:List Addr) (pr:List Addr) (ws:List Str):Prop where
 l:H jl=some (.lst (ts.map V.ref))
 lt:ts.length=pr.length
 lw:ws.length=pr.length
 at':∀ (i:Nat) (t r:Addr) (w:Str),ts[i]?=some t->pr[i]?=some r->ws[i]?=some w->H t=some (.tup [.ref r,.str w])
theorem fM.keep (a:fM H jl ts pr ws) (h1:H' jl=H jl) (h2:∀ c xs,H c=some 0x3E->H' c=some 0x3E):fM H' jl ts pr ws :=
 ⟨by rw [h1];exact a.l,a.lt,a.lw,fun i t r w e1 e2 e3=>h2 _ _ (a.at' i t r w e1 e2 e3)⟩
theorem fM.snoc {t r:Addr}{w:Str} (a:fM H jl ts pr ws) (ht:H t=some (.tup [.ref r,.str w])):fM (upd H jl (.lst (ts.map V.ref++[V.ref t]))) jl (ts++[t]) (pr++[r]) (ws++[w]):=by
 refine ⟨by rw [ao,jP];rfl,by rw [iT,iT,a.lt];rfl,by rw [iT,iT,a.lw];rfl,fun i t' r' w' e1 e2 e3=>?_⟩;have nt:∀ {c:Addr}{xs:List V},H c=some 0x3E->(upd H jl (.lst (ts.map V.ref++[V.ref t]))) c=some 0x3E:=fun hc=>by rw [ak (aK hc a.l 0x4)];exact hc
 by_cases hi:i<pr.length
 ·rw [A1l (by rw [a.lt];exact hi)] at e1;rw [A1l hi] at e2;rw [A1l (by rw [a.lw];exact hi)] at e3;exact nt (a.at' i t' r' w' e1 e2 e3)
 ·have hl:=(A0l.mp e2).1;rw [iT,A0t] at hl;have:i=pr.length:=by lia
  subst this;rw [A0S (A0f _),A3u] at e2;rw [A0S (by rw [a.lt];exact A0f _),a.lt,A3u] at e1;rw [A0S (by rw [a.lw];exact A0f _),a.lw,A3u] at e3;injection e1 with e1;injection e2 with e2;injection e3 with e3;subst e1;subst e2;subst e3;exact nt ht
structure qL (CC CR CK C:Addr) (H:Hp) (c dc jl ll:Addr) (m:Rm) (q:Ad) (es:List aM) (ks ls:List Str) (qk:Ad) (ek:List aM) (kk:List Str) (jO ts pr:List Addr) (ws:List Str) (n b:Int):Prop where
 o:H c=some 0x47
 R:gU CR CK C H m q es ks
 S:Sep m q
 P:Pu es ks ls pr.length n
 fr:∀ e∈es,jy H e.ta e.due.1 e.due.2
 M:Mn es
 O:sI es ks
 B:Vs es n
 Ld:El C H ll jO qk
 K:Kept C H qk ek kk ks
 J:fM H jl ts pr ws
 jn:jl≠ll
 ln:jO.length<=pr.length+1
 kx:qk.x≠c
 kq:qk.x≠q.x/\∀ a∈[qk.a1,qk.a2,qk.a3,qk.a4,qk.a5],a∉[q.a1,q.a2,q.a3,q.a4,q.a5,m.u]
 mc:m.z≠c/\q.x≠c/\m.k≠c
theorem Jd.pre {es es':List aM}{bG:Rw}{w:Str} (h:Jd es ks bG w es' ks'):ks <+: ks':=by
 cases h with
 | void _ _=>exact A3v _
 | does t1 t2 b1 b2 h =>
  cases bG with
  | grant e n m a s=>exact A3O _ _
  | part e n m a=>exact A3O _ _
  | convey e m=>exact A3v _
  | eZ e=>exact A3v _
theorem Kept.a0P {CR:Addr}{m:Rm}{q qk:Ad}{es ek:List aM}{kk:List Str} (K:Kept C H qk ek kk ks) (R:gU CR CK C H m q es ks) (kq:∀ a∈[qk.a1,qk.a2,qk.a3,qk.a4,qk.a5],a∉[q.a1,q.a2,q.a3,q.a4,q.a5,m.u]) (o:jK m q H H') (p:ks <+: ks'):Kept C H' qk ek kk ks':=by
 have d:∀ {a:Addr}{u:HO},a∈[qk.a1,qk.a2,qk.a3,qk.a4,qk.a5]->H a=some u->H' a=some u:=fun {a u} ha hu=>by
  have h:=kq a ha;simp only [List.mem_cons,A0L,A1N,not_or] at h;exact o a u h.2.2.2.2.2 h.1 h.2.1 h.2.2.1 h.2.2.2.1 h.2.2.2.2.1 hu
 have i:∀ {a C dx:Addr}{fs:List (Str×V)},H a=some (.ins C dx fs)->H' a=some (.ins C dx fs):=fun hu =>
  o _ _ (aK hu R.U 0x4) (aK hu R.L.l1 0x4) (aK hu R.L.l2 0x4) (aK hu R.L.l3 0x4) (aK hu R.L.l4 0x4) (aK hu R.L.l5 0x4) hu
 exact ⟨⟨i K.L.o,d 0xA K.L.l1,d 0xA K.L.l2,d 0xA K.L.l3,d 0xA K.L.l4,d 0xA K.L.l5⟩,fun e he=>jK.tup R o (K.fr e he),K.W,K.M,K.o,K.pre.trans p⟩
theorem jK.lst {CR:Addr}{m:Rm}{q:Ad}{es:List aM} (R:gU CR CK C H m q es ks) (o:jK m q H H')  (h:H c=some (.lst xs)):H' c=some (.lst xs) :=
 o c _ (aK h R.U 0x4) (aK h R.L.l1 0x4) (aK h R.L.l2 0x4) (aK h R.L.l3 0x4) (aK h R.L.l4 0x4) (aK h R.L.l5 0x4) h
theorem jK.ins {CR:Addr}{m:Rm}{q:Ad}{es:List aM} (R:gU CR CK C H m q es ks) (o:jK m q H H') {fs:List (Str×V)} (h:H c=some (.ins D dx fs)):H' c=some (.ins D dx fs) :=
 o c _ (aK h R.U 0x4) (aK h R.L.l1 0x4) (aK h R.L.l2 0x4) (aK h R.L.l3 0x4) (aK h R.L.l4 0x4) (aK h R.L.l5 0x4) h
theorem gU.lst {CR:Addr}{m:Rm}{q:Ad}{es:List aM}{xs':List V} (a:gU CR CK C H m q es ks) (hc:H c=some (.lst xs)):gU CR CK C (upd H c (.lst xs')) m q es ks:=by
 have k:∀ {d:Addr}{o:HO},H d=some o->(∀ ys,o≠.lst ys)->(upd H c (.lst xs')) d=some o:=fun hd ho=>by
  rw [ak (fun z=>by rw [z,hc] at hd;injection hd with hd;exact ho _ hd.symm)];exact hd
 exact ⟨k a.o 0x46,⟨k a.K.o 0x46,k a.K.h 0x46,k a.K.g 0x46⟩,k a.U 0x46,⟨k a.L.o 0x46,k a.L.l1 0x46,k a.L.l2 0x46,k a.L.l3 0x46,k a.L.l4 0x46,k a.L.l5 0x46⟩⟩
theorem qL.judge {CR:Addr}{r t:Addr}{m:Rm}{q qk:Ad}{es es' ek:List aM}{kk:List Str}{n b:Int}{bG:Rw}{w:Str} (A:qL CC CR CK C H c dc jl ll m q es ks ls qk ek kk jO ts pr ws n b)
  (hok:bG.Ok ls) (hx:bG.Tx) (hls:∀ n∈ls,n≠""/\PyData.strOk n=true) (J:Jd es ks bG w es' ks') (R':gU CR CK C H1 m q es' ks') (fr':∀ e∈es',jy H1 e.ta e.due.1 e.due.2) (o:jK m q H H1) (ht:H1 t=none) :
  qL CC CR CK C (upd (upd H1 t (.tup [.ref r,.str w])) jl (.lst (ts.map V.ref++[V.ref t]))) c dc jl ll m q es' ks' ls qk ek kk jO (ts++[t]) (pr++[r]) (ws++[w]) n b:=by
 apply 0o1 H1 t ht st t1 H2
 have j1:=st _ _ (jK.lst A.R o A.J.l);have a04:∀ c' xs,H c'=some 0x3E->H2 c'=some 0x3E:=fun c' xs h=>st _ _ (jK.tup A.R o h);have J1:fM H2 jl ts pr ws:=A.J.keep (by rw [j1,A.J.l]) a04;have c1:=st _ _ (jK.ins A.R o A.o);have l1:=st _ _ (jK.lst A.R o A.Ld.l);have R1:=R'.same st;have K1:=(A.K.a0P A.R A.kq.2 o J.pre).same st;have f1:∀ e∈es',jy H2 e.ta e.due.1 e.due.2:=fun e he=>st _ _ (fr' e he);have nt:∀ {c':Addr}{xs:List V},H2 c'=some 0x3E->(upd H2 jl (.lst (ts.map V.ref++[V.ref t]))) c'=some 0x3E:=fun hc=>by rw [ak (aK hc j1 0x4)];exact hc
 refine ⟨by rw [ak (aK c1 j1 0x4)];exact c1,R1.lst j1,A.S,?_,fun e he=>nt (f1 e he),?_,?_,?_,⟨by rw [ak (A0k A.jn)];exact l1,fun a ha=>?_,?_⟩,K1.lst j1,J1.snoc t1,A.jn,by rw [iT];have:=A.ln;lia,A.kx,A.kq,A.mc⟩
 ·rw [iT];exact J.pu A.P hok hls
 ·cases J with
  | void _ _=>exact A.M
  | does t1 t2 b1 b2 h=>exact A.M.step hx
 ·cases J with
  | void _ _=>exact A.O
  | does t1 t2 b1 b2 h=>exact Oc A.O A.P h hok hls
 ·cases J with
  | void _ _=>exact A.B
  | does t1 t2 b1 b2 h=>exact A.B.step h hok
 ·obtain ⟨d,x,h1,h2⟩:=A.Ld.all a ha;exact ⟨d,x,nt (a04 _ _ h1),h2⟩
 ·obtain ⟨l0,t0,d,h1,h2⟩:=A.Ld.last;exact ⟨l0,t0,d,h1,nt (a04 _ _ h2)⟩
theorem qL.day {CR:Addr}{Ik:Addr}{m:Rm}{q qk yE:Ad}{es ek ek':List aM}{kk Vr:List Str}{Em:List Addr}{n b:Int} (A:qL CC CR CK C H c dc jl ll m q es ks ls qk ek kk jO ts pr ws n b)
  (f:∀ a u,a≠c->a≠ll->H a=some u->H' a=some u) (o:H' c=some (.ins CC dc (Fi n b m.z jl Ik))) (L':El C H' Ik Em yE) (K':Kept C H' yE ek' Vr ks) (len:Em.length<=pr.length+1) (hl:Ik=ll\/H Ik=none) (hq:yE=qk\/Fk H yE) :
  qL CC CR CK C H' c dc jl Ik m q es ks ls yE ek' Vr Em ts pr ws n b:=by
 have d:∀ {a:Addr}{kvs:List 0x61},H a=some 0x24->H' a=some 0x24:=fun h=>f _ _ (aK h A.o 0x4) (aK h A.Ld.l 0x4) h;have i:∀ {a D dx:Addr}{fs:List (Str×V)},a≠c->H a=some (.ins D dx fs)->H' a=some (.ins D dx fs):=fun hn h=>f _ _ hn (aK h A.Ld.l 0x4) h;have t:∀ c' xs,H c'=some 0x3E->H' c'=some 0x3E:=fun c' xs h=>f _ _ (aK h A.o 0x4) (aK h A.Ld.l 0x4) h;have R:=A.R;refine ⟨o,⟨i A.mc.1 R.o,⟨i A.mc.2.2 R.K.o,d R.K.h,d R.K.g⟩,d R.U,⟨i A.mc.2.1 R.L.o,d R.L.l1,d R.L.l2,d R.L.l3,d R.L.l4,d R.L.l5⟩⟩,A.S,A.P,fun e he=>t _ _ (A.fr e he),A.M,A.O,A.B,L',K',A.J.keep ?_ t,?_,len,?_,?_,A.mc⟩
 ·rw [f jl _ (aK A.J.l A.o 0x4) A.jn A.J.l,A.J.l]
 ·rcases hl with e | e
  ·rw [e];exact A.jn
  ·exact aq A.J.l e
 ·rcases hq with e | e
  ·rw [e];exact A.kx
  ·exact (aq A.o e.1).symm
 ·rcases hq with e | e
  ·rw [e];exact A.kq
  ·refine ⟨(aq R.L.o e.1).symm,fun a ha hm=>?_⟩;have h0:=e.2 a ha;simp only [List.mem_cons,A0L,A1N] at hm;rcases hm with z | z | z | z | z | z
   ·rw [z,R.L.l1] at h0;cases h0
   ·rw [z,R.L.l2] at h0;cases h0
   ·rw [z,R.L.l3] at h0;cases h0
   ·rw [z,R.L.l4] at h0;cases h0
   ·rw [z,R.L.l5] at h0;cases h0
   ·rw [z,R.U] at h0;cases h0
theorem gU.store {CR:Addr}{m:Rm}{q:Ad}{es:List aM}{fs:List (Str×V)} (a:gU CR CK C H m q es ks) (hc:H c=some (.ins CC dc fs)) (h1:m.z≠c) (h2:q.x≠c) (h3:m.k≠c):gU CR CK C (upd H c (.ins CC dc fs')) m q es ks:=by
 have d:∀ {a:Addr}{kvs:List 0x61},H a=some 0x24->(upd H c (.ins CC dc fs')) a=some 0x24:=fun h=>by rw [ak (aK h hc 0x4)];exact h
 exact ⟨by rw [ak h1];exact a.o,⟨by rw [ak h3];exact a.K.o,d a.K.h,d a.K.g⟩,d a.U,⟨by rw [ak h2];exact a.L.o,d a.L.l1,d a.L.l2,d a.L.l3,d a.L.l4,d a.L.l5⟩⟩
theorem Ux (n:Int) (t:Addr) (ls:List Str) (n1:1<=n) (n2:n<=9999):Pu [Ac n t] [] ls 0 n:=by
 refine ⟨⟨by simp [nms],⟨Ac n t,[],rfl,rfl,rfl,trivial⟩,fun e he=>?_,fun e he=>?_,fun e he=>?_⟩,fun e he=>?_,fun e he hn=>?_,A0f _,A0f _,fun e he=>?_,?_⟩
 ·rw [A0c.mp he];exact ⟨by show 0<=n;lia,by show 0<=n;lia,n2⟩
 ·rw [A0c.mp he]
  show n=n+Sb [Ac n t] ""
  have:Sb [Ac n t] ""=0:=by unfold Sb;rfl
  lia
 ·rw [A0c.mp he];show PyData.strOk ("" : Str)=true;decide +kernel
 ·rw [A0c.mp he];exact ⟨by show (0:Int).natAbs<_;decide,by show (0:Int)<1;decide,by show (1:Int).natAbs<_;decide⟩
 ·rw [A0c.mp he] at hn;exact absurd rfl hn
 ·rw [A0c.mp he];exact .inl rfl
 ·show n+0=n;lia
theorem qL.same {CR:Addr}{m:Rm}{q qk:Ad}{es ek:List aM}{kk:List Str}{n b:Int} (A:qL CC CR CK C H c dc jl ll m q es ks ls qk ek kk jO ts pr ws n b) (s:Same H H'):qL CC CR CK C H' c dc jl ll m q es ks ls qk ek kk jO ts pr ws n b:=by
 refine ⟨s _ _ A.o,A.R.same s,A.S,A.P,fun e he=>s _ _ (A.fr e he),A.M,A.O,A.B,⟨s _ _ A.Ld.l,fun a ha=>?_,?_⟩,A.K.same s,A.J.keep (by rw [s _ _ A.J.l,A.J.l]) fun c' xs h=>s _ _ h,A.jn,A.ln,A.kx,A.kq,A.mc⟩
 ·obtain ⟨d,x,h1,h2⟩:=A.Ld.all a ha;exact ⟨d,x,s _ _ h1,h2⟩
 ·obtain ⟨l0,t,d,h1,h2⟩:=A.Ld.last;exact ⟨l0,t,d,h1,s _ _ h2⟩
def sJ (gs:List Bq) (i:Nat):List Addr:=((gs.take i).map (·.rs)).flatten
theorem sO {gs:List Bq}{x:Bq} (h:gs[i]?=some x):sJ gs (i+1)=sJ gs i++x.rs:=by
 unfold sJ;rw [A1o,h,jP,A2T];simp
theorem Uy (gs:List Bq):sJ gs gs.length=(gs.map (·.rs)).flatten:=by unfold sJ;rw [A1h]
theorem Eo {gs:List Bq} (i:Nat):(sJ gs i).length<=((gs.map (·.rs)).flatten).length:=by
 unfold sJ;have h:gs.map (·.rs)=(gs.take i).map (·.rs)++(gs.drop i).map (·.rs):=by rw [<- jP,A4c]
 rw [h,A2T,iT];lia
structure Xl (H Hx:Hp) (c D:Addr) (u:HO) (gs:List Bq) (jl ll:Addr):Prop where
 old:∀ a v,a≠c->H a=some v->Hx a=some v
 fz:Hx D=some u
 g:Le Hx gs
 gn:∀ x∈gs,x.g≠jl/\x.g≠ll
 l0:H ll=none
inductive vY (vs:List V) (H:Hp) (Q:VK) (cD:XK):Prop
 | mk (n b:Int) (_:vs=[.int n,.int b]) (_:1<=n) (_:n<=9999) (_:0<=b) (_:b<=99) (_:Q .non H):vY vs H Q cD
structure Aw (dat:Addr->List V) (oR:Addr->Int) (lN:Addr->Rw) (ls:List Str) (a:Addr):Prop where
 e:dat a=Rw.vs (oR a) (lN a)
 ok:(lN a).Ok ls
 tx:(lN a).Tx
 d0:0<=oR a
 d1:oR a<=9999
inductive vZ (CC CR CK C:Addr) (K:W.Frag) (vs:List V) (H:Hp) (Q:VK) (cD:XK):Prop
 | mk (c dc l:Addr) (n b:Int) (all:List Addr) (dat:Addr->List V) (oR:Addr->Int) (lN:Addr->Rw) (ls:List Str) (_:vs=[.ref c,.int n,.int b,.ref l]) (_:H c=some (.ins CC dc [])) (_:1<=n) (_:n<=9999) (_:0<=b) (_:b<=99) (_:bT K H l 0x4B) (_:all.length<=30) (_:iK H all dat) (_:(∀ a∈all,Aw dat oR lN ls a)) (_:(∀ n∈ls,n≠""/\PyData.strOk n=true)) (_:∀ jl ll m q es ks qk ek kk jO ts out ws t0 H',(∀ a u,a≠c->H a=some u->H' a=some u)->out.Perm all->Fg dat out->JL [Ac n t0] [] (out.map lN) ws es ks->qL CC CR CK C H' c dc jl ll m q es ks ls qk ek kk jO ts out ws n b->ek.map core=es.map core->Q .non H'):vZ CC CR CK C K vs H Q cD
theorem qM:aQ ["self", "acres", "bears", "rows", "day", "judged_then", "row"] A6e (aJ Av):=0x0
theorem Oh (TC:nW K CC) (TR:jV K CR) (T:cW K C) (F:fK K "__init__" "Court.__init__" Av f fd) {g0:Addr}{d0:FuncData}
  (G0:aL P w K mg base bN 3 g0 d0 ["acres", "bears"] vY) (M0:Ms K mg "check_land" g0 d0 ["acres", "bears"])
  (G1:aL P w K mg base bN 5 g1 d1 A5W (vL CR CK C)) (MK1:Mk K CR g1) (mR:mg "Realm"=some (.ref CR)) (b1:Binds K d1 A5W [])
  (G2:aL P w K mg base bN 5 g2 d2 A5S (oG C)) (m2:Meth K C "twin" g2) (b2:Binds K d2 A5S [])
  (G3:aL P w K mg base bN 5 g3 d3 ["rows"] (vR K)) (M3:Ms K mg "by_days" g3 d3 ["rows"])
  (G4:aL P w K mg base bN 6 g4 d4 A5I (Aa CR CK C)) (M4:Ms K mg "judge" g4 d4 A5I)
  (G5:aL P w K mg base bN 6 g5 d5 ["self", "day"] (vW CC CR CK C)) (m5:Meth K CC "end_day" g5) (b5:Binds K d5 ["self", "day"] []) :
  aL P w K mg base bN 7 f fd A6e (vZ CC CR CK C K):=by
 refine F.ok qM 0x1 0x3;obtain ⟨c,dc,l,n,b,all,dat,oR,lN,ls,rfl,hc,n1,n2,b1',b2',hl,h30,RO,RW,hls,k⟩:=h;have YD:cP 3 _:=hr.mono 0x7;have Rp:cP 5 _:=hr.mono 0x7;refine ⟨_,au (bO (bC G0 YD rfl M0.m M0.k M0.b .nil aY (aj 0x11 0x3D)))
  (au (dX 0x3A 0x11 rfl)
  (au (dX 0x3A (pv 2) rfl)
  (au (dX 0x3A (tM (CX:=bN) (E:=E0) MK1 G1 hr rfl mR b1 .nil aY 0x33) rfl)
  (au (dX 0x3A (eG aC) rfl)
  (au (dX 0x3A (eG (aj (cN (aj aA (aj (ji (CX:=bN) (E:=E0) (bB 0xD rfl) T.cl m2 G2 Rp b2 .nil aY) aC))) aC)) rfl)
  (aG (iz A0W rfl (uV (a2q (bC G3 Rp rfl M3.m M3.k M3.b .nil aY (aj (pv 3) aC)))) (lq rfl (bM (bD (i:=4) qM.nd rfl 0x8) (bM (bD (i:=5) qM.nd rfl 0x8) gj)))
   (au (iz A0W rfl (gH (pv 5)) (bD (i:=6) qM.nd rfl 0x8)
    (aG (bO (jj A0H A0T A0U dR 0xD (aj (cN (aj (pv 6) (aj (bC (CX:=bN) (E:=E0) G4 hr rfl M4.m M4.k M4.b .nil aY (aj 0xD (aj (pv 6) aC))) aC))) aC)))))
   (aG (bO (bW (CX:=bN) (E:=E0) 0x3A TC.cl m5 G5 hr b5 .nil aY (aj (pv 4) aC)))))))))))),?_⟩
 refine ⟨_,rfl,_,rfl,n,b,rfl,n1,n2,b1',b2',?_⟩;refine ⟨_,rfl,_,rfl,c,CC,dc,_,rfl,hc,TC.cl,TC.n1,A0u rfl,?_⟩;generalize hH1:upd _ c _=H1;have c1:H1 c=some (.ins CC dc [("many_acres",.int n)]):=by rw [<- hH1,ao];rfl
 have f1:∀ a u,a≠c->H a=some u->H1 a=some u:=fun a u h1 h2=>by rw [<- hH1,ak h1];exact h2
 clear hH1;refine ⟨_,rfl,_,rfl,c,CC,dc,_,rfl,c1,TC.cl,TC.n2,A0u rfl,?_⟩;generalize hH2:upd _ c _=H2;have c2:H2 c=some (.ins CC dc [("many_acres",.int n),("coins",.int b)]):=by rw [<- hH2,ao];rfl
 have f2:∀ a u,a≠c->H a=some u->H2 a=some u:=fun a u h1 h2=>by rw [<- hH2,ak h1];exact f1 a u h1 h2
 clear hH2 f1 c1;have nc:∀ {a:Addr},H2 a=none->a≠c:=fun h z=>by rw [z,c2] at h;cases h
 refine ⟨_,rfl,fun z dz hz0 hdz0 hnz=>⟨z,dz,n,rfl,ao,n1,n2,fun m q t0 H3 hmz hmd hwd kx RM SP FR fr0=>⟨rfl,?_⟩⟩⟩;subst hmz;subst hmd;have s3:Same H2 H3:=fun a u ha=>kx a u (aq ha hz0) (by rw [ak (aq ha hz0),ak (aq ha hdz0)];exact ha);have qx0:=Fe FR.x;have qk0:=Fe FR.k;have qu0:=Fe FR.u;have qa1:=Fe FR.a1;have qa2:=Fe FR.a2;have qa3:=Fe FR.a3;have qa4:=Fe FR.a4;have qa5:=Fe FR.a5;clear kx FR;have c3:=s3 _ _ c2;refine ⟨_,rfl,c,CC,dc,_,rfl,c3,TC.cl,TC.n3,A0u rfl,?_⟩;have R4:=RM.store (fs':=[("many_acres",.int n),("coins",.int b),("realm",.ref m.z)]) c3 (nc hz0) (nc qx0) (nc qk0);generalize xW:upd _ c _=H4;have eH4:upd H3 c (.ins CC dc [("many_acres",.int n),("coins",.int b),("realm",.ref m.z)])=H4:=xW;rw [eH4] at R4;have c4:H4 c=some (.ins CC dc [("many_acres",.int n),("coins",.int b),("realm",.ref m.z)]):=by rw [<- xW,ao];rfl
 have f4:∀ a u,a≠c->H3 a=some u->H4 a=some u:=fun a u h1 h2=>by rw [<- xW,ak h1];exact h2
 have t4:jy H4 t0 0 1:=f4 _ _ (aK fr0 c3 0x4) fr0;clear xW eH4 RM;refine ⟨small 0xA,fun jl hjl=>?_⟩
 apply 0o1 H4 jl hjl sj j5 H5
 have c5:=sj _ _ c4;refine ⟨_,rfl,c,CC,dc,_,rfl,c5,TC.cl,TC.n4,A0u rfl,?_⟩;have R6:=(R4.same sj).store (fs':=[("many_acres",.int n),("coins",.int b),("realm",.ref m.z),("judged",.ref jl)]) c5 (nc hz0) (nc qx0) (nc qk0);generalize YL:upd _ c _=H6;have eH6:upd H5 c (.ins CC dc [("many_acres",.int n),("coins",.int b),("realm",.ref m.z),("judged",.ref jl)])=H6:=YL;rw [eH6] at R6;have c6:H6 c=some (.ins CC dc [("many_acres",.int n),("coins",.int b),("realm",.ref m.z),("judged",.ref jl)]):=by rw [<- YL,ao];rfl
 have f6:∀ a u,a≠c->H5 a=some u->H6 a=some u:=fun a u h1 h2=>by rw [<- YL,ak h1];exact h2
 have j6:H6 jl=some (.lst []):=f6 _ _ (aK j5 c5 0x4) j5;have t6:jy H6 t0 0 1:=f6 _ _ (aK (sj _ _ t4) c5 0x4) (sj _ _ t4);have f26:∀ a u,a≠c->H2 a=some u->H6 a=some u:=fun a u h1 h2=>f6 a u h1 (sj _ _ (f4 a u h1 (s3 _ _ h2)));have jl0:H2 jl=none:=by
  cases hq:H2 jl with
  | none=>rfl
  | some u =>
   by_cases e:jl=c
   ·rw [e,c4] at hjl;cases hjl
   ·rw [f4 jl u e (s3 _ _ hq)] at hjl;cases hjl
 clear YL eH6 R4 c5 j5 t4 sj hjl;have PU0:=Ux n t0 ls n1 n2;have fr6:∀ e∈[Ac n t0],jy H6 e.ta e.due.1 e.due.2:=fun e he=>by rw [A0c.mp he];exact t6
 have MN0:Mn [Ac n t0]:=fun e he=>by rw [A0c.mp he];show PyData.strOk ("" : Str)=true;decide +kernel
 have OK0:sI [Ac n t0] []:=rfl;have CB0:Vs [Ac n t0] n:=⟨_,A0c.mpr rfl,rfl,rfl⟩;refine ⟨_,rfl,c,CC,dc,_,_,rfl,c6,TC.cl,TC.n3,rfl,m.z,CR,m.dz,_,_,rfl,R6.o,TR.cl,TR.n1,rfl,q.x,q.dx,_,rfl,R6.L.o,rfl,?_⟩;dsimp only [oK,List.cons_append,List.nil_append];refine ⟨q.x,q.dx,q.a1,q.a2,q.a3,q.a4,q.a5,_,_,_,_,_,n,rfl,R6.L,rfl,n1,n2,fun y dy y1 y2 y3 y4 y5 H7 s7 L7 hy0 hy1 hy2 hy3 hy4 hy5 _=>⟨small 0xA,fun t ht=>⟨small 0xA,fun ll hll=>?_⟩⟩⟩;have st:=aP ht (.tup [V.int 0,V.ref y]);have t7:(upd H7 t (.tup [V.int 0,V.ref y])) t=some (.tup [V.int 0,V.ref y]):=ao;generalize upd H7 t (.tup [V.int 0,V.ref y])=H8 at st t7 hll ⊢
 apply 0o1 H8 ll hll sl l9 H9
 have Uz:H6 ll=none:=(s7.trans st).free hll;have s9:Same H6 H9:=s7.trans (st.trans sl);have c9:=s9 _ _ c6;have t9:=sl _ _ t7;refine ⟨_,rfl,c,CC,dc,_,rfl,c9,TC.cl,TC.n5,A0u rfl,?_⟩;have nyc:y≠c:=fun z=>by rw [z,c6] at hy0;cases hy0
 have R10:=(R6.same s9).store (fs':=Fi n b m.z jl ll) c9 (nc hz0) (nc qx0) (nc qk0);have K10:Kept C _ (adL y dy y1 y2 y3 y4 y5 n) [Ac n t0] [] []:=Kept.store (fs':=Fi n b m.z jl ll) ⟨L7.same (st.trans sl),fun e he=>s9 _ _ (fr6 e he),PU0.W,MN0,OK0,A3v _⟩ c9 nyc;have A0:qL CC CR CK C (upd H9 c 0x47) c dc jl ll m q [Ac n t0] [] ls (adL y dy y1 y2 y3 y4 y5 n) [Ac n t0] [] [t] [] [] [] n b:=by
  have tk:∀ {a:Addr}{xs:List V},H9 a=some 0x3E->(upd H9 c 0x47) a=some 0x3E:=fun h=>by rw [ak (aK h c9 0x4)];exact h
  have lk:∀ {a:Addr}{xs:List V},H9 a=some (.lst xs)->(upd H9 c 0x47) a=some (.lst xs):=fun h=>by rw [ak (aK h c9 0x4)];exact h
  refine ⟨ao,R10,SP,PU0,fun e he=>tk (s9 _ _ (fr6 e he)),MN0,OK0,CB0,⟨lk l9,fun a ha=>?_,[],t,0,rfl,tk t9⟩,K10,⟨lk (s9 _ _ j6),rfl,rfl,fun i t' r' w' e1 _ _=>by simp at e1⟩,aq j6 Uz,A0f _,nyc,⟨(aq R6.L.o hy0).symm,fun a ha hm=>?_⟩,nc hz0,nc qx0,nc qk0⟩
  ·rw [A0c.mp ha];exact ⟨0,y,tk t9,by decide⟩
  ·have h0:H6 a=none:=by
    simp only [adL,List.mem_cons,A0L,A1N] at ha;rcases ha with z | z | z | z | z <;> (rw [z];assumption)
   simp only [List.mem_cons,A0L,A1N] at hm;rcases hm with z | z | z | z | z | z
   ·rw [z,R6.L.l1] at h0;cases h0
   ·rw [z,R6.L.l2] at h0;cases h0
   ·rw [z,R6.L.l3] at h0;cases h0
   ·rw [z,R6.L.l4] at h0;cases h0
   ·rw [z,R6.L.l5] at h0;cases h0
   ·rw [z,R6.U] at h0;cases h0
 have Vt:∀ a u,a≠c->H a=some u->(upd H9 c 0x47) a=some u:=fun a u h1 h2=>by rw [ak h1];exact s9 _ _ (f26 a u h1 (f2 a u h1 h2))
 have hd:upd H9 c (.ins CC dc (nA "lands" (.ref ll) [("many_acres",.int n),("coins",.int b),("realm",.ref m.z),("judged",.ref jl)]))=upd H9 c 0x47:=rfl;rw [hd];have ll2:H2 ll=none:=by
  cases hq:H2 ll with
  | none=>rfl
  | some u =>
   by_cases e:ll=c
   ·rw [e,c6] at Uz;cases Uz
   ·rw [f26 ll u e hq] at Uz;cases Uz
 generalize upd H9 c 0x47=HA at A0 Vt R10 K10 ⊢;clear c9 t9 l9 s9 sl st t7 s7 L7 R6 c6 j6 t6 f26 fr6 MN0 OK0 CB0 K10 R10 hd f6 f4 c4 c3 s3;have fH:∀ {a:Addr},H2 a=none->H a=none:=fun {a} h=>by
  cases hq:H a with
  | none=>rfl
  | some u =>
   by_cases e:a=c
   ·rw [e,c2] at h;cases h
   ·rw [f2 a u e hq] at h;cases h
 replace jl0:=fH jl0
 replace ll2:=fH ll2
 replace qu0:=fH qu0
 replace qa1:=fH qa1
 replace qa2:=fH qa2
 replace qa3:=fH qa3
 replace qa4:=fH qa4
 replace qa5:=fH qa5
 have hlA:bT K HA l 0x4B:=by
  rcases hl with (h | ⟨o,h⟩) | h
  ·exact .inl (.inl (Vt _ _ (aK h hc 0x4) h))
  ·exact .inl (.inr ⟨o,Vt _ _ (aK h hc 0x4) h⟩)
  ·exact .inr h
 have ROA:iK HA all dat:=⟨fun a ha=>⟨Vt _ _ (aK (RO.1 a ha).1 hc 0x4) (RO.1 a ha).1,(RO.1 a ha).2⟩,RO.2⟩;refine ⟨_,rfl,l,all,dat,rfl,hlA,by lia,ROA,fun D gs out HB sB QX hDB GA GO hp hu fg=>⟨D,_,rfl,hDB,fun oD=>⟨D,oD,_,rfl,ao,?_⟩⟩⟩;have nDA:∀ {a:Addr}{u:HO},HA a=some u->a≠D:=fun h=>aq h QX;have sF:Same HA (upd HB D (.gM oD (.dK (qW gs)))):=fun a u h=>by rw [ak (nDA h)];exact sB _ _ h
 have GF:Le (upd HB D (.gM oD (.dK (qW gs)))) gs:=fun x hx=>by rw [ak (aK (GA x hx) hDB 0x4)];exact GA x hx
 have DF:(upd HB D (.gM oD (.dK (qW gs)))) D=some (.gM oD (.dK (qW gs))):=ao;generalize upd HB D (.gM oD (.dK (qW gs)))=HF at sF GF DF ⊢;have AF:=A0.same sF;have S0:Xl H HF c D (.gM oD (.dK (qW gs))) gs jl ll:=⟨fun a v h1 h2=>sF _ _ (Vt a v h1 h2),DF,GF,fun x hx=>⟨fun z=>(by have:=fg x hx;rw [z,A0.J.l] at this;cases this),fun z=>(by have:=fg x hx;rw [z,A0.Ld.l] at this;cases this)⟩,ll2⟩;have Xm:∀ r∈out,H r=some (.tup (dat r))/\Aw dat oR lN ls r:=fun r hr=>⟨(RO.1 r (hp.mem_iff.mp hr)).1,RW r (hp.mem_iff.mp hr)⟩;have ol:out.length<=30:=by rw [hp.length_eq];exact h30
 have cat:=GO.cat;have gm:∀ x∈gs,∀ r∈x.rs,r∈out:=fun x hx r hr=>by rw [<- cat];exact List.mem_flatten.mpr ⟨_,A0m.mpr ⟨x,hx,rfl⟩,hr⟩
 clear sF GF DF A0 Vt nDA GA sB hDB hlA ROA fg QX;refine Oa (a:=D) (o:=oD) (kvs:=qW gs) (fun i σ Hx=>∃ (u4 u5 u6:Option V) (ll:Addr) (es ek:List aM) (ks kk ws:List Str) (qk:Ad) (jO ts:List Addr),σ=[some (.ref c),some (.int n),some (.int b),some (.ref l),u4,u5,u6]/\Xl H Hx c D (.gM oD (.dK (qW gs))) gs jl ll /\
   qL CC CR CK C Hx c dc jl ll m q es ks ls qk ek kk jO ts (sJ gs i) ws n b/\JL [Ac n t0] [] ((sJ gs i).map lN) ws es ks/\ek.map core=es.map core)
  ⟨none,none,none,ll,_,_,_,_,_,_,_,_,rfl,S0,AF,.nil,rfl⟩ (fun i σ Hx _ h=>by obtain ⟨_,_,_,_,_,_,_,_,_,_,_,_,_,h,_⟩:=h;exact h.fz) ?_ ?_
 ·rintro i kv σ Hx p hkv ⟨u4,u5,u6,ll,es,ek,ks,kk,ws,qk,jO,ts,rfl,SX,AX,JX,_⟩ hp0;unfold qW at hkv;rw [jY] at hkv;obtain ⟨x,hx,rfl⟩:=A0w.mp hkv;have hxm:=wD hx;have sp:=aP hp0 (.tup [V.int x.d,V.ref x.g]);have hpt:(upd Hx p (.tup [V.int x.d,V.ref x.g])) p=some (.tup [V.int x.d,V.ref x.g]):=ao;refine ⟨p,_,rfl,bR.of hpt,rfl,_,_,rfl,_,_,rfl,rfl,?_⟩;have SY:Xl H (upd Hx p (.tup [V.int x.d,V.ref x.g])) c D (.gM oD (.dK (qW gs))) gs jl ll:=⟨fun a v h1 h2=>sp _ _ (SX.old a v h1 h2),sp _ _ SX.fz,fun y hy=>sp _ _ (SX.g y hy),SX.gn,SX.l0⟩;have AY:=AX.same sp
  show LC _ _ _ _ (upd Hx p (.tup [V.int x.d,V.ref x.g]))
  generalize upd Hx p (.tup [V.int x.d,V.ref x.g])=HY at SY AY ⊢;clear sp hpt hp0 SX AX;refine ⟨_,rfl,x.g,rfl,⟨_,bT.of (SY.g x hxm)⟩,?_⟩;refine iB (K:=K) (a:=x.g) (xs:=x.rs.map V.ref) (fun j σ Hz=>∃ (u6:Option V) (es:List aM) (ks ws:List Str) (ts:List Addr),σ=[some (.ref c),some (.int n),some (.int b),some (.ref l),some (.int x.d),some (.ref x.g),u6]/\Xl H Hz c D (.gM oD (.dK (qW gs))) gs jl ll /\
    qL CC CR CK C Hz c dc jl ll m q es ks ls qk ek kk jO ts (sJ gs i++x.rs.take j) ws n b/\JL [Ac n t0] [] ((sJ gs i++x.rs.take j).map lN) ws es ks)
   ⟨_,es,ks,ws,ts,rfl,SY,by rw [List.take_zero,A1s];exact AY,by rw [List.take_zero,A1s];exact JX⟩ (fun j σ Hz _ h=>by obtain ⟨_,_,_,_,_,_,h,_⟩:=h;exact bT.of (h.g x hxm)) ?_ ?_
  ·rintro j v σ Hz hv ⟨u6,es,ks,ws,ts,rfl,SZ,AZ,JZ⟩;rw [jY] at hv;obtain ⟨r,hr,rfl⟩:=A0w.mp hv;obtain ⟨hrt,YW⟩:=Xm r (gm x hxm r (wD hr));rw [YW.e] at hrt;have hrz:=SZ.old r _ (aK hrt hc 0x4) hrt;have tk:x.rs.take (j+1)=x.rs.take j++[r]:=by rw [A1o,hr];rfl
   have plen:(sJ gs i++x.rs.take j).length<=30:=by
    have h1:=Eo (gs:=gs) (i+1);rw [sO hx,cat,iT] at h1;rw [iT,A0G];lia
   refine ⟨_,rfl,c,CC,dc,_,_,rfl,AZ.o,TC.cl,TC.n4,rfl,.inl ⟨rfl,_,bT.of AZ.J.l⟩,_,rfl,_,rfl,c,CC,dc,_,_,rfl,AZ.o,TC.cl,TC.n3,rfl,_,rfl,?_⟩;refine ⟨m,q,es,ks,ls,_,r,lN r,oR r,n,rfl,AZ.R,AZ.S,AZ.P,AZ.fr,YW.ok,hls,by lia,hrz,fun w' es' ks' H' J R' fr' o=>⟨small 0xA,fun t ht=>?_⟩⟩;have nt:=aP ht 0x57;have jt:=nt _ _ (jK.lst AZ.R o AZ.J.l);refine ⟨jl,_,_,rfl,rfl,jt,bU (by rw [cg,AZ.J.lt];lia),?_⟩;refine ⟨_,es',ks',ws++[w'],ts++[t],rfl,⟨fun a v h1 h2=>?_,?_,fun y hy=>?_,SZ.gn,SZ.l0⟩,?_,?_⟩
   ·have hz:=SZ.old a v h1 h2;rw [ak (aq h2 jl0)];exact nt _ _ (o a v (aq h2 qu0) (aq h2 qa1) (aq h2 qa2) (aq h2 qa3) (aq h2 qa4) (aq h2 qa5) hz)
   ·have R:=AZ.R;have h:=SZ.fz;rw [ak (aK h AZ.J.l 0x4)];exact nt _ _ (o D _ (aK h R.U 0x4) (aK h R.L.l1 0x4) (aK h R.L.l2 0x4) (aK h R.L.l3 0x4) (aK h R.L.l4 0x4) (aK h R.L.l5 0x4) h)
   ·rw [ak (SZ.gn y hy).1];exact nt _ _ (jK.lst AZ.R o (SZ.g y hy))
   ·rw [tk,<- A2J];exact AZ.judge YW.ok YW.tx hls J R' fr' o ht
   ·rw [tk,<- A2J,jP];exact .snoc JZ J
  ·rintro σ Hz ⟨u6,es,ks,ws,ts,rfl,SZ,AZ,JZ⟩;rw [cg,A1h,<- sO hx] at AZ JZ;have hday:x.d<=9999:=by
    obtain ⟨a,ha⟩:=List.exists_mem_of_ne_nil _ (GO.ne x hxm);have h1:=GO.day x hxm a ha;obtain ⟨_,RWa⟩:=Xm a (gm x hxm a ha);rw [RWa.e] at h1;have h2:iy (Rw.vs (oR a) (lN a))=oR a:=by cases lN a <;> rfl
    rw [h2] at h1;rw [<- h1];exact RWa.d1
   have ln1:jO.length+1<=(sJ gs (i+1)).length+1:=by
    have h1:=AY.ln;have h2:0<x.rs.length:=List.length_pos_iff.mpr (GO.ne x hxm);rw [sO hx,iT];lia
   have pl2:=Eo (gs:=gs) (i+1);rw [cat] at pl2;refine ⟨_,rfl,c,dc,_,rfl,AZ.o,rfl,_,rfl,?_⟩;refine ⟨c,dc,jl,ll,m,q,es,ks,qk,ek,kk,jO,n,b,x.d,rfl,AZ.o,AZ.R,AZ.P.W,AZ.M,AZ.O,AZ.fr,AZ.B.val AZ.P.W.nd,n1,n2,hday,AZ.Ld,AZ.K,by lia,fun Ik Em yE ek' Vr H' fr o' L' K' ec len hl' hq'=>?_⟩;refine ⟨_,_,_,Ik,es,ek',ks,Vr,ws,yE,Em,ts,rfl,⟨fun a v h1 h2=>fr a v h1 (aq h2 SZ.l0) (SZ.old a v h1 h2),fr _ _ (aK SZ.fz AZ.o 0x4) (aK SZ.fz AZ.Ld.l 0x4) SZ.fz,fun y hy=>fr _ _ (aK (SZ.g y hy) AZ.o 0x4) (SZ.gn y hy).2 (SZ.g y hy),fun y hy=>⟨(SZ.gn y hy).1,?_⟩,?_⟩,AZ.day fr o' L' K' 0x2 hl' hq',JZ,ec⟩
   ·rcases hl' with e | e
    ·rw [e];exact (SZ.gn y hy).2
    ·exact aq (SZ.g y hy) e
   ·rcases hl' with e | e
    ·rw [e];exact SZ.l0
    ·cases hq2:H Ik with
     | none=>rfl
     | some v =>
      by_cases ec2:Ik=c
      ·rw [ec2,AZ.o] at e;cases e
      ·rw [SZ.old Ik v ec2 hq2] at e;cases e
 ·rintro σ Hx ⟨u4,u5,u6,ll,es,ek,ks,kk,ws,qk,jO,ts,rfl,SX,AX,JX,EC⟩;have e:(qW gs).length=gs.length:=cg ..;rw [e,Uy,cat] at AX JX;exact k jl ll m q es ks qk ek kk jO ts out ws t0 Hx SX.old hp hu JX AX EC
abbrev UG:Stmt:=inClass (top 44) 5
structure ModB (K:PySem.W.Frag) (P:Params) (mg:Str->Option Value):Prop where
 bounds:∃ a b1 b2 b3 b4 b5 b6 b7,mg "BOUNDS"=some (.ref a)/\KD K P a [("day",.ref b1),("acres",.ref b2),("service",.ref b3),("bears",.ref b4),("edge",.ref b5),("number",.ref b6),("entry",.ref b7)]/\KTp K b4 [.int 0,.int 99]
inductive Im (vs:List V) (H:Hp) (Q:VK) (cD:XK):Prop
 | mk (n:Int) (_:vs=[.str "bears",.int n]) (_:0<=n) (_:n<=99) (_:Q (.bl true) H):Im vs H Q cD
theorem Xn {r:Addr}{Q:VK} (hp:H p=some 0x3E) (hr:H r=some (.tup ys)) (fx:xs.all fD=true) (fy:ys.all fD=true) (k:Q (.bl (decide (xs=ys))) H):ZJ (.ref p) (.ref r) H Q:=by
 refine ⟨.tuple (xs.map gK),.tuple (ys.map gK),.tup hp (jU xs fx),.tup hr (jU ys fy),jr xs fx,jr ys fy,?_,?_⟩
 ·have:=nQ xs
  show PyData.depthAll (xs.map gK)+1<=8
  lia
 ·show Q (.bl (PyData.eqvAll (xs.map gK) (ys.map gK))) H
  rw [kY xs ys fx fy];exact k
inductive Io (CC:Addr) (vs:List V) (H:Hp) (Q:VK) (cD:XK):Prop
 | mk (c dc z jl ll:Addr) (n b:Int) (ts pr:List Addr) (ws:List Str) (dat:Addr->List V) (i:Nat) (r:Addr) (w:Str) (_:vs=[.ref c,.ref r]) (_:H c=some (.ins CC dc (Fi n b z jl ll))) (_:fM H jl ts pr ws) (_:(∀ a∈pr,H a=some (.tup (dat a))/\(dat a).all fD=true)) (_:(pr.map dat).Nodup) (_:pr[i]?=some r) (_:ws[i]?=some w) (_:Q (.str w) H):Io CC vs H Q cD
theorem UJ (F:fK K "fits" "fits" JT f fd) (mo:ModB K w.params mg):aL P w K mg base bN 1 f fd ["sort", "piece"] Im:=by
 obtain ⟨aB,b1,b2,b3,b4,b5,b6,b7,mB,kB,t2⟩:=mo.bounds;refine F.ok rP 0x1 0x3;obtain ⟨n,rfl,h1,h2,k⟩:=h;refine ⟨_,au (bQ (aV JD 0x3A (cY rfl mB rfl (v:=.ref aB)) 0x16)
   (au (qZ (aO JF (cY rfl mB rfl (v:=.ref aB)) 0x3A 0x5) (lq rfl (bM (bD (i:=2) rP.nd rfl 0x8) (bM (bD (i:=3) rP.nd rfl 0x8) gj))))
   (aG (aZ (BZ BK BK (pv 2) 0x11 (pv 3))))) aX) cB,?_⟩
 refine ⟨_,rfl,_,aB,_,rfl,rfl,kB,_,rfl,dB ?_⟩;refine ⟨_,rfl,aB,_,_,_,rfl,rfl,kB,rfl,?_⟩;refine ⟨b4,_,rfl,t2.sq _,rfl,_,_,rfl,_,_,rfl,rfl,?_⟩;refine ⟨_,rfl,_,rfl,_,_,rfl,rfl,_,rfl,?_⟩;rw [A0j h1];refine dB ⟨_,rfl,_,_,rfl,rfl,?_⟩
 show Q (.bl (decide (n<=99))) H
 rw [A0j h2];exact k
theorem UL:aQ ["acres", "bears"] ["acres", "bears"] (aJ Aq):=0x0
theorem Oi (F:fK K "check_land" "check_land" Aq f fd)  (G1:aL P w K mg base bN 2 g1 d1 ["acres"] JV) (M1:Ms K mg "check_acres" g1 d1 ["acres"])
  (G2:aL P w K mg base bN 1 g2 d2 ["sort", "piece"] Im) (M2:Ms K mg "fits" g2 d2 ["sort", "piece"]):aL P w K mg base bN 3 f fd ["acres", "bears"] vY:=by
 refine F.ok UL 0x1 0x3;obtain ⟨n,b,rfl,n1,n2,b1,b2,k⟩:=h;have hr1:cP 1 _:=hr.mono 0x7;refine ⟨_,au (bO (bC G1 hr rfl M1.m M1.k M1.b .nil aY (aj 0x3A aC)))
  (aG (bQ (gO (dU (bC G2 hr1 rfl M2.m M2.k M2.b .nil aY (aj aN 0x33)))) cB aX)),?_⟩
 exact ⟨_,rfl,n,rfl,n1,n2,_,rfl,b,rfl,b1,b2,_,rfl,cu k⟩
theorem Ip:aQ ["self", "row", "charter", "word"] ["self", "row"] (aJ UG):=0x0
theorem Xo (TC:nW K CC) (F:fK K "verdict" "Court.verdict" UG f fd):aL P w K mg base bN 2 f fd ["self", "row"] (Io CC):=by
 refine F.ok Ip 0x1 0x3;obtain ⟨c,dc,z,jl,ll,n,b,ts,pr,ws,dat,i,r,w0,rfl,hc,J,hd,nd,hi,hw,k⟩:=h;refine ⟨_,au (iz A0W rfl (gH 0xD) (lq rfl (bM (bD (i:=2) Ip.nd rfl 0x8) (bM (bD (i:=3) Ip.nd rfl 0x8) gj)))
  (aG (bQ (aV (ZK (u64 hr)) (pv 2) 0x11 (bH _)) (aG (aZ (pv 3))) aX))) cB,?_⟩
 have hil:=(A0l.mp hi).1;have rm:=wD hi;refine ⟨_,rfl,c,CC,dc,_,_,rfl,hc,TC.cl,TC.n4,rfl,jl,rfl,⟨_,bT.of J.l⟩,?_⟩;refine iB (K:=K) (a:=jl) (xs:=ts.map V.ref) (fun j σ Hx=>∃ (u2 u3:Option V),σ=[some (.ref c),some (.ref r),u2,u3]/\Hx=H/\j<=i)
  ⟨none,none,rfl,rfl,A0Z _⟩ (fun j σ Hx _ h=>by obtain ⟨_,_,_,h,_⟩:=h;rw [h];exact bT.of J.l) ?_ ?_
 ·rintro j v σ Hx hv ⟨u2,u3,rfl,rfl,hji⟩;rw [jY] at hv;obtain ⟨t,ht,rfl⟩:=A0w.mp hv;obtain ⟨p,hp⟩:∃ p,pr[j]?=some p:=⟨_,ju 0x2⟩;obtain ⟨w1,hw1⟩:∃ w1,ws[j]?=some w1:=⟨_,ju (by rw [J.lw];lia)⟩;have tt:=J.at' j t p w1 ht hp hw1;have pm:=wD hp;refine ⟨t,_,rfl,bR.of tt,rfl,_,_,rfl,_,_,rfl,rfl,?_⟩;refine ⟨_,rfl,_,rfl,Xn (hd p pm).1 (hd r rm).1 (hd p pm).2 (hd r rm).2 ⟨_,rfl,iQ (fun e=>?_) (fun e=>?_)⟩⟩
  ·have ed:dat p=dat r:=sS e;have a:(pr.map dat)[j]?=some (dat r):=by rw [jY,hp,<- ed];rfl
   have a2:(pr.map dat)[i]?=some (dat r):=by rw [jY,hi];rfl
   have hl:j<(pr.map dat).length:=by rw [cg];lia
   have eij:=(List.getElem?_inj hl nd).mp (a.trans a2.symm);subst eij;rw [hw] at hw1;injection hw1 with hw1;subst hw1;exact ⟨_,rfl,k⟩
  ·refine ⟨_,_,rfl,rfl,?_⟩
   by_cases eij:j=i
   ·subst eij;rw [hi] at hp;injection hp with hp;subst hp;exact absurd (A0j rfl) e
   ·lia
 ·rintro σ Hx ⟨u2,u3,rfl,rfl,hji⟩;rw [cg,J.lt] at hji;exact absurd hil 0x2
end
abbrev Ir:Stmt:=top 62
inductive ur (vs:List V) (H:Hp) (Q:VK) (cD:XK):Prop
 | mk (q:Ad) (es:List aM) (ks ls:List Str) (j:Nat) (r:Addr) (bG:Rw) (dy wd:Int) (_:vs=[.ref q.B,.ref r]) (_:Ap q) (_:Bk q H es ks) (_:Pu es ks ls j wd) (_:(∀ e∈es,jy H e.tb e.due.1 e.due.2)) (_:Rw.Ok ls bG) (_:(∀ n∈ls,n≠""/\PyData.strOk n=true)) (_:j<=17) (_:H r=some (.tup (Rw.vs dy bG))) (_:∀ w es' ks' H',Jd es ks bG w es' ks'->Bk q H' es' ks'->(∀ e∈es',jy H' e.tb e.due.1 e.due.2)->dw q H H'->Q (.str w) H'):ur vs H Q cD
theorem dw.tup {q:Ad}{es:List aM} (b:Bk q H es ks) (o:dw q H H')  (h:H c=some 0x3E):H' c=some 0x3E :=
 o c _ (aK h b.l 0x4) (aK h b.h 0x4) (aK h b.o 0x4) (aK h b.d 0x4) (aK h b.k 0x4) h
theorem Lg:aQ ["_law_book_here", "_law_row_here", "_law_word_here"] A5J (aJ Ir):=0x0
theorem UW (F:fK K "_law_word" "_law_word" Ir f fd)  (G1:aL P w K mg base bN 1 g1 d1 A5J Tn) (M1:Ms K mg "_law_why" g1 d1 A5J)
  (G2:aL P w K mg base bN 3 g2 d2 A5J a0K) (M2:Ms K mg "_law_do" g2 d2 A5J):aL P w K mg base bN 4 f fd A5J ur:=by
 refine F.ok Lg 0x1 0x3;obtain ⟨q,es,ks,ls,j,r,bG,dy,wd,rfl,ap,bk,PU,fr,hok,hls,hj,hx,k⟩:=h;have hr1:cP 1 _:=hr.mono 0x7;refine ⟨_,au (aU (i:=2) Lg.nd rfl 0x8 (bC G1 hr1 rfl M1.m M1.k M1.b .nil aY (aj 0x3A 0x33)))
  (au (bQ (aV dO (pv 2) aN (bH _)) (aG (bO (bC G2 hr rfl M2.m M2.k M2.b .nil aY (aj 0x3A 0x33)))) aX)
  (aG (aZ (pv 2)))),?_⟩
 refine ⟨_,rfl,_,rfl,q,es,ks,r,bG,dy,rfl,ap,bk,PU.W.nd,hx,fun z H1 s1 hw=>?_⟩;have b1:=bk.same s1;have ln:=PU.ln;have lk:=PU.lk;refine ⟨_,rfl,rfl,_,rfl,qI (fun e=>?_) (fun ne=>⟨_,rfl,k z es ks H1 (.void ne hw) b1 (fun e he=>s1 _ _ (fr e he)) fun c u _ _ _ _ _ hc=>s1 c u hc⟩)⟩;obtain ⟨y,hst⟩:=hw.stands e;subst e;have hy:=hst.est.1;refine ⟨_,rfl,_,rfl,q,es,ks,r,bG,y,dy,rfl,ap,b1,PU.W,s1 _ _ (fr y hy),(PU.bd y hy).mono 0x2,s1 _ _ hx,hst,fun e n m a s er=>?_,fun e n m a er=>?_,fun e er=>?_,by lia,by lia,fun u1 u2 H2 hB fN o=>?_⟩
 ·subst er;exact PU.new hst.2.2.1 (hls n hok.1).1
 ·subst er;exact ⟨PU.new hst.2.2.1 (hls n hok.1).1,hok.2.1,hok.2.2.1,hok.2.2.2⟩
 ·subst er;exact hok
 ·refine ⟨_,rfl,k _ _ _ H2 (.does 0 0 u1 u2 hst) (hB 0 0) (DW (u1:=u1) (u2:=u2) (·.tb) PU.W.nd hst (fun e he=>dw.tup b1 o (s1 _ _ (fr e he))) fN 0x5 0x5 0x5 (fun _ _ _ _=>rfl) (fun _ _ _ _ _=>rfl) fun _ _ _ _=>rfl) fun c u h1 h2 h3 h4 h5 hc=>o c u h1 h2 h3 h4 h5 (s1 c u hc)⟩
abbrev Ax:Stmt:=top 66
def Oj (n:Int) (t b:Addr):aM:=⟨"",none, "",n,n,(0,1),t,b⟩
theorem V0 (n:Int) (t b:Addr) (ls:List Str) (n1:1<=n) (n2:n<=9999):Pu [Oj n t b] [] ls 0 n:=by
 refine ⟨⟨by simp [nms],⟨Oj n t b,[],rfl,rfl,rfl,trivial⟩,fun e he=>?_,fun e he=>?_,fun e he=>?_⟩,fun e he=>?_,fun e he hn=>?_,A0f _,A0f _,fun e he=>?_,?_⟩
 ·rw [A0c.mp he];exact ⟨by show 0<=n;lia,by show 0<=n;lia,n2⟩
 ·rw [A0c.mp he]
  show n=n+Sb [Oj n t b] ""
  have:Sb [Oj n t b] ""=0:=by unfold Sb;rfl
  lia
 ·rw [A0c.mp he];show PyData.strOk ("" : Str)=true;decide +kernel
 ·rw [A0c.mp he];exact ⟨by show (0:Int).natAbs<_;decide,by show (0:Int)<1;decide,by show (1:Int).natAbs<_;decide⟩
 ·rw [A0c.mp he] at hn;exact absurd rfl hn
 ·rw [A0c.mp he];exact .inl rfl
 ·show n+0=n;lia
theorem V1:∀ {l:List Nat}{x:Nat},x∈l->x<=l.sum
 | y::l,x,h=>by
  rw [A0z];rcases List.mem_cons.mp h with e | e
  ·lia
  ·have:=V1 e;lia
theorem five {l:List Nat} (h:l.Nodup):([l.sum+1,l.sum+2,l.sum+3,l.sum+4,l.sum+5]++l).Nodup:=by
 rw [A1Z];refine ⟨by simp,h,fun a ha b hb e=>?_⟩;have:=V1 hb;simp only [List.mem_cons,A0L,A1N] at ha;lia
inductive qN (K:W.Frag) (vs:List V) (H:Hp) (Q:VK) (cD:XK):Prop
 | mk (l:Addr) (n:Int) (all:List Addr) (dat:Addr->List V) (oR:Addr->Int) (lN:Addr->Rw) (ls:List Str) (_:vs=[.int n,.ref l]) (_:1<=n) (_:n<=9999) (_:bT K H l 0x4B) (_:all.length<=17) (_:iK H all dat) (_:(∀ a∈all,Aw dat oR lN ls a)) (_:(∀ n∈ls,n≠""/\PyData.strOk n=true)) (_:∀ T wl q es ks ts out ws b0 H',Same H H'->H' T=some (.tup [.ref q.B,.ref wl])->H wl=none->(∀ a∈[q.B,q.l,q.h,q.o,q.d,q.kn,q.dd],H a=none)->Ap q->Bk q H' es ks->Pu es ks ls out.length n->(∀ e∈es,jy H' e.tb e.due.1 e.due.2)->fM H' wl ts out ws->out.Perm all->Fg dat out->JL [Oj n 0 b0] [] (out.map lN) ws es ks->Q (.ref T) H'):qN K vs H Q cD
theorem qO:aQ ["_law_acres", "_law_rows_here", "_law_book_here", "_law_words", "_law_row_here"] A6a (aJ Ax):=0x0
theorem Ol (F:fK K "_law_books" "_law_books" Ax f fd)  (G1:aL P w K mg base bN 1 g1 d1 ["_law_acres"] zG) (M1:Ms K mg "_law_book" g1 d1 ["_law_acres"])
  (G2:aL P w K mg base bN 3 g2 d2 ["_law_rows_here"] (vP K)) (M2:Ms K mg "_law_sorted" g2 d2 ["_law_rows_here"])
  (G3:aL P w K mg base bN 4 g3 d3 A5J ur) (M3:Ms K mg "_law_word" g3 d3 A5J):aL P w K mg base bN 5 f fd A6a (qN K):=by
 refine F.ok qO 0x1 0x3;obtain ⟨l,n,all,dat,oR,lN,ls,rfl,n1,n2,hl,h17,RO,RW,hls,k⟩:=h;have hr1:cP 1 _:=hr.mono 0x7;have YD:cP 3 _:=hr.mono 0x7;refine ⟨_,au (aU (i:=2) qO.nd rfl 0x8 (bC G1 hr1 rfl M1.m M1.k M1.b .nil aY (aj 0x3A aC)))
  (au (aU (i:=3) qO.nd rfl 0x8 (eG aC))
  (au (iz A0W rfl (gH (bC G2 YD rfl M2.m M2.k M2.b .nil aY 0x33)) (bD (i:=4) qO.nd rfl 0x8)
   (aG (bO (jj A0H A0T A0U dR (pv 3) (aj (cN (aj (pv 4) (aj (bC G3 hr rfl M3.m M3.k M3.b .nil aY (aj (pv 2) (aj (pv 4) aC))) aC))) aC)))))
  (aG (aZ (cN (aj (pv 2) (aj (pv 3) aC))))))),?_⟩
 refine ⟨_,rfl,n,rfl,fun B bl bh bo bd Xp Xq b0 kvs H1 s1 hB0 hl0 hh0 ho0 hd0 hk0 hdd0 hb0 tH nkd BL fr1=>⟨small 0xA,fun wl hwl=>?_⟩⟩;have Xr:H wl=none:=s1.free hwl;have ndl:[B,bl,bh,bo,bd,Xp,Xq].Nodup:=by
  have a1:=aK BL.b BL.k 0x4;have a2:=aK BL.b BL.x 0x4;have a3:=aK BL.l BL.k 0x4;have a4:=aK BL.l BL.x 0x4;have a5:=aK BL.h BL.k 0x4;have a6:=aK BL.h BL.x 0x4;have a7:=aK BL.o BL.k 0x4;have a8:=aK BL.o BL.x 0x4;have a9:=aK BL.d BL.k 0x4;have a10:=aK BL.d BL.x 0x4;have:=tH.n12;have:=tH.n13;have:=tH.n14;have:=tH.n15;have:=tH.n23;have:=tH.n24;have:=tH.n25;have:=tH.n34;have:=tH.n35;have:=tH.n45;simp [*]
 obtain ⟨q,hq,apq⟩:∃ q:Ad,(q.B=B/\q.l=bl/\q.h=bh/\q.o=bo/\q.d=bd/\q.kn=Xp/\q.dd=Xq/\q.kvs=kvs)/\Ap q :=
  ⟨⟨0,0,[B,bl,bh,bo,bd,Xp,Xq].sum+1,[B,bl,bh,bo,bd,Xp,Xq].sum+2,[B,bl,bh,bo,bd,Xp,Xq].sum+3,[B,bl,bh,bo,bd,Xp,Xq].sum+4,[B,bl,bh,bo,bd,Xp,Xq].sum+5,B,bl,bh,bo,bd,Xp,Xq,kvs,n⟩,⟨rfl,rfl,rfl,rfl,rfl,rfl,rfl,rfl⟩,five ndl⟩
 obtain ⟨rfl,rfl,rfl,rfl,rfl,rfl,rfl,rfl⟩:=hq
 apply 0o1 H1 wl hwl sw w2 H2
 have s2:=s1.trans sw;have B2:Bk q H2 [Oj n 0 b0] []:=cZ.same BL sw;have fr2:∀ e∈[Oj n 0 b0],jy H2 e.tb e.due.1 e.due.2:=fun e he=>by rw [A0c.mp he];exact sw _ _ fr1
 have RO2:iK H2 all dat:=⟨fun a ha=>⟨s2 _ _ (RO.1 a ha).1,(RO.1 a ha).2⟩,RO.2⟩;have nwk:wl≠q.kn:=fun z=>by rw [z,BL.k] at hwl;cases hwl
 refine ⟨_,rfl,l,rfl,all,dat,s2.seq hl,by lia,RO2,fun S out H3 s3 hS0 hS hp hu=>⟨S,rfl,⟨_,bT.of hS⟩,?_⟩⟩;have ol:out.length<=17:=by rw [hp.length_eq];exact h17
 have nSk:S≠q.kn:=fun z=>by rw [z,B2.k] at hS0;cases hS0
 have nSw:S≠wl:=fun z=>by rw [z,w2] at hS0;cases hS0
 have Xm:∀ r∈out,H r=some (.tup (dat r))/\Aw dat oR lN ls r:=fun r hr=>⟨(RO.1 r (hp.mem_iff.mp hr)).1,RW r (hp.mem_iff.mp hr)⟩;refine iB (K:=K) (a:=S) (xs:=out.map V.ref) (fun i σ Hx=>∃ (u4:Option V) (es:List aM) (ks ws:List Str) (ts:List Addr),σ=[some (.int n),some (.ref l),some (.ref q.B),some (.ref wl),u4]/\Same H Hx/\Hx S=some (.lst (out.map V.ref))/\Bk q Hx es ks/\Pu es ks ls (out.take i).length n/\(∀ e∈es,jy Hx e.tb e.due.1 e.due.2)/\fM Hx wl ts (out.take i) ws/\JL [Oj n 0 b0] [] ((out.take i).map lN) ws es ks)
  ⟨none,[Oj n 0 b0],[],[],[],rfl,s2.trans s3,hS,cZ.same B2 s3,V0 n 0 b0 ls n1 n2,fun e he=>s3 _ _ (fr2 e he),⟨s3 _ _ w2,rfl,rfl,fun i t r w e1 _ _=>by simp at e1⟩,.nil⟩ (fun i σ Hx _ h=>by obtain ⟨_,_,_,_,_,_,_,h,_⟩:=h;exact bT.of h) ?_ ?_
 ·rintro i v σ Hx hv ⟨u4,es,ks,ws,ts,rfl,sx,YS,BX,PX,fX,JX,LX⟩;rw [jY] at hv;obtain ⟨r,hr,rfl⟩:=A0w.mp hv;obtain ⟨hrt,YW⟩:=Xm r (wD hr);rw [YW.e] at hrt;have hrx:=sx _ _ hrt;have tk:out.take (i+1)=out.take i++[r]:=by rw [A1o,hr];rfl
  have tl:(out.take i).length<=17:=by rw [A0G];lia
  refine ⟨_,rfl,.inl ⟨rfl,_,bT.of JX.l⟩,_,rfl,_,rfl,_,rfl,q,es,ks,ls,_,r,lN r,oR r,n,rfl,apq,BX,PX,fX,YW.ok,hls,tl,hrx,fun w' es' ks' H' J B' f' o=>⟨small 0xA,fun t ht=>?_⟩⟩;have nt:=aP ht 0x57;have ol:∀ {c:Addr}{xs:List V},c≠q.kn->Hx c=some (.lst xs)->H' c=some (.lst xs):=fun hn h=>o _ _ (aK h BX.l 0x4) (aK h BX.h 0x4) (aK h BX.o 0x4) (aK h BX.d 0x4) hn h;have wt:=nt _ _ (ol nwk JX.l);have tt:(upd H' t 0x57) t=some 0x57:=ao;have J2:fM (upd H' t 0x57) wl ts (out.take i) ws:=JX.keep (by rw [wt,JX.l]) fun c xs h=>nt _ _ (dw.tup BX o h);have B2:=cZ.same B' nt;refine ⟨wl,_,_,rfl,rfl,wt,bU (by rw [cg,JX.lt];lia),?_⟩;have nd:∀ {c:Addr}{kv:List 0x61},(upd H' t 0x57) c=some (.dK kv)->(upd (upd H' t 0x57) wl (.lst (ts.map V.ref++[V.ref t]))) c=some (.dK kv):=fun h=>by rw [ak (aK h wt 0x4)];exact h
  have ntp:∀ {c:Addr}{xs:List V},(upd H' t 0x57) c=some 0x3E->(upd (upd H' t 0x57) wl (.lst (ts.map V.ref++[V.ref t]))) c=some 0x3E:=fun h=>by rw [ak (aK h wt 0x4)];exact h
  refine ⟨_,es',ks',ws++[w'],ts++[t],rfl,fun c u hc=>?_,?_,⟨nd B2.b,B2.vl,B2.vh,B2.vo,B2.vd,B2.vk,B2.vx,nd B2.l,nd B2.h,nd B2.o,nd B2.d,?_,?_,B2.len⟩,?_,fun e he=>ntp (nt _ _ (f' e he)),?_,?_⟩
  ·rw [ak (aq hc Xr)];exact nt _ _ (o c u (aq hc hl0) (aq hc hh0) (aq hc ho0) (aq hc hd0) (aq hc hk0) (sx _ _ hc))
  ·rw [ak nSw];exact nt _ _ (ol nSk YS)
  ·rw [ak (A0k nwk)];exact B2.k
  ·have nwd:wl≠q.dd:=fun z=>by rw [z,BL.x] at hwl;cases hwl
   rw [ak (A0k nwd)];exact B2.x
  ·rw [tk,iT];exact J.pu PX YW.ok hls
  ·rw [tk];exact J2.snoc tt
  ·rw [tk,jP];exact .snoc LX J
 ·rintro σ Hx ⟨u4,es,ks,ws,ts,rfl,sx,YS,BX,PX,fX,JX,LX⟩;rw [cg,A1h] at PX JX LX;refine ⟨_,rfl,_,rfl,small 0xA,fun T hT=>?_⟩;have sT:=aP hT (.tup [V.ref q.B,V.ref wl]);exact k T wl q es ks ts out ws b0 _ (sx.trans sT) ao Xr (fun a ha=>by simp only [List.mem_cons,A0L,A1N] at ha;rcases ha with h | h | h | h | h | h | h <;> (rw [h];assumption)) apq (cZ.same BX sT) PX (fun e he=>sT _ _ (fX e he)) (JX.keep (by rw [sT _ _ JX.l,JX.l]) fun c xs h=>sT _ _ h) hp hu LX
structure Ab (e e':aM):Prop where
 n:e.n=e'.n
 lord:e.lord=e'.lord
 man:e.man=e'.man
 own:e.own=e'.own
 br:e.br=e'.br
 due:e.due=e'.due
abbrev jg:List aM->List aM->Prop:=Paired Ab
theorem jg.nms {es es':List aM} (h:jg es es'):nms es=nms es':=by
 induction h with
 | nil=>rfl
 | @cons x y xs ys a _ ih =>
  show x.n::M.nms xs=y.n::M.nms ys
  rw [a.n,ih]
theorem jg.core {es es':List aM} (h:jg es es'):es.map core=es'.map core:=by
 induction h with
 | nil=>rfl
 | cons a _ ih=>rw [A0g,A0g,ih];unfold M.core;rw [a.n,a.lord,a.man,a.own,a.due]
theorem jg.mem {es es':List aM} (h:jg es es'):∀ {e:aM},e∈es->∃ e'∈es',Ab e e':=by
 induction h with
 | nil=>intro e h;cases h
 | cons a _ ih =>
  intro e he;rcases List.mem_cons.mp he with rfl | h
  ·exact ⟨_,A0h,a⟩
  ·obtain ⟨e',h1,h2⟩:=ih h;exact ⟨e',jh _ h1,h2⟩
theorem jg.map {es es':List aM}{g g':aM->aM} (h:jg es es') (hg:∀ e e',Ab e e'->Ab (g e) (g' e')):jg (es.map g) (es'.map g'):=by
 induction h with
 | nil=>exact .nil
 | cons a _ ih=>exact .cons (hg _ _ a) ih
theorem jg.filter {es es':List aM}{m:Str} (h:jg es es'):jg (es.filter fun y=>decide (y.n≠m)) (es'.filter fun y=>decide (y.n≠m)):=by
 induction h with
 | nil=>exact .nil
 | @cons x y xs ys a _ ih =>
  by_cases c:x.n=m
  ·rw [A1X (by simpa using c),A1X (by rw [<- a.n];simpa using c)];exact ih
  ·rw [A1u (by simpa using c),A1u (by rw [<- a.n];simpa using c)];exact .cons a ih
theorem jg.mod {es es':List aM}{g g':aM->aM}{m m':Str} (h:jg es es') (hm:m=m') (hg:∀ e e',Ab e e'->Ab (g e) (g' e')):jg (mod m g es) (mod m' g' es'):=by
 subst hm;refine jg.map h fun e e' a=>?_
 by_cases c:e.n=m
 ·rw [A0i c,A0i (a.n ▸ c)];exact hg e e' a
 ·rw [A0e c,A0e (fun z=>c (a.n.trans z))];exact a
theorem jg.snoc {es es':List aM}{x x':aM} (h:jg es es') (a:Ab x x'):jg (es++[x]) (es'++[x']):=Paired.snoc h a
theorem a05 {es es':List aM}{bG:Rw}{y y':aM}{t1' t2' b1' b2':Addr} (h:jg es es') (hy:Ab y y'):jg 0x21 (stp y' es' t1' t2' b1' b2' bG):=by
 cases bG with
 | grant e n m a s=>exact jg.snoc (jg.mod h hy.n fun e e' q=>⟨q.n,q.lord,q.man,by show e.own - a=e'.own - a;rw [q.own],q.br,q.due⟩) ⟨rfl,by show some y.n=some y'.n;rw [hy.n],rfl,rfl,rfl,rfl⟩
 | part e n m a =>
  refine jg.snoc (jg.mod h hy.n fun e e' q=>⟨q.n,q.lord,q.man,?_,?_,?_⟩) ⟨rfl,hy.lord,rfl,rfl,rfl,?_⟩
  ·show e.own - a=e'.own - a;rw [q.own]
  ·show e.br - a=e'.br - a;rw [q.br]
  ·show oA (e.due.1 * (e.br - a)) (e.due.2 * e.br)=oA (e'.due.1 * (e'.br - a)) (e'.due.2 * e'.br);rw [q.due,q.br]
  ·show oA (y.due.1 * a) (y.due.2 * y.br)=oA (y'.due.1 * a) (y'.due.2 * y'.br);rw [hy.due,hy.br]
 | convey e m=>exact jg.mod h hy.n fun e e' q=>⟨q.n,q.lord,rfl,q.own,q.br,q.due⟩
 | eZ e =>
  show jg (cH y.n (y.lord.getD "") y.own es) (cH y'.n (y'.lord.getD "") y'.own es')
  rw [hy.n,hy.lord,hy.own];refine jg.map (jg.filter h) fun e e' q=>⟨q.n,?_,q.man,?_,q.br,q.due⟩
  ·show (if e.lord=_ then _ else e.lord)=(if e'.lord=_ then _ else e'.lord);rw [q.lord]
  ·show (if e.n=_ then e.own+_ else e.own)=(if e'.n=_ then e'.own+_ else e'.own);rw [q.n,q.own]
theorem dZ.ab {es es':List aM}{bG:Rw}{y:aM} (h:jg es es') (hst:dZ es ks y bG):∃ y',dZ es' ks y' bG/\Ab y y':=by
 obtain ⟨y',hm,a⟩:=h.mem hst.est.1;refine ⟨y',?_,a⟩;cases bG with
 | grant e n m b s=>exact ⟨hm,a.n ▸ hst.2.1,hst.2.2.1,a.own ▸ hst.2.2.2⟩
 | part e n m b=>exact ⟨hm,a.n ▸ hst.2.1,hst.2.2.1,a.own ▸ hst.2.2.2⟩
 | convey e m=>exact ⟨hm,a.n ▸ hst.2⟩
 | eZ e=>exact ⟨hm,a.n ▸ hst.2⟩
theorem Wd.ab {es es':List aM}{bG:Rw}{w:Str} (h:jg es es') (hw:Wd es ks bG w):Wd es' ks bG w:=by
 cases hw with
 | no q=>exact .no (h.nms ▸ q)
 | tk e q1 q2=>exact .tk e (h.nms ▸ q1) q2
 | ac e hy hn q1 q2 =>
  obtain ⟨y',hm,a⟩:=h.mem hy;exact .ac e hm (a.n ▸ hn) q1 (a.own ▸ q2)
 | st hst =>
  obtain ⟨y',hs,_⟩:=dZ.ab h hst;exact .st hs
theorem Jd.det {es es' e1 e1':List aM}{k1 k1':List Str}{bG:Rw}{w w':Str} (h:jg es es') (nd':(nms es').Nodup) (J:Jd es ks bG w e1 k1) (J':Jd es' ks bG w' e1' k1'):w=w'/\jg e1 e1'/\k1=k1':=by
 cases J with
 | void ne hw =>
  have hw':=hw.ab h;cases J' with
  | void ne' hw2=>exact ⟨hw'.uniq nd' hw2,h,rfl⟩
  | does _ _ _ _ hst=>exact absurd (hw'.uniq nd' (.st hst)) ne
 | does _ _ _ _ hst =>
  obtain ⟨y',hs,a⟩:=dZ.ab h hst;cases J' with
  | void ne' hw2=>exact absurd ((Wd.st hs).uniq nd' hw2).symm ne'
  | does _ _ _ _ hst' =>
   have:=vH nd' hs.est.1 hst'.est.1 (hs.est.2.1.trans hst'.est.2.1.symm);subst this;exact ⟨rfl,a05 h a,rfl⟩
theorem JL.inv {Fj es:List aM}{L:List Rw} (h:JL Fj Fl L ws es ks):∀ {rws:List Rw}{bG:Rw},L=rws++[bG]->∃ ws0 w e1 k1,ws=ws0++[w]/\JL Fj Fl rws ws0 e1 k1/\Jd e1 k1 bG w es ks:=by
 cases h with
 | nil=>intro rws bG e;simp at e
 | snoc h J =>
  intro rws bG e;obtain ⟨e1,e2⟩:=List.append_inj' e rfl;injection e2 with e2;subst e1;subst e2;exact ⟨_,_,_,_,rfl,h,J⟩
theorem JL.det {Fj Xu es:List aM}{rws:List Rw} (h0:jg Fj Xu) (J:JL Fj Fl rws ws es ks):∀ {ws':List Str}{es':List aM}{ks':List Str},JL Xu Fl rws ws' es' ks'->(∀ {a06 ws1 e1 k1},JL Xu Fl a06 ws1 e1 k1->a06 <+: rws->(M.nms e1).Nodup)->ws=ws'/\jg es es'/\ks=ks':=by
 induction J with
 | nil =>
  intro ws' es' ks' J' _;generalize hL:([]:List Rw)=L at J';cases J' with
  | nil=>exact ⟨rfl,h0,rfl⟩
  | snoc _ _=>exact absurd (A1v List.length hL) 0xA
 | snoc J1 D ih =>
  intro ws' es' ks' J' nd;obtain ⟨ws0,w,e1,k1,rfl,J1',D'⟩:=J'.inv rfl;obtain ⟨q1,q2,q3⟩:=ih J1' fun hj hp=>nd hj (hp.trans (A3O _ _));subst q3;obtain ⟨p1,p2,p3⟩:=D.det q2 (nd J1' (A3O _ _)) D';exact ⟨by rw [q1,p1],p2,p3⟩
theorem V2 {o o':List Addr} (hr:∀ a∈o,gG (dat a)) (h:Fg dat o) (h':Fg dat o') (p:o.Perm o'):o=o':=by
 refine A3H (le:=fun a b=>eY (dat a) (dat b)=true) (fun a b ha hb h1 h2=>?_) h h' p;have:=Ef (hr a ha) (hr b (p.mem_iff.mpr hb)) h1;rw [this] at h2;cases h2
abbrev sEi:Stmt:=top 73
abbrev sLi:Stmt:=top 74
theorem qP (hp:H p=some 0x49) (hq:H q=some 0x49) (hl:ss.length<=1000):Rb H 3 (.ref p) (.ref q):=by
 refine .inr (.inr ⟨p,q,_,_,rfl,rfl,hp,hq,rfl,by rw [cg];exact hl,fun i x y h1 h2=>?_⟩);rw [h1] at h2;cases h2;rw [jY] at h1;obtain ⟨z,_,rfl⟩:=A0w.mp h1;exact .inl ⟨rfl,rfl⟩
theorem a2r {x y:Int} (hp:H p=some (.tup [.int x,.int y])) (hq:H q=some (.tup [.int x,.int y])):Rb H 2 (.ref p) (.ref q):=by
 refine .inr (.inl ⟨p,q,_,_,rfl,rfl,hp,hq,rfl,by simp,fun i u v h1 h2=>?_⟩);rw [h1] at h2;cases h2;have:u=.int x\/u=.int y:=by
  match i,h1 with
  | 0,h1=>exact .inl (by simpa using h1.symm)
  | 1,h1=>exact .inr (by simpa using h1.symm)
  | (i+2),h1=>simp at h1
 rcases this with rfl | rfl <;> exact .inl ⟨rfl,rfl⟩
theorem Om (o:Option Str):Yw (iu o)=true:=by cases o <;> rfl
theorem Xv {ta tb:Addr}{m:Str}{o:Option Str}{i j:Int}{d:Int×Int} (hp:H p=some (.tup [.str m,iu o,.int i,.int j,.ref ta])) (hq:H q=some (.tup [.str m,iu o,.int i,.int j,.ref tb])) (h1:jy H ta d.1 d.2) (h2:jy H tb d.1 d.2):Rb H 3 (.ref p) (.ref q):=by
 refine .inr (.inl ⟨p,q,_,_,rfl,rfl,hp,hq,rfl,by simp,fun i u v e1 e2=>?_⟩)
 match i,e1,e2 with
 | 0,e1,e2=>simp at e1 e2;subst e1 e2;exact .inl ⟨rfl,rfl⟩
 | 1,e1,e2=>simp at e1 e2;subst e1 e2;exact .inl ⟨rfl,Om o⟩
 | 2,e1,e2=>simp at e1 e2;subst e1 e2;exact .inl ⟨rfl,rfl⟩
 | 3,e1,e2=>simp at e1 e2;subst e1 e2;exact .inl ⟨rfl,rfl⟩
 | 4,e1,e2=>simp at e1 e2;subst e1 e2;exact a2r h1 h2
 | (i+5),e1,e2=>simp at e1
inductive a07 (C:Addr) (vs:List V) (H:Hp) (Q:VK) (cD:XK):Prop
 | mk (q:Ad) (es:List aM) (ks ls:List Str) (j:Nat) (e:aM) (_:vs=[.ref q.x,.ref q.B,.str e.n]) (_:Rel C q H es ks ls j) (_:e∈es) (_:es.length<=18) (_:∀ H',Same H H'->Q (.bl true) H'):a07 C vs H Q cD
inductive a08 (C:Addr) (vs:List V) (H:Hp) (Q:VK) (cD:XK):Prop
 | mk (q:Ad) (es:List aM) (ks ls:List Str) (j:Nat) (_:vs=[.ref q.x,.ref q.B]) (_:Rel C q H es ks ls j) (_:es.length<=18) (_:∀ H',Same H H'->Q (.bl true) H'):a08 C vs H Q cD
theorem a09:aQ ["_law_land", "_law_book_here", "_law_estate", "_law_told", "_law_due"] A5Y (aJ sEi):=0x0
theorem a2s (T:cW K C) (F:fK K "_law_estate_is" "_law_estate_is" sEi f fd) {g7 g8 g9 g10 g11 g12:Addr}{d7 d8 d9 d10 d11 d12:FuncData}
  (G1:aL P w K mg base bN 3 g1 d1 A5G (uZ C)) (m1:Meth K C "holder" g1) (b1:Binds K d1 A5G [])
  (G2:aL P w K mg base bN 3 g2 d2 A5G (Gq C)) (m2:Meth K C "lord" g2) (b2:Binds K d2 A5G [])
  (G3:aL P w K mg base bN 3 g3 d3 A5G (JM C)) (m3:Meth K C "own" g3) (b3:Binds K d3 A5G [])
  (G4:aL P w K mg base bN 3 g4 d4 A5G (rH C)) (m4:Meth K C "breadth" g4) (b4:Binds K d4 A5G [])
  (G5:aL P w K mg base bN 3 g5 d5 A5G (rJ C)) (m5:Meth K C "service" g5) (b5:Binds K d5 A5G [])
  (G6:aL P w K mg base bN 3 g6 d6 A5G (zf C)) (m6:Meth K C "chain" g6) (b6:Binds K d6 A5G [])
  (G7:aL P w K mg base bN 1 g7 d7 A5G (mQ C)) (m7:Meth K C "there" g7) (b7:Binds K d7 A5G [])
  (G8:aL P w K mg base bN 3 g8 d8 A5G (tU C)) (m8:Meth K C "under" g8) (b8:Binds K d8 A5G [])
  (G9:aL P w K mg base bN 2 g9 d9 A5H WT) (M9:Ms K mg "_law_breadth" g9 d9 A5H)
  (G10:aL P w K mg base bN 1 g10 d10 A5H T9) (M10:Ms K mg "_law_chain" g10 d10 A5H)
  (G11:aL P w K mg base bN 1 g11 d11 A5H Dw) (M11:Ms K mg "_law_under" g11 d11 A5H)
  (G12:aL P w K mg base bN 3 g12 d12 A5M (pH 3)) (Lh:Ms K mg "_law_same" g12 d12 A5M) :
  aL P w K mg base bN 4 f fd A5Y (a07 C):=by
 refine F.ok a09 0x1 0x3;obtain ⟨q,es,ks,ls,j,e,rfl,R,he,hl,k⟩:=h;have G7:=aL.mono (k:=3) G7 0x2;have G9:=aL.mono (k:=3) G9 0x2;have G10:=aL.mono (k:=3) G10 0x2;have G11:=aL.mono (k:=3) G11 0x2;refine ⟨_,(au (aU (i:=3) a09.nd rfl 0x8 (cN (aj (bW 0x3A T.cl m1 G1 hr b1 .nil aY 0x3D) (aj (bW 0x3A T.cl m2 G2 hr b2 .nil aY 0x3D) (aj (bW 0x3A T.cl m3 G3 hr b3 .nil aY 0x3D) (aj (bW 0x3A T.cl m4 G4 hr b4 .nil aY 0x3D) (aj (bW 0x3A T.cl m5 G5 hr b5 .nil aY 0x3D) aC)))))))
  (au (aU (i:=4) a09.nd rfl 0x8 (cN (aj (bf (u1 hr) 0x5E (pv 2) 0x5) (aj (bf (u1 hr) 0x5E (pv 2) 0x5) (aj (bf (u1 hr) 0x5E (pv 2) 0x5) (aj (bC G9 hr rfl M9.m M9.k M9.b .nil aY (aj 0x11 0x3D)) aC))))))
  (au (bQ (gO (dU (bC G12 hr rfl Lh.m Lh.k Lh.b .nil aY (aj (pv 3) (aj (aR VG (pv 4) (cN (aj (bf (u1 hr) 0x5E (pv 2) 0x5) aC))) aC))))) cB aX)
  (au (bQ (PW.pt (uD (gO (dU (bC G12 hr rfl Lh.m Lh.k Lh.b .nil aY (aj (bW 0x3A T.cl m6 G6 hr b6 .nil aY 0x3D) (aj (bC G10 hr rfl M10.m M10.k M10.b .nil aY (aj 0x11 0x3D)) aC))))) (pq (gO (dU (bC G12 hr rfl Lh.m Lh.k Lh.b .nil aY (aj (bW 0x3A T.cl m7 G7 hr b7 .nil aY 0x3D) (aj Bv aC)))))))) cB aX)
  (aG (aZ (bC G12 hr rfl Lh.m Lh.k Lh.b .nil aY (aj (bW 0x3A T.cl m8 G8 hr b8 .nil aY 0x3D) (aj (bC G11 hr rfl M11.m M11.k M11.b .nil aY (aj 0x11 0x3D)) aC))))))))),?_⟩
 have W:=R.W;have L:=R.L;have bk:=R.B;have ap:=R.ap;have hen:e.n∈nms es:=A0m.mpr ⟨e,he,rfl⟩;have hs:(bJ (iY es) (.inr e.n)).isSome=true:=by rw [gR,A0j hen]
 obtain ⟨f1,f2,_⟩:=R.fr e he;obtain ⟨l,hch,hll⟩:=W.chain he;refine ⟨_,rfl,q.x,q.dx,_,rfl,L.o,rfl,_,rfl,q.x,q.dx,q.a1,q.a2,q.a3,q.a4,q.a5,_,_,_,_,_,e.n,_,rfl,L,hs,cG W.nd he,_,rfl,q.x,q.dx,_,rfl,L.o,rfl,_,rfl,q.x,q.dx,q.a1,q.a2,q.a3,q.a4,q.a5,_,_,_,_,_,e.n,_,rfl,L,hs,cG W.nd he,_,rfl,q.x,q.dx,_,rfl,L.o,rfl,_,rfl,q.x,q.dx,q.a1,q.a2,q.a3,q.a4,q.a5,_,_,_,_,_,e.n,_,rfl,L,hs,cG W.nd he,_,rfl,q.x,q.dx,_,rfl,L.o,rfl,_,rfl,q.x,q.dx,q.a1,q.a2,q.a3,q.a4,q.a5,_,_,_,_,_,e.n,_,rfl,L,hs,cG W.nd he,_,rfl,q.x,q.dx,_,rfl,L.o,rfl,_,rfl,q.x,q.dx,q.a1,q.a2,q.a3,q.a4,q.a5,_,_,_,_,_,e.n,_,rfl,L,hs,cG W.nd he,small 0xA,fun t1 ht1=>?_⟩
 apply 0o1 H t1 ht1 s1 k1 H1
 have R1:=R.same s1;refine ⟨_,rfl,q.B,_,rfl,R1.B.gh,_,rfl,q.h,_,rfl,Ov R1.B.h W.nd he,_,rfl,q.B,_,rfl,R1.B.gl,_,rfl,q.l,_,rfl,Ov R1.B.l W.nd he,_,rfl,q.B,_,rfl,R1.B.go,_,rfl,q.o,_,rfl,Ov R1.B.o W.nd he,_,rfl,_,rfl,q,es,ks,e,rfl,ap,R1.B,W,he,hl,fun H2 s2=>⟨small 0xA,fun t2 Nx=>?_⟩⟩
 apply 0o1 H2 t2 Nx s3 k2 H3
 have s13:=s2.trans s3;have s03:=s1.trans s13;have R3:=R.same s03;refine ⟨_,rfl,_,rfl,_,rfl,q.B,_,rfl,R3.B.gd,_,rfl,q.d,_,rfl,Ov R3.B.d W.nd he,small 0xA,fun t3 Tp=>?_⟩;have s4:=aP Tp (.tup [.ref e.tb]);refine ⟨t2,t3,_,_,rfl,rfl,bR.of (s4 _ _ k2),bR.of ao,0xA,small 0xA,(fun z=>absurd z 0xA),fun _ t4 WY=>?_⟩;have s5:=aP WY (.tup [.str e.man,iu e.lord,.int e.own,.int e.br,.ref e.tb]);have s35:=s4.trans s5;refine ⟨_,_,rfl,Xv (d:=e.due) (s35 _ _ (s13 _ _ k1)) ao (s35 _ _ (s03 _ _ f1)) (s35 _ _ (s03 _ _ f2)),fun H6 s6=>⟨_,rfl,cu ?_⟩⟩;have s06:=(s03.trans s35).trans s6;have R6:=R.same s06;refine ⟨_,rfl,q.x,q.dx,_,rfl,R6.L.o,rfl,_,rfl,q.x,q.dx,q.a1,q.a2,q.a3,q.a4,q.a5,_,_,_,_,_,e.n,l,rfl,R6.L,hs,hch,by lia,fun r1 H7 s7 hr1 hr1'=>?_⟩;have R7:=R6.same s7;refine ⟨_,rfl,_,rfl,q,es,ks,e.n,l,rfl,ap,R7.B,W,hen,hch,by lia,fun r2 H8 s8 hr2 hr2'=>?_⟩;refine ⟨_,_,rfl,qP (s8 _ _ hr1') hr2' 0x2,fun H9 s9=>⟨_,rfl,cu ?_⟩⟩;have s09:=((s06.trans s7).trans s8).trans s9;have R9:=R.same s09;refine ⟨_,rfl,q.x,q.dx,_,rfl,R9.L.o,rfl,_,rfl,q.x,q.dx,q.a1,q.a2,q.a3,q.a4,q.a5,_,_,_,_,_,e.n,rfl,R9.L,?_⟩;rw [hs];refine ⟨_,_,rfl,.inl ⟨rfl,rfl⟩,fun H10 s10=>⟨_,rfl,cu ?_⟩⟩;have s010:=s09.trans s10;have R10:=R.same s010;refine ⟨_,rfl,q.x,q.dx,_,rfl,R10.L.o,rfl,_,rfl,q.x,q.dx,q.a1,q.a2,q.a3,q.a4,q.a5,_,_,_,_,_,e.n,rfl,R10.L,hs,Ke,YG,by rw [iZ];lia,fun r3 ss H11 s11 YD a1a hp hso=>?_⟩;have R11:=R10.same s11;refine ⟨_,rfl,_,rfl,q,es,ks,e.n,rfl,ap,R11.B,W.nd,by lia,fun r4 ss' H12 s12 Ro hr4' hp' hso'=>?_⟩;have ess:ss=ss':=pK ((Kh hp).trans hp'.symm) hso hso';subst ess;have hsl:ss.length<=es.length:=by
  rw [hp'.length_eq,cg];exact A0K _ _
 exact ⟨_,_,rfl,qP (s12 _ _ a1a) hr4' 0x2,fun H13 s13=>k _ (((s010.trans s11).trans s12).trans s13)⟩
theorem a1b:aQ A5V ["_law_land", "_law_book_here"] (aJ sLi):=0x0
def a2t:Scope:={ kind:=.function,names:=[(".0",.local),("_law_one",.local)],isGenerator:=false,isCoroutine:=false }
theorem a2u:fO A5V (aJ sLi) a2t ["_law_one"] [] []:=0xB
theorem a2v:((["_law_one"]:List Str)++([]:List Str)).Nodup:=by decide +kernel
def a2w:Scope:={ kind:=.function,names:=[(".0",.local),("_law_man",.local),("_law_same",.globalImplicit),("_law_held",.globalImplicit),("_law_book_here",.free),("_law_land",.free)],isGenerator:=false,isCoroutine:=false }
theorem a2x:fO A5V (aJ sLi) a2w ["_law_man"] ["_law_book_here", "_law_land"] [1,0]:=0xB
theorem a2y:((["_law_man"]:List Str)++(["_law_book_here", "_law_land"]:List Str)).Nodup:=by decide +kernel
def a2z:Scope:={ kind:=.function,names:=[(".0",.local),("_law_estate",.local),("_law_estate_is",.globalImplicit),("_law_book_here",.free),("_law_land",.free)],isGenerator:=false,isCoroutine:=false }
theorem a2A:fO A5V (aJ sLi) a2z ["_law_estate"] ["_law_book_here", "_law_land"] [1,0]:=0xB
theorem a2B:((["_law_estate"]:List Str)++(["_law_book_here", "_law_land"]:List Str)).Nodup:=by decide +kernel
theorem a1c:bootBuiltins "set"=some (.type "set"):=by decide +kernel
theorem yF {α:Type} (l:List α):l.filter (fun _=>true)=l:=List.filter_eq_self.mpr fun _ _=>rfl
theorem a2C (T:cW K C) (F:fK K "_law_land_is" "_law_land_is" sLi f fd) (m:MgS mg) (ms:mg "sorted"=none) (mse:mg "set"=none) 
  (G1:aL P w K mg base bN 1 g1 d1 A5S (rM C)) (m1:Meth K C "estates" g1) (b1:Binds K d1 A5S [])
  (G2:aL P w K mg base bN 1 g2 d2 A5S (Ht C)) (m2:Meth K C "folk" g2) (b2:Binds K d2 A5S [])
  (G3:aL P w K mg base bN 1 g3 d3 A5Z (Gu C)) (m3:Meth K C "held" g3) (b3:Binds K d3 A5Z [])
  (G4:aL P w K mg base bN 1 g4 d4 A5U T8) (M4:Ms K mg "_law_held" g4 d4 A5U)
  (G5:aL P w K mg base bN 3 g5 d5 A5M (pH 3)) (M5:Ms K mg "_law_same" g5 d5 A5M)
  (G6:aL P w K mg base bN 4 g6 d6 A5Y (a07 C)) (M6:Ms K mg "_law_estate_is" g6 d6 A5Y) :
  aL P w K mg base bN 5 f fd ["_law_land", "_law_book_here"] (a08 C):=by
 refine F.ok a1b 0x1 0x3;obtain ⟨q,es,ks,ls,j,rfl,R,hl,k⟩:=h;have G1:=aL.mono (k:=4) G1 0x2;have G2:=aL.mono (k:=4) G2 0x2;have G3:=aL.mono (k:=4) G3 0x2;have G4:=aL.mono (k:=4) G4 0x2;have G5:=aL.mono (k:=4) G5 0x2;refine ⟨_,(au (aU (i:=2) a1b.nd rfl 0x8 (bF fU rfl ms fZ (aj (pG (gW rfl a2u (tR 0x5E) (fun s H fp C'=>⟨bD (i:=0) a2v rfl 0x8,mJ (aV oV 0x3A aN (bH _)),pv 0⟩))) aC)))
  (au (aU (i:=3) a1b.nd rfl 0x8 (bF (qC hr.hd) rfl ms fZ (aj (fY (Ho hr.hd) rfl mse a1c (aj (fY (Hh hr.hd) rfl m.list o9 (aj (Nf 0x5E) aC)) aC)) aC)))
  (au (bQ (PW.pt (uD (gO (dU (bC G5 hr rfl M5.m M5.k M5.b .nil aY (aj (ji 0x3A T.cl m1 G1 hr b1 .nil aY) 0x3D)))) (pq (gO (dU (bC G5 hr rfl M5.m M5.k M5.b .nil aY (aj (ji 0x3A T.cl m2 G2 hr b2 .nil aY) (aj (pv 3) aC)))))))) cB aX)
  (au (bQ (gO (dU (bF (lW (K:=K) rfl hr.hd) rfl m.all uO (aj (gW rfl a2x (gH (pv 3)) (fun s H fp C'=>⟨bD (i:=0) a2y rfl 0x8,mH,(bC G5 hr rfl M5.m M5.k M5.b .nil aY (aj (bW (pv 2) T.cl m3 G3 hr b3 .nil aY (aj 0x3A aC)) (aj (bC G4 hr rfl M4.m M4.k M4.b .nil aY (aj 0x11 (aj 0x3A aC))) aC)))⟩)) aC)))) cB aX)
  (aG (aZ (bF (lW (K:=K) rfl hr.hd) rfl m.all uO (aj (gW rfl a2A (gH (aR pC (eG (aj aN aC)) (pv 2))) (fun s H fp C'=>⟨bD (i:=0) a2B rfl 0x8,mH,(bC G6 hr rfl M6.m M6.k M6.b .nil aY (aj (pv 2) (aj 0x11 (aj 0x3A aC))))⟩)) aC)))))))),?_⟩
 have W:=R.W;have bk:=R.B;have ap:=R.ap;have nB:q.B≠q.l:=dD ap 5 6 rfl rfl 0x7;have gB:∀ {o:Obj}{Hz:Hp},Same (upd H q.l (.gM o (.dK (iY es)))) Hz->fQ Hz q.B (V.str "lords") (some (.ref q.l)):=fun sz=>gQ (sz _ _ (by rw [ak nB];exact bk.b)) bk.vl;refine rT (fun y=>!decide (y.n="")) bk.l 0x2 (fun o R' hR=>⟨_,rfl,q.B,_,rfl,gB (Same.refl _),hR⟩) (fun o y Hz A B hy sz hAB=>?_) (fun D Hz sz QX jW=>?_)
 ·refine ⟨Kp.set rfl (Kp.refl _),_,rfl,rfl,_,rfl,?_⟩;rw [jc];refine iQ 0x54 0x54
  ·rw [A0i c] at hAB;exact ⟨_,rfl,hAB⟩
  ·rw [A0e c] at hAB;exact hAB
 have fle:(es.filter fun y:aM=>!decide (y.n=("" : Str))).length<=es.length:=A0K _ _;refine ⟨D,_,rfl,bT.of jW,(by rw [cg];lia),fun r1 ns hr1 hpn hsn=>?_⟩;have s1:=sz.trans (aP hr1 (.lst (ns.map V.str)));have k1:(upd Hz r1 (.lst (ns.map V.str))) r1=some (.lst (ns.map V.str)):=ao;generalize upd Hz r1 (.lst (ns.map V.str))=H1 at s1 k1 ⊢;have R1:=R.same s1;have nl:ns.length<=es.length:=by rw [hpn.length_eq,cg];exact fle
 refine ⟨_,rfl,q.B,_,rfl,R1.B.gh,q.h,_,rfl,R1.B.h,fun v1 hv1=>?_⟩
 apply 0o1 H1 v1 hv1 sv kv1 Ha
 refine ⟨v1,q.h,_,rfl,kv1,sv _ _ R1.B.h,fun l1 hl1=>?_⟩;have em:(hoL es).map (·.2)=(es.map (·.man)).map V.str:=by rw [A0R,A0R];rfl
 rw [em];have sl:=sv.trans (aP hl1 (.lst ((es.map (·.man)).map V.str)));have kl1:(upd Ha l1 (.lst ((es.map (·.man)).map V.str))) l1=some (.lst ((es.map (·.man)).map V.str)):=ao;generalize upd Ha l1 (.lst ((es.map (·.man)).map V.str))=Hb at sl kl1 ⊢;refine ⟨l1,_,rfl,bT.of kl1,(by rw [cg];lia),fun se hse=>?_⟩;have al:=qD (es.map (·.man));rw [cg] at al;have ss0:=sl.trans (aP hse 0x4C);have kse:(upd Hb se 0x4C) se=some 0x4C:=ao;refine ⟨se,_,rfl,ao,by lia,fun r2 fk hr2 hpf hsf=>?_⟩;have hr2':(upd Hb se 0x4C) r2=none:=hr2;have s12:=ss0.trans (aP hr2' (.lst (fk.map V.str)));have s2:=s1.trans s12;have k1':=s12 _ _ k1;have k2:(upd (upd Hb se 0x4C) r2 (.lst (fk.map V.str))) r2=some (.lst (fk.map V.str)):=ao
 change (LC _ _) _ _ (upd (upd Hb se 0x4C) r2 (.lst (fk.map V.str)))
 generalize upd (upd Hb se 0x4C) r2 (.lst (fk.map V.str))=H2 at s2 k1' k2 ⊢;have R2:=R.same s2;have fl:fk.length<=es.length:=by rw [hpf.length_eq];exact al
 refine ⟨_,rfl,q.x,q.dx,_,rfl,R2.L.o,rfl,q.x,q.dx,q.a1,q.a2,q.a3,q.a4,q.a5,_,_,_,_,_,rfl,R2.L,Ke,by rw [iZ];lia,fun r3 ss H3 s3 YD a1a hp3 hs3=>?_⟩;have e3:ss=ns:=by
  rw [zP] at hp3;exact pK (hp3.trans hpn.symm) hs3 hsn
 subst e3;refine ⟨_,rfl,_,_,rfl,qP a1a (s3 _ _ k1') 0x2,fun H4 s4=>⟨_,rfl,cu ?_⟩⟩;have s04:=(s2.trans s3).trans s4;have R4:=R.same s04;refine ⟨_,rfl,q.x,q.dx,_,rfl,R4.L.o,rfl,q,es,rfl,R4.L,by lia,fun r5 ff H5 s5 Rp hr5' Vq Vn=>?_⟩;have e5:ff=fk:=Hr (Vq.trans hpf.symm) Vn hsf;subst e5;have k2':=s4 _ _ (s3 _ _ k2);refine ⟨_,rfl,_,_,rfl,qP hr5' (s5 _ _ k2') 0x2,fun H6 s6=>⟨_,rfl,cu ?_⟩⟩;have s06:=(s04.trans s5).trans s6;have k26:=s6 _ _ (s5 _ _ k2');have k16:=s6 _ _ (s5 _ _ (s4 _ _ (s3 _ _ k1')));refine ⟨_,rfl,r2,rfl,⟨_,bT.of k26⟩,fun D2 hD2=>rW (xs:=ff) (fun _=>true) (fun _=>V.bl true) (bT.of k26) hD2 0x2 (fun x Hz2 A B hx sz2 hAB=>?_) (fun Hz2 sz2 hDz2=>?_)⟩
 ·refine ⟨Kp.set rfl (Kp.refl _),jQ ?_⟩;have s07:=s06.trans sz2;have R7:=R.same s07;refine ⟨_,rfl,q.x,q.dx,_,rfl,R7.L.o,rfl,_,rfl,q.x,q.dx,q.a1,q.a2,q.a3,q.a4,q.a5,_,_,_,_,_,x,rfl,R7.L,Ke,a1U,by rw [iZ];lia,fun r8 s8l H8 s8 hr8 hr8' hp8 hs8=>?_⟩;have R8:=R7.same s8;refine ⟨_,rfl,_,rfl,q,es,ks,x,rfl,ap,R8.B,W.nd,by lia,fun r9 s9l H9 s9 hr9 hr9' hp9 hs9=>?_⟩;have e9:s8l=s9l:=by
   rw [zP] at hp8;have ef:(es.filter fun e=>decide (V.str e.man=V.str x))=es.filter fun y=>decide (y.man=x):=A2M fun y _=>jc;have hp8':s8l.Perm ((es.filter fun y=>decide (y.man=x)).map (·.n)):=by rw [<- ef];exact hp8
   exact pK (hp8'.trans hp9.symm) hs8 hs9
  subst e9;have l8:s8l.length<=es.length:=by rw [hp9.length_eq,cg];exact A0K _ _
  refine ⟨_,_,rfl,qP (s9 _ _ hr8') hr9' 0x2,fun H10 s10=>?_⟩;have:=hAB _ ((s8.trans s9).trans s10);rw [A0i rfl] at this;exact this
 have ebl:(ff.filter fun _=>true).map (fun _=>V.bl true)=(List.replicate ff.length true).map V.bl:=by rw [yF,List.map_const',A4Q]
 refine ⟨D2,List.replicate ff.length true,rfl,bT.of (by rw [<- ebl];exact hDz2),?_⟩;rw [all_true fun b hb=>A2k hb];refine ⟨_,rfl,cu ?_⟩;have s07:=s06.trans sz2;have k17:=sz2 _ _ k16;refine ⟨small 0xA,fun c1 hc1=>?_⟩;have sc1:=aP hc1 (.lst [.str ""]);refine ⟨_,rfl,c1,r1,_,_,rfl,rfl,ao,sc1 _ _ k17,(by rw [cg,A0t];exact small 0x2),fun c2 hc2=>?_⟩;have sc2:=sc1.trans (aP hc2 (.lst ([.str ""]++ss.map V.str)));have kc2:(upd (upd Hz2 c1 (.lst [.str ""])) c2 (.lst ([.str ""]++ss.map V.str))) c2=some (.lst (((("" : Str)::ss)).map V.str)):=ao;generalize upd (upd Hz2 c1 (.lst [.str ""])) c2 (.lst ([.str ""]++ss.map V.str))=H11 at sc2 kc2 ⊢;have s011:=s07.trans sc2;refine ⟨c2,rfl,⟨_,bT.of kc2⟩,fun D3 hD3=>rW (xs:=""::ss) (fun _=>true) (fun _=>V.bl true) (bT.of kc2) hD3 (by rw [pN];lia) (fun x Hz3 A B hx sz3 hAB=>?_) (fun Hz3 sz3 hDz3=>?_)⟩
 ·refine ⟨Kp.set rfl (Kp.refl _),jQ ?_⟩;have hxn:x∈nms es:=by
   rcases List.mem_cons.mp hx with z | z
   ·rw [z];exact W.mem0
   ·obtain ⟨y,hy,rfl⟩:=A0m.mp (hpn.mem_iff.mp z);exact A0m.mpr ⟨y,(A0V.mp hy).1,rfl⟩
  obtain ⟨y,hy,rfl⟩:=dM hxn;refine ⟨_,rfl,_,rfl,_,rfl,q,es,ks,ls,j,y,rfl,R.same (s011.trans sz3),hy,hl,fun H12 s12=>?_⟩;have:=hAB _ s12;rw [A0i rfl] at this;exact this
 have ebl3:((("" : Str)::ss).filter fun _=>true).map (fun _=>V.bl true)=(List.replicate (("" : Str)::ss).length true).map V.bl:=by rw [yF,List.map_const',A4Q]
 refine ⟨D3,List.replicate (("" : Str)::ss).length true,rfl,bT.of (by rw [<- ebl3];exact hDz3),?_⟩;rw [all_true fun b hb=>A2k hb];exact k _ (s011.trans sz3)
abbrev Ay:Stmt:=top 51
def az:Str:="abcdefghijklmnopqrstuvwxyz"
def low (c:Nat):Bool:=decide (97<=c)&&decide (c<=122)
def nameB (l:List Nat):Bool:=l.all low&&(decide (1<=l.length)&&decide (l.length<=8))
theorem oJ {α:Type}{xs:List α}{i:Int} (h0:0<=i) (h1:i<xs.length):∃ v,wX xs i=some v/\v∈xs:=by
 have hi:i.toNat<xs.length:=by lia
 have e:i=((i.toNat:Nat):Int):=by lia
 refine ⟨xs[i.toNat],?_,A0N hi⟩;have q:wX xs ((i.toNat:Nat):Int)=some xs[i.toNat]:=aH (by simp [hi]);rw [<- e] at q;exact q
theorem Iu (cs:List Nat):(Txt.join (Str.ofString "") (cs.map fun c=>n6 [c]))=n6 cs:=by
 have e:(Str.ofString "").cps=#[]:=by decide +kernel
 have fo:∀ (ds:List Nat) (acc:Array Nat),(ds.map fun c=>n6 [c]).foldl (fun acc p=>acc++(Str.ofString "").cps++p.cps) acc=acc++ds.toArray:=by
  intro ds
  induction ds with
  | nil=>intro acc;simp
  | cons d r ih =>
   intro acc;rw [A0g,A1t,ih,e];simp
 show Builtin.Str.glued (Str.ofString "") (cs.map fun c=>n6 [c])=_
 cases cs with
 | nil=>rfl
 | cons c r =>
  unfold Builtin.Str.glued;rw [A0g,List.drop_one,List.tail_cons,fo,List.headD_cons];simp [n6]
theorem Xw {cs:List Nat} (h:cs.length<=1000):JoinOk (Str.ofString "") (cs.map fun c=>n6 [c])=true:=by
 have e:(Str.ofString "").length=0:=by decide +kernel
 have fo:∀ (ds:List Nat) (n:Nat),(ds.map fun c=>n6 [c]).foldl (fun a p=>a+p.length+(Str.ofString "").length) n=n+ds.length:=by
  intro ds
  induction ds with
  | nil=>intro n;simp
  | cons d r ih =>
   intro n;rw [A0g,A1t,ih,e,jE];simp;lia
 unfold JoinOk;rw [List.foldl_toArray',fo]
 ·unfold Builtin.Str.tooLong;have:=small (n:=cs.length) 0x2;simp;lia
 ·rfl
theorem app_list (x y:Str):(x++y).cps.toList=x.cps.toList++y.cps.toList:=by
 show (x.cps++y.cps).toList=_
 simp
theorem Xx (x y:Str):(x++y).length=x.length+y.length:=by
 have e:∀ z:Str,z.length=z.cps.toList.length:=fun z=>by simp [Str.length]
 rw [e,e,e,app_list,iT]
theorem iw {fs:List Int} (h:∀ v∈fs,wB v) {i:Int} (h0:0<=i) (h1:i<fs.length):∃ v:Int,wX (fs.map V.int) i=some (.int v)/\wB v:=by
 obtain ⟨x,e,m⟩:=oJ (xs:=fs.map V.int) h0 (by rw [cg];exact h1);obtain ⟨v,hv,rfl⟩:=A0m.mp m;exact ⟨v,e,h v hv⟩
theorem a2D:∀ i:_root_.Fin 26,az.cps.toList[i.val]?=some (97+i.val):=by decide +kernel
theorem V3 {i:Int} (h0:0<=i) (h1:i<26):wX az.cps.toList i=some (97+i.toNat):=by
 have e:i=((i.toNat:Nat):Int):=by lia
 have q:wX az.cps.toList ((i.toNat:Nat):Int)=some (97+i.toNat):=aH (a2D ⟨i.toNat,by lia⟩);rw [<- e] at q;exact q
theorem V4 (h:i<26):low (97+i)=true:=by simp [low];lia
theorem rep1 (n c:Nat):qj n [c]=List.replicate n c:=by
 unfold qj
 induction n with
 | zero=>rfl
 | succ n ih=>rw [A3x,List.flatten_cons,ih];rfl
theorem Xy {α:Type}{xs:List α} (h:j<=xs.length):tD xs none (some (j:Int))=xs.take j:=by
 unfold tD;have e1:HT.eV xs.length 0 none=0:=rfl;rw [e1,HT.kE,A4N,Nat.sub_zero,A2q h]
theorem Oo {α:Type}{xs:List α} (h:j<=xs.length):tD xs (some (j:Int)) none=xs.drop j:=by
 unfold tD;have e2:HT.eV xs.length xs.length none=xs.length:=rfl;rw [e2,HT.kE,A2q h,A3b (by rw [A1z];exact A0f _)]
def Told (p:Nat) (e:Int) (zs:List Str):Prop:=∀ (j:Nat) (z:Str),zs[j]?=some z->z.cps.toList[p]?=some (97+((e+7 * (j:Int)) % 26).toNat)/\nameB z.cps.toList=true
theorem Told.nodup {p:Nat}{e:Int} (h:Told p e zs) (hl:zs.length<=26):zs.Nodup:=by
 unfold List.Nodup;rw [A1f];intro i j hi hj hij he;have h1:=(h i _ (ju hi)).1;have h2:=(h j _ (ju hj)).1;rw [he,h2] at h1;have h3:=A0O h1;lia
theorem Told.snoc {p:Nat}{e:Int} (h:Told p e zs) (h1:z.cps.toList[p]?=some (97+((e+7 * (zs.length:Int)) % 26).toNat)) (h2:nameB z.cps.toList=true):Told p e (zs++[z]):=by
 intro j y hj
 by_cases hlt:j<zs.length
 ·rw [A1l hlt] at hj;exact h j y hj
 ·have hj':j<(zs++[z]).length:=(A0l.mp hj).1;have e:j=zs.length:=by rw [iT,A0t] at hj';lia
  subst e;rw [A0S (A0f _),A3u] at hj;have:z=y:=by simpa using hj
  subst this;exact ⟨h1,h2⟩
theorem Ep {l:List Nat} (h:∀ c∈l,low c=true) (h1:1<=l.length) (h2:l.length<=8):nameB l=true:=by
 unfold nameB;rw [A1G.mpr h,A0j h1,A0j h2];rfl
inductive Az (K:W.Frag) (vs:List V) (H:Hp) (Q:VK) (cD:XK):Prop
 | mk (a:Addr) (ds:List Int) (many:Int) (_:vs=[.ref a,.int many]) (_:bT K H a (ds.map V.int)) (_:4<=ds.length) (_:(∀ v∈ds,wB v)) (_:0<=many) (_:many<=26) (_:∀ (r:Addr) (H':Hp) (zs:List Str),Same H H'->H r=none->H' r=some (.lst (zs.map V.str))->zs.length=many.toNat->(∀ z∈zs,nameB z.cps.toList=true)->zs.Nodup->Q (.ref r) H'):Az K vs H Q cD
theorem jL:aQ A5X ["_law_d", "_law_many"] (aJ Ay):=0x0
def scN1:Scope:={ kind:=.function,names:=[(".0",.local),("_law_k",.local),("_law_d",.free),("_law_letters",.free)],isGenerator:=false,isCoroutine:=false }
theorem csN1:fO A5X (aJ Ay) scN1 ["_law_k"] ["_law_d", "_law_letters"] [0,2]:=0xB
theorem ndN1:((["_law_k"]:List Str)++(["_law_d", "_law_letters"]:List Str)).Nodup:=by decide +kernel
theorem V5 (F:fK K "_law_names" "_law_names" Ay f fd) (ml:mg "len"=none) (mr:mg "range"=none):aL P w K mg base bN 1 f fd ["_law_d", "_law_many"] (Az K):=by
 refine F.ok jL 0x1 0x3;obtain ⟨a,ds,many,rfl,hS,hlen,hok,m0,m1,k⟩:=h;refine ⟨_,au (aU (i:=2) jL.nd rfl (Or.inr rfl) aN)
  (au (aU (i:=4) jL.nd rfl 0x8 (jj PySem.F.plainAttrs_str PySem.F.slot_str_join PySem.F.type_str_join VP aN (aj
    (gW rfl csN1
     (lQ rfl mr (aj (aR bY 0x50 aA) aC))
     (fun s H fp C=>⟨bD (i:=0) ndN1 rfl 0x8,mH,aO Q9 (pv 2) (aR bY (aR dH (aO (Cm (K:=K)) 0x11 aA 0x5)
      (aR lA (aR dH 0x3A aA) (aR jB (aO (Cm (K:=K)) 0x11 aA 0x5) aA))) aA) 0x5⟩)) aC)))
  (au (aU (i:=5) jL.nd rfl 0x8 (aR bY 0x50 (aR dH (bF yS rfl ml A1y (aj (pv 4) aC)) aA)))
  (au (aU (i:=6) jL.nd rfl 0x8 (eG aC))
  (au (iz A0W rfl (lQ rfl mr 0x33) (bD (i:=3) jL.nd rfl 0x8)
   (au (aU (i:=7) jL.nd rfl 0x8 (aO Q9 (pv 2) (aR bY (aR dH 0x50 (aR lA aA (pv 3))) aA) 0x5))
   (au (aU (i:=8) jL.nd rfl 0x8 (aR uI (aR uI (dY Ql (pv 4) fj (cA (pv 5))) (pv 7)) (dY Ql (pv 4) (cA (pv 5)) fj)))
   (au (bQ (aV dO (aR bY (aR jB 0x50 aA) aA) aA (bH _))
    (aG (aU (i:=8) jL.nd rfl 0x8 (aR Gd (pv 7) (aR dH aA (aR bY (aR dH 0x50 (aR lA aA (pv 3))) aA))))) aX)
   (aG (bO (jj A0H A0T A0U dR (pv 6) (aj (pv 8) aC))))))))
  (aG (aZ (pv 6))))))),?_⟩
 obtain ⟨d0,e0,o0⟩:=iw hok (i:=0) 0x7 0x2;obtain ⟨d1,e1,o1⟩:=iw hok (i:=1) 0x7 0x2;obtain ⟨d2,e2,o2⟩:=iw hok (i:=2) 0x7 0x2;obtain ⟨d3,e3,o3⟩:=iw hok (i:=3) 0x7 0x2;obtain ⟨o0a,o0b⟩:=o0;obtain ⟨o1a,o1b⟩:=o1;obtain ⟨o2a,o2b⟩:=o2;obtain ⟨o3a,o3b⟩:=o3;refine ⟨rfl,_,rfl,a,_,_,_,rfl,rfl,hS,e1,_,_,rfl,rfl,(by show (0:Int)<8;decide),d1 % 8,rfl,by lia,by lia,fun D hD=>?_⟩
 refine FW (lo:=0) (n:=(d1 % 8).toNat) (fun i ys H2=>∃ cs:List Nat,ys=cs.map (fun c=>V.str (n6 [c]))/\cs.length=i/\(∀ c∈cs,low c=true)/\Same H H2/\H2 D=some (.lst ys))
  ⟨[],rfl,rfl,(fun c hc=>nomatch hc),aP hD _,ao⟩ (fun i ys H2 ⟨cs,_,_,_,_,h⟩=>h) ?_ ?_
 ·rintro i ys H2 hi ⟨cs,rfl,hl,hc,s2,h2⟩;have S2:=s2.seq hS;refine ⟨Kp.set rfl (Kp.refl _),?_⟩;refine jQ ?_;have hm0:=A0Q (d0+(0+(i:Int)+1) * (d1 / 8)) (show (26:Int)≠0 by decide)
  have hm1:=A0J (d0+(0+(i:Int)+1) * (d1 / 8)) (show (0:Int)<26 by decide)
  have hT:((d0+(0+(i:Int)+1) * (d1 / 8)) % 26).toNat<26:=by
   generalize (d0+(0+(i:Int)+1) * (d1 / 8)) % 26=T at hm0 hm1 ⊢;lia
  refine ⟨_,rfl,_,rfl,a,_,_,_,rfl,rfl,S2,e0,_,rfl,_,_,rfl,rfl,_,rfl,a,_,_,_,rfl,rfl,S2,e1,_,_,rfl,rfl,⟨by decide,by decide⟩,_,_,rfl,rfl,.inl ⟨by lia,by lia⟩,_,_,rfl,rfl,_,_,rfl,rfl,(by show (0:Int)<26;decide),
   _,_,_,rfl,rfl,(by show az.length<=sizeLine;decide +kernel),V3 hm0 hm1,h2,?_,?_⟩
  ·rw [cg];exact bU 0x2
  ·exact ⟨cs++[97+((d0+(0+(i:Int)+1) * (d1 / 8)) % 26).toNat],by rw [jP];rfl,by simp [hl],(fun d hd=>by
    rcases A0v.mp hd with z | z
    ·exact hc d z
    ·rw [A0c.mp z];exact V4 hT),bL s2 hD,ao⟩
 ·rintro ys H2 ⟨cs,rfl,hl,hc,s2,h2⟩;have hm:cs.map (fun c=>V.str (n6 [c]))=(cs.map (fun c=>n6 [c])).map V.str:=by simp
  refine ⟨_,D,cs.map (fun c=>n6 [c]),rfl,rfl,bT.of (by rw [<- hm];exact h2),Xw 0x2,?_⟩;rw [Iu];have S2:=s2.seq hS;have lc:(n6 cs).length=cs.length:=jE cs;refine ⟨_,rfl,a,_,_,_,rfl,rfl,S2,e2,_,rfl,_,rfl,(by rw [lc];exact small 0x2),_,_,rfl,rfl,_,_,rfl,rfl,(by rw [lc];lia),?_⟩;rw [lc];have q0:0<=d2 % ((cs.length:Int)+1):=A0Q _ 0x2;have q1:d2 % ((cs.length:Int)+1)<(cs.length:Int)+1:=A0J _ 0x2;obtain ⟨at_,hat⟩:∃ n:Nat,d2 % ((cs.length:Int)+1)=(n:Int):=⟨(d2 % ((cs.length:Int)+1)).toNat,by lia⟩;rw [hat] at q0 q1;refine ⟨small 0xA,fun l hl0=>?_⟩;have hl1:H l=none:=s2.free hl0;refine ⟨_,rfl,many,rfl,by lia,by lia,?_⟩;refine lU (lo:=0) (n:=many.toNat) (fun j σ H4=>∃ (zs:List Str) (u1 u2 u3:Option V),σ=[some (.ref a),some (.int many),some (.str az),u1,some (.str (n6 cs)),some (.int (at_:Int)),some (.ref l),u2,u3]/\Same H H4/\H4 l=some (.lst (zs.map V.str))/\zs.length=j/\Told (if d2 / 8 % 2=1 then 0 else at_) d3 zs)
   ⟨[],none,none,none,(by rw [<- hat];rfl),bL s2 hl1,ao,rfl,fun j z h=>by simp at h⟩ ?_ ?_
  ·rintro j σ H4 hj ⟨zs,u1,u2,u3,rfl,s4,hL,hz,ht⟩;have S4:=s4.seq hS;have hm0:=A0Q (d3+7 * (0+(j:Int))) (show (26:Int)≠0 by decide)
   have hm1:=A0J (d3+7 * (0+(j:Int))) (show (0:Int)<26 by decide)
   refine ⟨_,rfl,_,rfl,a,_,_,_,rfl,rfl,S4,e3,_,rfl,_,_,rfl,rfl,.inl ⟨by decide,by decide⟩,_,_,rfl,rfl,_,_,rfl,rfl,(by show (0:Int)<26;decide),_,_,_,rfl,rfl,(by show az.length<=sizeLine;decide +kernel),V3 hm0 hm1,?_⟩
   have hc0:low (97+((d3+7 * (0+(j:Int))) % 26).toNat)=true:=V4 0x2;have hcj:97+((d3+7 * (0+(j:Int))) % 26).toNat=97+((d3+7 * (zs.length:Int)) % 26).toNat:=by rw [hz,Int.zero_add]
   generalize 97+((d3+7 * (0+(j:Int))) % 26).toNat=c at hc0 hcj ⊢;refine ⟨_,rfl,_,rfl,_,rfl,_,rfl,(by rw [lc];exact small 0x2),_,rfl,?_⟩;have f1:tD (n6 cs).cps.toList none (some (at_:Int))=cs.take at_:=Xy (by show at_<=cs.length;lia)
   have f2:tD (n6 cs).cps.toList (some (at_:Int)) none=cs.drop at_:=Oo (by show at_<=cs.length;lia)
   rw [f1];have l1:(n6 (cs.take at_)++n6 [c]).length=at_+1:=by rw [Xx,jE,jE,A0G,A2q 0x2];rfl
   refine ⟨_,_,rfl,rfl,(by rw [jE,jE,A0G];exact small (by simp;lia)),?_⟩;refine ⟨_,rfl,_,rfl,_,rfl,_,rfl,(by rw [lc];exact small 0x2),?_⟩;rw [f2];refine ⟨_,_,rfl,rfl,(by rw [l1,jE,A1z];exact small 0x2),?_⟩;have en:(n6 (cs.take at_)++n6 [c]++n6 (cs.drop at_)).cps.toList=cs.take at_++[c]++cs.drop at_:=by rw [app_list,app_list]
   refine ⟨_,rfl,a,_,_,_,rfl,rfl,S4,e2,_,_,rfl,rfl,⟨by decide,by decide⟩,_,_,rfl,rfl,(by show (0:Int)<2;decide),rfl,_,rfl,?_⟩
   refine iQ (fun hb=>?_) (fun hb=>?_)
   ·have hb1:d2 / 8 % 2=1:=by
     have:=sS hb;injection this
    rw [A0i hb1] at ht ⊢;refine ⟨_,rfl,_,rfl,a,_,_,_,rfl,rfl,S4,e0,_,rfl,_,_,rfl,rfl,.inl ⟨by decide,by decide⟩,_,_,rfl,rfl,_,_,rfl,rfl,(by show (0:Int)<8;decide),_,_,rfl,rfl,?_⟩
    have r0:=A0Q (d0+3 * (0+(j:Int))) (show (8:Int)≠0 by decide)
    have r1:=A0J (d0+3 * (0+(j:Int))) (show (0:Int)<8 by decide)
    refine ⟨_,_,rfl,rfl,by lia,by lia,(by show (n6 [c]).length<=1000;rw [jE];simp),?_⟩
    have ec:(n6 [c]).cps.toList=[c]:=rfl;rw [ec,rep1];refine ⟨_,rfl,.inl ⟨rfl,_,bT.of hL⟩,_,rfl,l,_,_,rfl,rfl,hL,(by rw [cg];exact bU 0x2),?_⟩;refine ⟨zs++[n6 (List.replicate (1+(d0+3 * (0+(j:Int))) % 8).toNat c)],_,_,_,rfl,bL s4 hl1,by rw [ao,jP];rfl,by rw [iT,A0t,hz],ht.snoc ?_ ?_⟩
    ·rw [<- hcj]
     show (List.replicate _ c)[0]?=some c
     rw [A3P,A0i 0x2]
    ·refine Ep (fun x hx=>?_) ?_ ?_
     ·have:=(List.mem_replicate.mp hx).2;rw [this];exact hc0
     ·show 1<=(List.replicate _ c).length
      rw [A1Q];lia
     ·show (List.replicate _ c).length<=8
      rw [A1Q];lia
   ·have hb1:¬ d2 / 8 % 2=1:=fun e=>hb (by show decide (V.int (d2 / 8 % 2)=V.int 1)=true;rw [e];rfl)
    rw [A0e hb1] at ht ⊢;refine ⟨_,rfl,.inl ⟨rfl,_,bT.of hL⟩,_,rfl,l,_,_,rfl,rfl,hL,(by rw [cg];exact bU 0x2),?_⟩;refine ⟨zs++[n6 (cs.take at_)++n6 [c]++n6 (cs.drop at_)],_,_,_,rfl,bL s4 hl1,by rw [ao,jP];rfl,by rw [iT,A0t,hz],ht.snoc ?_ ?_⟩
    ·rw [en,<- hcj,A2J,A0S (by rw [A0G];lia),A0G,A2q 0x2,A3u];rfl
    ·rw [en];refine Ep (fun x hx=>?_) ?_ ?_
     ·rcases A0v.mp hx with z | z
      ·rcases A0v.mp z with z | z
       ·exact hc x (A2l z)
       ·rw [A0c.mp z];exact hc0
      ·exact hc x (A3o z)
     ·rw [iT,iT,A0t];lia
     ·rw [iT,iT,A0G,A1z,A0t];lia
  ·rintro σ H4 ⟨zs,u1,u2,u3,rfl,s4,hL,hz,ht⟩;refine ⟨_,rfl,k l H4 zs s4 hl1 hL hz (fun z hzm=>?_) (ht.nodup 0x2)⟩;obtain ⟨i,hi,rfl⟩:=A1V.mp hzm;exact (ht i _ (ju hi)).2
abbrev Iv:Stmt:=top 67
theorem w6 {fs:List Int} (h:i<=j) (hj:j<=fs.length):gw (fs.map V.int) (some (i:Int)) (some (j:Int))=((fs.drop i).take (j - i)).map V.int:=by
 unfold gw;rw [HT.kE,HT.kE,cg,A2q hj,A2q (A0M h hj),List.map_take,List.map_drop]
theorem Iw {fs:List Int} (h:∀ v∈fs,wB v):∀ v∈(fs.drop i).take n,wB v:=fun v hv=>h v (A3o (A2l hv))
def Nm (z:Str):Prop:=nameB z.cps.toList=true
theorem Nm.ne (h:Nm z):z≠""/\PyData.strOk z=true:=by
 unfold Nm nameB at h;rw [A0Y,A0Y] at h
 constructor
 ·intro e;rw [e] at h;have:=sS h.2.1;exact absurd this 0x6
 ·unfold PyData.strOk;rw [<- Array.all_toList,A1G];intro c hc;have:=A1G.mp h.1 c hc;unfold low at this;simp at this ⊢;lia
structure Er (H:Hp) (r m la:Addr) (ms ls:List Str) (wd:Int):Prop where
 r:H r=some (.tup [.ref m,.ref la,.int wd])
 m:H m=some (.lst (ms.map V.str))
 la:H la=some (.lst (ls.map V.str))
 lm:ms.length=6
 ll:ls.length=9
 nm:ms.Nodup
 om:∀ z∈ms,Nm z
 ol:∀ z∈ls,Nm z
 w1:1<=wd
 w2:wd<=9999
theorem Er.same {r m la:Addr}{ms:List Str} (p:Er H r m la ms ls wd) (s:Same H H'):Er H' r m la ms ls wd:=⟨s _ _ p.r,s _ _ p.m,s _ _ p.la,p.lm,p.ll,p.nm,p.om,p.ol,p.w1,p.w2⟩
inductive Ba (K:W.Frag) (vs:List V) (H:Hp) (Q:VK) (cD:XK):Prop
 | mk (a:Addr) (fs:List Int) (_:vs=[.ref a]) (_:bT K H a (fs.map V.int)) (_:20<=fs.length) (_:(∀ v∈fs,wB v)) (_:∀ r m la ms ls wd H',Same H H'->Er H' r m la ms ls wd->Q (.ref r) H'):Ba K vs H Q cD
theorem idx9:idxV 9 (some 8) (some 2) (some (-1))=[8,7,6,5,4,3]:=by decide +kernel
theorem nine (h:ls.length=9):∃ a b c d e f g i j,ls=[a,b,c,d,e,f,g,i,j]:=by
 match ls,h with
 | [a,b,c,d,e,f,g,i,j],_=>exact ⟨a,b,c,d,e,f,g,i,j,rfl⟩
theorem Bb:aQ ["_law_feed_here", "_law_wide", "_law_lands"] ["_law_feed_here"] (aJ Iv):=0x0
theorem V6 (F:fK K "_law_pools" "_law_pools" Iv f fd)  (G1:aL P w K mg base bN 1 g1 d1 ["_law_d", "_law_many"] (Az K)) (M1:Ms K mg "_law_names" g1 d1 ["_law_d", "_law_many"]):aL P w K mg base bN 2 f fd ["_law_feed_here"] (Ba K):=by
 refine F.ok Bb 0x1 0x3;obtain ⟨a,fs,rfl,hS,hlen,hok,k⟩:=h;refine ⟨_,(au (aU (i:=1) Bb.nd rfl 0x8 (aO bI (eG (aj (aR dH aA (aR bY 0x50 aA)) (aj (aR dH aA (aR bY 0x50 aA)) (aj (aR pB aA (aR bY 0x50 aA)) (aj aA aC))))) (aR bY 0x50 aA) 0x5))
  (au (aU (i:=2) Bb.nd rfl 0x8 (bC G1 hr rfl M1.m M1.k M1.b .nil aY (aj (dY jC 0x3A (cA aA) (cA aA)) (aj aA aC))))
  (au (bQ (aV dO (aR bY (aR jB 0x50 aA) aA) aA (bH _)) (aG (aZ (cN (aj (oH (pv 2) (cA aA) (cA aA) (cA (wM rC aA))) (aj (pv 2) 0x33))))) aX)
  (aG (aZ (cN (aj (bC G1 hr rfl M1.m M1.k M1.b .nil aY (aj (dY jC 0x3A (cA aA) (cA aA)) (aj aA aC))) (aj (pv 2) 0x33)))))))),?_⟩
 obtain ⟨d12,e12,o12⟩:=iw hok (i:=12) 0x7 0x2;obtain ⟨d13,e13,o13⟩:=iw hok (i:=13) 0x7 0x2;obtain ⟨o12a,o12b⟩:=o12;obtain ⟨o13a,o13b⟩:=o13;refine ⟨_,rfl,a,_,_,_,rfl,rfl,hS,e12,_,_,rfl,rfl,(by show (0:Int)<200;decide),_,_,rfl,rfl,_,rfl,a,_,_,_,rfl,rfl,hS,e12,_,_,rfl,rfl,(by show (0:Int)<9;decide),_,_,rfl,rfl,_,rfl,a,_,_,_,rfl,rfl,hS,e12,_,_,rfl,rfl,(by show (0:Int)<50;decide),_,_,rfl,rfl,small 0xA,fun l hl=>?_⟩
 apply 0o1 H l hl s1 k1 H1
 have S1:=s1.seq hS;obtain ⟨x,hx,hm⟩:=oJ (xs:=[V.int (7+d12 % 200),.int (1+d12 % 9),.int (9999 - d12 % 50),.int 40]) (i:=d13 % 4) 0x2 (by simp;lia);obtain ⟨wd,rfl,w1,w2⟩:∃ wd:Int,x=.int wd/\1<=wd/\wd<=9999:=by
  simp only [List.mem_cons,A0L,A1N] at hm;rcases hm with rfl | rfl | rfl | rfl
  ·exact ⟨_,rfl,by lia,by lia⟩
  ·exact ⟨_,rfl,by lia,by lia⟩
  ·exact ⟨_,rfl,by lia,by lia⟩
  ·exact ⟨_,rfl,by lia,by lia⟩
 refine ⟨_,rfl,a,_,_,_,rfl,rfl,S1,e13,_,_,rfl,rfl,(by show (0:Int)<4;decide),l,_,_,_,rfl,rfl,bT.of k1,hx,?_⟩
 refine ⟨_,rfl,_,rfl,_,rfl,a,_,rfl,S1,fun p1 hp1=>?_⟩;have c1:gw (fs.map V.int) (some 8) (some 12)=((fs.drop 8).take 4).map V.int:=w6 (i:=8) (j:=12) 0x7 0x2;rw [c1];have s2:=s1.trans (aP hp1 (.lst (((fs.drop 8).take 4).map V.int)));refine ⟨p1,_,9,rfl,bT.of ao,by rw [A0G,A1z];lia,Iw hok,by decide,by decide,fun la H2 ls s12 hla hla' hll hln hnd=>?_⟩;have s02:=s2.trans s12;have S2:=s02.seq hS;refine ⟨_,rfl,a,_,_,_,rfl,rfl,S2,e13,_,_,rfl,rfl,⟨by decide,by decide⟩,_,_,rfl,rfl,(by show (0:Int)<4;decide),rfl,_,rfl,?_⟩
 refine iQ (fun _=>?_) (fun _=>?_)
 ·refine ⟨_,rfl,_,rfl,_,rfl,_,rfl,_,rfl,la,_,rfl,bT.of hla',by decide,?_,fun p2 hp2=>?_⟩
  ·unfold nR;rw [cg,show ls.length=9 from hll,idx9]
   exact A0M (List.length_filterMap_le _ _) 0x7
  have ep:nR (ls.map V.str) (some 8) (some 2) (some (-1))=([8,7,6,5,4,3].filterMap (ls[·]?)).map V.str:=by
   unfold nR;rw [cg,show ls.length=9 from hll,idx9]
   obtain ⟨a,b,c,d,e,f,g,i,j,rfl⟩:=nine (show ls.length=9 from hll)
   rfl
  rw [ep];have s3:=aP hp2 (.lst (([8,7,6,5,4,3].filterMap (ls[·]?)).map V.str));refine ⟨_,rfl,_,rfl,small 0xA,fun r hr0=>?_⟩;have s4:=aP hr0 (.tup [.ref p2,.ref la,.int wd]);refine k r p2 la ([8,7,6,5,4,3].filterMap (ls[·]?)) ls wd _ ((s02.trans s3).trans s4) ⟨ao,s4 _ _ ao,s4 _ _ (s3 _ _ hla'),?_,hll,?_,?_,hln,w1,w2⟩
  ·obtain ⟨a,b,c,d,e,f,g,i,j,rfl⟩:=nine (show ls.length=9 from hll)
   rfl
  ·obtain ⟨a,b,c,d,e,f,g,i,j,rfl⟩:=nine (show ls.length=9 from hll)
   show [j,i,g,f,e,d].Nodup
   simp only [A0P,List.mem_cons,A0L,A1N,not_or,List.nodup_nil,and_true,not_false_eq_true] at hnd ⊢;obtain ⟨_,_,_,h4,h5,h6,h7,h8⟩:=hnd;refine ⟨⟨A0k h8,A0k h7.2,A0k h6.2.2,A0k h5.2.2.2,A0k h4.2.2.2.2⟩,⟨A0k h7.1,A0k h6.2.1,A0k h5.2.2.1,A0k h4.2.2.2.1⟩,⟨A0k h6.1,A0k h5.2.1,A0k h4.2.2.1⟩,⟨A0k h5.1,A0k h4.2.1⟩,A0k h4.1⟩
  ·intro z hz;obtain ⟨i,_,hi⟩:=A4L.mp hz;exact hln z (wD hi)
 ·refine ⟨_,rfl,_,rfl,_,rfl,a,_,rfl,S2,fun p2 hp2=>?_⟩;have c2:gw (fs.map V.int) (some 4) (some 8)=((fs.drop 4).take 4).map V.int:=w6 (i:=4) (j:=8) 0x7 0x2;rw [c2];have s3:=aP hp2 (.lst (((fs.drop 4).take 4).map V.int));refine ⟨p2,_,6,rfl,bT.of ao,by rw [A0G,A1z];lia,Iw hok,by decide,by decide,fun me H3 ms s13 hme hme' hlm hmn hmd=>?_⟩;refine ⟨_,rfl,_,rfl,small 0xA,fun r hr0=>?_⟩;have s4:=aP hr0 (.tup [.ref me,.ref la,.int wd]);exact k r me la ms ls wd _ (((s02.trans s3).trans s13).trans s4) ⟨ao,s4 _ _ hme',s4 _ _ (s13 _ _ (s3 _ _ hla')),hlm,hll,hmd,hmn,hln,w1,w2⟩
end M
namespace L2
open PySem PySem.Spec PyProof.Rows PySem.W
theorem wK (h:X.K=K:=by rfl):nu X (compareOp .NotIn) (rIn K true):=h ▸ yR
theorem V7:bootBuiltins "min"=some (.builtin "min"):=by decide +kernel
theorem grab {a b:TS}{D:Ends} (Pv:St->Hp->Prop) (h2:∀ σ' H',Pv σ' H'->b D σ' H') (h1:(∀ σ' H',Pv σ' H'->b D σ' H')->a { D with nx:=fun σ' H'=>b D σ' H' } σ H):LC a b D σ H:=h1 h2
end L2
namespace M
open PySem L2 PyProof.Rows
abbrev Xz:Stmt:=top 69
theorem XD (h:Int) (l:List Int):inV (V.int h) (l.map V.int)=decide (h∈l):=by
 unfold inV
 induction l with
 | nil=>rfl
 | cons x r ih =>
  rw [A0g,A2t,ih]
  show ((x==h)||decide (h∈r))=_
  rw [A1i,Bool.or_eq_true,A1K,A1K,List.mem_cons,A3L]
  constructor
  ·rintro (e | e)
   ·exact .inl e.symm
   ·exact .inr e
  ·rintro (e | e)
   ·exact .inl e.symm
   ·exact .inr e
theorem a1d {h:Int} (l:List Int) {A:Prop} (h1:h∈l->A) (h2:h∉l->B):if (if (false:Bool)=true then !inV (V.int h) (l.map V.int) else inV (V.int h) (l.map V.int))=true then A else B:=by
 rw [A0e A0o,XD];exact iQ (fun c=>h1 (sS c)) fun c=>h2 fun z=>c (A0j z)
theorem eq_int {h l:Int}{A:Prop} (h1:h=l->A) (h2:h≠l->B):if decide (V.int h=V.int l)=true then A else B:=by
 refine iQ (fun c=>h1 ?_) fun c=>h2 fun z=>c (A0j (by rw [z]));have:=sS c;injection this
theorem eq_str {h l:Str}{A:Prop} (h1:h=l->A) (h2:h≠l->B):if decide (V.str h=V.str l)=true then A else B:=by
 refine iQ (fun c=>h1 ?_) fun c=>h2 fun z=>c (A0j (by rw [z]));have:=sS c;injection this
theorem wj {i:Int} (h0:0<=i) (h1:i<zs.length):∃ z,wX (zs.map V.str) i=some (V.str z)/\z∈zs:=by
 obtain ⟨v,hv,hm⟩:=oJ (xs:=zs.map V.str) h0 (by rw [cg];exact h1);obtain ⟨z,hz,rfl⟩:=A0m.mp hm;exact ⟨z,hv,hz⟩
theorem XF {f:aM->V} (es:List aM):(kv f es).map (fun x=>kV x.1)=(nms es).map V.str:=by rw [A0R,A0R];rfl
inductive V8 (K:W.Frag) (vs:List V) (H:Hp) (Q:VK) (cD:XK):Prop
 | mk (q:Ad) (es:List aM) (ks:List Str) (p d m la:Addr) (ms ls:List Str) (wd dy:Int) (ds:List Int) (_:vs=[.ref q.B,.ref p,.ref d,.int dy]) (_:Ap q) (_:Bk q H es ks) (_:WF es) (_:es.length<64) (_:Er H p m la ms ls wd) (_:bT K H d (ds.map V.int)) (_:ds.length=8) (_:(∀ v∈ds,wB v)) (_:(∀ d0,wX (ds.map V.int) 0=some (.int d0)->d0 % 13<7\/d0 % 13=9\/d0 % 13=12)) (_:∀ r bG H',Same H H'->H' r=some (.tup (Rw.vs dy bG))->bG.Ok ls->bG.Tx->Q (.ref r) H'):V8 K vs H Q cD
theorem lg:aQ A5L A5R (aJ Xz):=0x0
def a2E:Scope:={ kind:=.function,names:=[(".0",.local),("_law_one",.local),("_law_book_here",.free)],isGenerator:=false,isCoroutine:=false }
theorem a2F:fO A5L (aJ Xz) a2E ["_law_one"] ["_law_book_here"] [0]:=0xB
theorem a2G:((["_law_one"]:List Str)++(["_law_book_here"]:List Str)).Nodup:=by decide +kernel
theorem a1e (F:fK K "_law_row" "_law_row" Xz f fd) (ms:mg "sorted"=none) (mli:mg "list"=none) (mn:mg "len"=none) (mmax:mg "max"=none) (a1f:mg "min"=none):aL P w K mg base bN 4 f fd A5R (V8 K):=by
 refine F.ok lg 0x1 0x3;obtain ⟨q,es,ks,p,d,m,la,mz,ls,wd,dy,ds,rfl,ap,bk,W,hl,pl,hS,hdl,hdo,hw,k⟩:=h;refine ⟨_,(au (aU (i:=4) lg.nd rfl 0x8 0x19)
  (au (aU (i:=5) lg.nd rfl 0x8 0x19)
  (au (aU (i:=6) lg.nd rfl 0x8 (bF fU rfl ms fZ (aj (fY (Hs hr.hd) rfl mli o9 (aj 0x1A aC)) aC)))
  (au (aU (i:=7) lg.nd rfl 0x8 (aO bI (pv 6) (aR bY 0x40 (bF dI rfl mn A1y (aj (pv 6) aC))) 0x5))
  (au (aU (i:=8) lg.nd rfl (Or.inr rfl) (aO bI (pv 4) (aR bY 0x40 (bF dI rfl mn A1y (aj (pv 4) aC))) 0x5))
  (au (VN (i:=9) rfl a2F (gH (pv 5)) (fun s H fp C'=>⟨bD (i:=0) a2G rfl 0x8,mJ (aV (wK (K:=K)) 0x3A 0x5E 0x16),0x3A⟩) lg.nd rfl 0x8)
  (au (aU (i:=10) lg.nd rfl 0x8 (aO bI (aR pC (pv 9) (pv 5)) (aR bY 0x40 (bF (wO rfl) rfl mmax Qo (aj aA (aj (bF dI rfl mn A1y (aj (pv 9) aC)) aC)))) 0x5))
  (au (bQ (aV Pz (aR bY 0x40 aA) aA (bH _)) (au (aU (i:=10) lg.nd rfl 0x8 (aO bI (pv 5) (aR bY 0x40 (bF dI rfl mn A1y (aj (pv 5) aC))) 0x5))
  (aG (aU (i:=7) lg.nd rfl 0x8 (aO bI (aR pC (eG (aj aN aC)) (pv 5)) (aR bY 0x40 aA) 0x5)))) aX)
  (au (aU (i:=11) lg.nd rfl 0x8 (QC (u1 hr) 0x1A (pv 7) aA ⟨rfl,rfl,rfl,rfl⟩))
  (au (aU (i:=12) lg.nd rfl 0x8 (aR dH aA (aR bY 0x40 (bF (wO rfl) rfl mmax Qo (aj aA (aj (pv 11) aC))))))
  (au (bQ (aV dO (aR bY 0x40 aA) aA (bH _)) (aG (aU (i:=12) lg.nd rfl 0x8 (bF (wQ rfl) rfl a1f V7 (aj aA (aj (aR dH (aR dH (pv 11) aA) (aR bY 0x40 aA)) aC))))) aX)
  (au (aU (i:=13) lg.nd rfl 0x8 (aR bY 0x40 aA))
  (au (bQ (PW.pt (uD (aV pR (pv 13) aA (bH _)) (pq (PW.pt (pA (aV dO (pv 7) aN (bH _)) (mq (aV iV (pv 13) (cN (aj aA (aj aA (aj aA (aj aA (aj aA aC)))))) 0x16))))))) (aG (aZ (cN (aj aN (aj (pv 3) (aj (pv 7) (aj (pv 10) (aj (pv 8) (aj (pv 12) (aj (aO bI (eG (aj aA (aj aA (aj (aR bY 0x40 aA) (aj (aR pB aA (aR bY 0x40 aA)) aC))))) (aR bY 0x40 aA) 0x5) aC)))))))))) aX)
  (au (bQ (PW.pt (uD (aV dO (pv 13) aA (bH _)) (pq (aV dO (pv 13) aA (bH _))))) (aG (aZ (cN (aj aN (aj (pv 3) (aj (pv 7) (aj (pv 10) (aj (pv 8) (aj (pv 12) aC))))))))) aX)
  (au (bQ (aV pR (pv 13) aA (bH _)) (aG (aZ (cN (aj aN (aj (pv 3) (aj (pv 7) (aj (pv 8) aC))))))) aX)
  (au (bQ (PW.pt (uD (aV dO (pv 13) aA (bH _)) (pq (aV dO (pv 13) aA (bH _))))) cB aX)
  (au (bQ (aV dO (pv 13) aA (bH _)) cB aX)
  (au (bQ (aV dO (pv 13) aA (bH _)) (aG (aZ (cN (aj aN (aj (pv 3) (aj (pv 7) aC)))))) aX)
  (aG (aZ (cN (aj aN (aj (pv 3) (aj (pv 8) aC)))))))))))))))))))))))),?_⟩
 obtain ⟨d0,e0,o0⟩:=iw hdo (i:=0) 0x7 0x2;obtain ⟨o0a,o0b⟩:=o0;obtain ⟨d1,e1,o1⟩:=iw hdo (i:=1) 0x7 0x2;obtain ⟨o1a,o1b⟩:=o1;obtain ⟨d2,e2,o2⟩:=iw hdo (i:=2) 0x7 0x2;obtain ⟨o2a,o2b⟩:=o2;obtain ⟨d3,e3,o3⟩:=iw hdo (i:=3) 0x7 0x2;obtain ⟨o3a,o3b⟩:=o3;obtain ⟨d4,e4,o4⟩:=iw hdo (i:=4) 0x7 0x2;obtain ⟨o4a,o4b⟩:=o4;obtain ⟨d5,e5,o5⟩:=iw hdo (i:=5) 0x7 0x2;obtain ⟨o5a,o5b⟩:=o5;obtain ⟨d6,e6,o6⟩:=iw hdo (i:=6) 0x7 0x2;obtain ⟨o6a,o6b⟩:=o6;obtain ⟨d7,e7,o7⟩:=iw hdo (i:=7) 0x7 0x2;obtain ⟨o7a,o7b⟩:=o7;have lm:=pl.lm;have ll:=pl.ll;have npos:0<es.length:=by
  obtain ⟨c,r,e,_⟩:=W.hd;rw [e];simp
 refine ⟨_,rfl,p,_,_,_,rfl,rfl,bR.of pl.r,aH (j:=0) rfl,?_⟩;refine ⟨_,rfl,p,_,_,_,rfl,rfl,bR.of pl.r,aH (j:=1) rfl,?_⟩;refine ⟨_,rfl,q.B,_,rfl,bk.gl,q.l,_,rfl,bk.l,fun t1 ht1=>?_⟩;rw [XF];have s1:=aP ht1 (.lst ((nms es).map V.str));refine ⟨t1,nms es,rfl,bT.of ao,by rw [cg];exact hl,fun th ts hth hpt _=>?_⟩;have s2:=s1.trans (aP hth (.lst (ts.map V.str)));have k2:(upd (upd H t1 (.lst ((nms es).map V.str))) th (.lst (ts.map V.str))) th=some (.lst (ts.map V.str)):=ao;generalize upd (upd H t1 (.lst ((nms es).map V.str))) th (.lst (ts.map V.str))=H2 at s2 k2 ⊢;have tl:ts.length=es.length:=by rw [hpt.length_eq,cg]
 have S2:=s2.seq hS;obtain ⟨est0,he0,hem0⟩:=wj (zs:=ts) (i:=d1 % ((ts.map V.str).length:Int)) (A0Q _ (by rw [cg];lia)) (by have:=A0J d1 (show (0:Int)<((ts.map V.str).length:Int) by rw [cg];lia);rw [cg] at this ⊢;exact this)
 refine ⟨_,rfl,_,rfl,d,_,_,_,rfl,rfl,S2,e1,_,rfl,th,_,rfl,.inl (bT.of k2),_,_,rfl,rfl,(by rw [cg];show (0:Int)<((ts.length:Nat):Int);lia),th,_,_,_,rfl,rfl,bT.of k2,he0,?_⟩
 have km2:=s2 _ _ pl.m;have kl2:=s2 _ _ pl.la;obtain ⟨man,hm0,hmm⟩:=wj (zs:=mz) (i:=d2 % ((mz.map V.str).length:Int)) (A0Q _ (by rw [cg];lia)) (by have:=A0J d2 (show (0:Int)<((mz.map V.str).length:Int) by rw [cg];lia);rw [cg] at this ⊢;exact this)
 refine ⟨_,rfl,_,rfl,d,_,_,_,rfl,rfl,S2,e2,_,rfl,m,_,rfl,.inl (bT.of km2),_,_,rfl,rfl,(by rw [cg];show (0:Int)<((mz.length:Nat):Int);lia),m,_,_,_,rfl,rfl,bT.of km2,hm0,?_⟩
 have hman:man≠"":=((pl.om man hmm).ne).1;refine ⟨_,rfl,la,rfl,⟨_,bT.of kl2⟩,fun D hD=>rW (xs:=ls) (fun x=>!decide (x∈ks)) V.str (bT.of kl2) hD 0x2 (fun x Hz A B hx sz hAB=>?_) (fun Hz sz jW=>?_)⟩
 ·have hAB:=hAB _ (Same.refl _);have bz:=bk.same (s2.trans sz);refine ⟨Kp.set rfl (Kp.refl _),_,rfl,_,rfl,q.B,_,rfl,bz.gk,q.kn,_,rfl,.inl (bT.of bz.k),rfl,rY _,_,rfl,?_⟩
  show if (!inV (V.str x) (ks.map V.str))=true then _ else _
  rw [zT];refine iQ 0x54 0x54
  ·rw [A0i c] at hAB;exact ⟨_,rfl,hAB⟩
  ·rw [A0e c] at hAB;exact hAB
 have fsub:∀ z∈ls.filter (fun x=>!decide (x∈ks)),z∈ls:=fun z hz=>(A0V.mp hz).1;have fle:(ls.filter fun x=>!decide (x∈ks)).length<=9:=by have:=A0K (fun x=>!decide (x∈ks)) ls;lia
 generalize (ls.filter fun x=>!decide (x∈ks))=fr at jW fsub fle;have s3:=s2.trans sz;have S3:=s3.seq hS;have kl3:=sz _ _ kl2;refine ⟨_,rfl,_,rfl,D,la,_,_,rfl,rfl,jW,kl3,(by rw [cg,cg];exact small 0x2),fun c1 hc1=>?_⟩;have e1':fr.map V.str++ls.map V.str=(fr++ls).map V.str:=by rw [jP]
 rw [e1'];have s4:=s3.trans (aP hc1 (.lst ((fr++ls).map V.str)));have k4:(upd Hz c1 (.lst ((fr++ls).map V.str))) c1=some (.lst ((fr++ls).map V.str)):=ao;have kD4:=(aP hc1 (.lst ((fr++ls).map V.str))) _ _ jW;have kl4:=(aP hc1 (.lst ((fr++ls).map V.str))) _ _ kl3;generalize upd Hz c1 (.lst ((fr++ls).map V.str))=H4 at s4 k4 kD4 kl4 ⊢;have S4:=s4.seq hS;have mxp:(0:Int)<(if ((fr.map V.str).length:Int) > 1 then ((fr.map V.str).length:Int) else 1):=by split <;> lia
 have mxl:(if ((fr.map V.str).length:Int) > 1 then ((fr.map V.str).length:Int) else 1)<=((fr++ls).length:Int):=by
  rw [cg,iT]
  split <;> lia
 obtain ⟨nw0,hn0,hnm⟩:=wj (zs:=fr++ls) (i:=d3 % (if ((fr.map V.str).length:Int) > 1 then ((fr.map V.str).length:Int) else 1)) (A0Q _ 0x2) (by have:=A0J d3 mxp;lia)
 have hnw0:nw0∈ls:=by
  rcases A0v.mp hnm with z | z
  ·exact fsub _ z
  ·exact z
 refine ⟨_,rfl,d,_,_,_,rfl,rfl,S4,e3,_,rfl,D,_,rfl,.inl (bT.of kD4),_,_,rfl,_,_,rfl,rfl,mxp,c1,_,_,_,rfl,rfl,bT.of k4,hn0,?_⟩;dsimp only [uF];refine grab (a:=LQ _ _ _) (fun σ' Hx=>∃ est nw,σ'=[some (.ref q.B),some (.ref p),some (.ref d),some (.int dy),some (.ref m),some (.ref la),some (.ref th),some (.str est),some (.str man),some (.ref D),some (.str nw),none,none,none,none]/\Same H Hx/\nw∈ls/\PyData.strOk est=true) (fun σ' Hx hp=>?_) (fun go=>?_)
 rotate_left
 ·refine ⟨_,rfl,d,_,_,_,rfl,rfl,S4,e7,_,_,rfl,rfl,(by show (0:Int)<12;decide),_,_,rfl,rfl,_,rfl,?_⟩
  refine iQ (fun _=>?_) (fun _=>?_)
  ·obtain ⟨nw1,hn1,hnm1⟩:=wj (zs:=ls) (i:=d3 % ((ls.map V.str).length:Int)) (A0Q _ (by rw [cg];lia)) (by have:=A0J d3 (show (0:Int)<((ls.map V.str).length:Int) by rw [cg];lia);rw [cg] at this ⊢;exact this)
   refine ⟨_,rfl,_,rfl,d,_,_,_,rfl,rfl,S4,e3,_,rfl,la,_,rfl,.inl (bT.of kl4),_,_,rfl,rfl,(by rw [cg];show (0:Int)<((ls.length:Nat):Int);lia),la,_,_,_,rfl,rfl,bT.of kl4,hn1,?_⟩
   refine ⟨small 0xA,fun c2 hc2=>?_⟩;have sc2:=aP hc2 (.lst [.str ""]);refine ⟨_,rfl,c2,la,_,_,rfl,rfl,ao,sc2 _ _ kl4,(by rw [cg,A0t];exact small 0x2),fun c3 hc3=>?_⟩;have e3':[V.str ""]++ls.map V.str=(("" : Str)::ls).map V.str:=rfl;rw [e3'];have sc3:=sc2.trans (aP hc3 (.lst ((("" : Str)::ls).map V.str)));have k5:(upd (upd H4 c2 (.lst [.str ""])) c3 (.lst ((("" : Str)::ls).map V.str))) c3=some (.lst ((("" : Str)::ls).map V.str)):=ao
   change (fun σ' H'=>_) _ _
   obtain ⟨est1,he1,hem1⟩:=wj (zs:=("" : Str)::ls) (i:=d1 % 10) 0x2 (by rw [pN];lia);refine ⟨_,rfl,d,_,_,_,rfl,rfl,(sc3.seq S4),e1,_,_,rfl,rfl,(by show (0:Int)<10;decide),c3,_,_,_,rfl,rfl,bT.of k5,he1,?_⟩
   exact go _ _ ⟨est1,nw1,rfl,s4.trans sc3,hnm1,(List.mem_cons.mp hem1).elim (fun z=>by rw [z];decide +kernel) fun z=>((pl.ol est1 z).ne).2⟩
  ·exact go _ _ ⟨est0,nw0,rfl,s4,hnw0,by obtain ⟨y0,hy0,e0⟩:=dM (hpt.mem_iff.mp hem0);rw [<- e0];exact W.ok y0 hy0⟩
 obtain ⟨est,nw,rfl,sx,hnw,hes⟩:=hp;have hns:=((pl.ol nw hnw).ne).2;have hms:=((pl.om man hmm).ne).2;have bx:=bk.same sx;have Sx:=sx.seq hS;obtain ⟨wv,hwv,w0,w1⟩:∃ wv:Int,(bJ (lH es) (.inr est)).getD (.int 0)=.int wv/\0<=wv/\wv<=9999:=by
  by_cases c:est∈nms es
  ·obtain ⟨y,hy,rfl⟩:=dM c;rw [cG W.nd hy];have b1:=W.bnd y hy;have b2:=W.vB y hy;exact ⟨y.own,rfl,by lia,by lia⟩
  ·rw [qF c];exact ⟨0,rfl,by lia,by lia⟩
 refine ⟨_,rfl,q.B,_,rfl,bx.go,q.o,rfl,isD bx.o,_,rfl,_,fQ.k (k:=.inr est) bx.o,?_⟩;rw [hwv];have mw:(0:Int)<(if wv > 1 then wv else 1):=by split <;> lia
 have mw2:(if wv > 1 then wv else 1)<=9999:=by split <;> lia
 have q40:=A0Q d4 (A3X mw);have q41:=A0J d4 mw;refine ⟨_,rfl,d,_,_,_,rfl,rfl,Sx,e4,_,rfl,_,_,rfl,_,_,rfl,rfl,mw,_,_,rfl,rfl,?_⟩;generalize d4 % (if wv > 1 then wv else 1)=q4 at q40 q41 ⊢
 dsimp only [uF];refine grab (a:=LQ _ _ _) (fun σ' Hy=>∃ many:Int,σ'=[some (.ref q.B),some (.ref p),some (.ref d),some (.int dy),some (.ref m),some (.ref la),some (.ref th),some (.str est),some (.str man),some (.ref D),some (.str nw),some (.int wv),some (.int many),none,none]/\Hy=Hx/\1<=many/\many<=9999) (fun σ' Hy hp=>?_) (fun go=>?_)
 rotate_left
 ·refine ⟨_,rfl,d,_,_,_,rfl,rfl,Sx,e7,_,_,rfl,rfl,(by show (0:Int)<12;decide),rfl,_,rfl,eq_int (fun _=>?_) (fun _=>?_)⟩
  ·refine ⟨_,rfl,_,_,rfl,rfl,_,rfl,d,_,_,_,rfl,rfl,Sx,e4,_,_,rfl,rfl,(by show (0:Int)<2;decide),_,_,rfl,rfl,_,_,rfl,go _ _ ⟨_,rfl,rfl,?_,?_⟩⟩
   ·split <;> lia
   ·split <;> lia
  ·exact go _ _ ⟨_,rfl,rfl,by lia,by lia⟩
 obtain ⟨many,rfl,rfl,mn1,mn2⟩:=hp;refine ⟨_,rfl,d,_,_,_,rfl,rfl,Sx,e0,_,_,rfl,rfl,(by show (0:Int)<13;decide),?_⟩
 dsimp only [uF];have y0:=A0Q d0 (show (13:Int)≠0 by decide)
 have y1:=A0J d0 (show (0:Int)<13 by decide)
 have hwy:=hw d0 e0;generalize d0 % 13=way at y0 y1 hwy ⊢;obtain ⟨sr,hsr,hsm⟩:=oJ (xs:=[V.int 0,.int 1,.int (d5 % 30),.int (9999 - d5 % 9)]) (i:=d6 % 4) 0x2 (by simp;lia);obtain ⟨sr,rfl,sr0,sr1⟩:∃ z:Int,sr=.int z/\0<=z/\z<=9999:=by
  simp only [List.mem_cons,A0L,A1N] at hsm;rcases hsm with rfl | rfl | rfl | rfl
  ·exact ⟨_,rfl,by lia,by lia⟩
  ·exact ⟨_,rfl,by lia,by lia⟩
  ·exact ⟨_,rfl,by lia,by lia⟩
  ·exact ⟨_,rfl,by lia,by lia⟩
 refine grab (a:=LQ _ _ _) (fun σ' Hw=>σ'=[some (.ref q.B),some (.ref p),some (.ref d),some (.int dy),some (.ref m),some (.ref la),some (.ref th),some (.str est),some (.str man),some (.ref D),some (.str nw),some (.int wv),some (.int many),some (.int way),none]/\Same H Hw/\4<=way/\(est=""->way∉[(4:Int),5,6,9,12])) (fun σ' Hw hp=>?_) (fun go=>?_)
 rotate_left
 ·have fin:∀ {Hw:Hp},Same H Hw->∀ r,Hw r=none->Q (.ref r) (upd Hw r (.tup [.str "grant",.int dy,.str est,.str nw,.str man,.int many,.int sr])):=fun {Hw} sw r hr0=>k r (.grant est nw man many sr) _ (bL sw (sw.free hr0)) ao ⟨hnw,mn1,mn2,sr0,sr1⟩ ⟨hes,hns,hms⟩;refine ⟨_,rfl,_,_,rfl,rfl,_,rfl,iQ (fun _=>?_) (fun c4=>?_)⟩
  ·refine dB ⟨_,rfl,_,rfl,_,rfl,_,rfl,_,rfl,_,rfl,d,_,_,_,rfl,rfl,Sx,e5,_,_,rfl,rfl,(by show (0:Int)<30;decide),_,rfl,d,_,_,_,rfl,rfl,Sx,e5,_,_,rfl,rfl,(by show (0:Int)<9;decide),_,_,rfl,rfl,small 0xA,fun c hc=>?_⟩
   have sc:=aP hc (.lst [.int 0,.int 1,.int (d5 % 30),.int (9999 - d5 % 9)]);refine ⟨_,rfl,d,_,_,_,rfl,rfl,(sc.seq Sx),e6,_,_,rfl,rfl,(by show (0:Int)<4;decide),c,_,_,_,rfl,rfl,bT.of ao,hsr,small 0xA,fun r hr0=>?_⟩
   exact fin (sx.trans sc) r hr0
  ·have c4':4<=way:=by simpa using c4
   refine ⟨_,rfl,rfl,_,rfl,eq_str (fun he=>?_) (fun he=>?_)⟩
   ·refine ⟨_,rfl,small 0xA,fun c hc=>⟨c,_,rfl,.inr (bR.of ao),rfl,rfl,_,rfl,a1d [4,5,6,9,12] (fun hin=>?_) (fun hin=>?_)⟩⟩
    ·have sc0:=aP hc (.tup [.int 4,.int 5,.int 6,.int 9,.int 12]);have Sx2:=sc0.seq Sx;refine ⟨_,rfl,_,rfl,_,rfl,_,rfl,_,rfl,_,rfl,d,_,_,_,rfl,rfl,Sx2,e5,_,_,rfl,rfl,(by show (0:Int)<30;decide),_,rfl,d,_,_,_,rfl,rfl,Sx2,e5,_,_,rfl,rfl,(by show (0:Int)<9;decide),_,_,rfl,rfl,small 0xA,fun c' hc'=>?_⟩
     have sc:=aP hc' (.lst [.int 0,.int 1,.int (d5 % 30),.int (9999 - d5 % 9)]);refine ⟨_,rfl,d,_,_,_,rfl,rfl,(sc.seq Sx2),e6,_,_,rfl,rfl,(by show (0:Int)<4;decide),c',_,_,_,rfl,rfl,bT.of ao,hsr,small 0xA,fun r hr0=>?_⟩
     exact fin ((sx.trans sc0).trans sc) r hr0
    ·exact go _ _ ⟨rfl,sx.trans (aP hc _),c4',fun _=>hin⟩
   ·refine cu ?_;exact go _ _ ⟨rfl,sx,c4',fun z=>absurd z he⟩
 obtain ⟨rfl,sw,c4,hcr⟩:=hp;have Sw:=sw.seq hS;have bw:=bk.same sw;have plw:=pl.same sw;have part:way∈[(4:Int),5,6,9,12]->est≠"":=fun h1 h2=>hcr h2 h1;have YX:(way=4\/way=12)->∀ r,Hw r=none->Q (.ref r) (upd Hw r (.tup [.str "part",.int dy,.str est,.str nw,.str man,.int many])):=fun hy r hr0=>k r (.part est nw man many) _ (bL sw (sw.free hr0)) ao ⟨hnw,mn1,mn2,part (by rcases hy with rfl | rfl <;> decide)⟩ ⟨hes,hns,hms⟩;refine ⟨_,rfl,rfl,_,rfl,eq_int (fun hy=>dB ?_) (fun n4=>?_)⟩
 ·exact ⟨_,rfl,_,rfl,_,rfl,_,rfl,_,rfl,small 0xA,YX (.inl hy)⟩
 refine ⟨_,rfl,rfl,_,rfl,eq_int (fun hy=>?_) (fun n12=>?_)⟩
 ·exact ⟨_,rfl,_,rfl,_,rfl,_,rfl,_,rfl,small 0xA,YX (.inr hy)⟩
 refine ⟨_,rfl,_,_,rfl,rfl,_,rfl,iQ (fun c7=>?_) (fun c7=>?_)⟩
 ·have c7':way<7:=by simpa using c7
  refine ⟨_,rfl,_,rfl,_,rfl,small 0xA,fun r hr0=>?_⟩;refine k r (.convey est man) _ (bL sw (sw.free hr0)) ao (part ?_) ⟨hes,hms⟩;have:way=5\/way=6:=by lia
  rcases this with rfl | rfl <;> decide
 have c7':7<=way:=by simpa using c7
 have w9:way=9:=by lia
 refine ⟨_,rfl,rfl,_,rfl,eq_int (fun hy=>absurd hy 0x2) (fun _=>?_)⟩;refine ⟨_,rfl,rfl,_,rfl,eq_int (fun hy=>absurd hy 0x2) (fun _=>?_)⟩;refine ⟨_,rfl,rfl,_,rfl,eq_int (fun hy=>absurd hy 0x2) (fun _=>?_)⟩;refine ⟨_,rfl,rfl,_,rfl,eq_int (fun hy=>?_) (fun n9=>absurd w9 n9)⟩;refine ⟨_,rfl,_,rfl,small 0xA,fun r hr0=>?_⟩;exact k r (.eZ est) _ (bL sw (sw.free hr0)) ao (part (by rw [w9];decide)) hes
abbrev Iz:Stmt:=top 70
theorem uw {l:List Ig} (h:xs.map isI=l.map Ig.num):KY l xs:=fun i s v h1 h2=>by
 have a:(xs.map isI)[i]?=some (isI v):=by rw [jY,h2];rfl
 have b:(l.map Ig.num)[i]?=some s.num:=by rw [jY,h1];rfl
 rw [h,b] at a;exact (A0O a).symm
theorem Es {bG:Rw} (tx:bG.Tx):gG (Rw.vs dy bG):=by
 cases bG with
 | grant e n m a s=>exact ⟨"grant",dy,_,[.d,.c,.n,.n,.a,.s],rfl,by decide +kernel,rfl,uw rfl,by show (fD (.str "grant")&&(fD (.int dy)&&(PyData.strOk e&&(PyData.strOk n&&(PyData.strOk m&&(fD (.int a)&&(fD (.int s)&&true)))))))=true;rw [tx.1,tx.2.1,tx.2.2];rw [show fD (V.str "grant")=true from by decide +kernel];rfl⟩
 | part e n m a=>exact ⟨"part",dy,_,[.d,.n,.n,.n,.a],rfl,by decide +kernel,rfl,uw rfl,by show (fD (.str "part")&&(fD (.int dy)&&(PyData.strOk e&&(PyData.strOk n&&(PyData.strOk m&&(fD (.int a)&&true))))))=true;rw [tx.1,tx.2.1,tx.2.2];rw [show fD (V.str "part")=true from by decide +kernel];rfl⟩
 | convey e m=>exact ⟨"convey",dy,_,[.d,.n,.n],rfl,by decide +kernel,rfl,uw rfl,by show (fD (.str "convey")&&(fD (.int dy)&&(PyData.strOk e&&(PyData.strOk m&&true))))=true;rw [tx.1,tx.2];rw [show fD (V.str "convey")=true from by decide +kernel];rfl⟩
 | eZ e=>exact ⟨"surrender",dy,_,[.d,.n],rfl,by decide +kernel,rfl,uw rfl,by show (fD (.str "surrender")&&(fD (.int dy)&&(PyData.strOk e&&true)))=true;rw [show PyData.strOk e=true from tx];rw [show fD (V.str "surrender")=true from by decide +kernel];rfl⟩
theorem Bc {bG:Rw} (tx:bG.Tx):(Rw.vs dy bG).all fD=true:=by
 obtain ⟨k,d,rest,l,e,_,_,_,h⟩:=Es (dy:=dy) tx
 first | exact h | (rw [e];exact h)
theorem yG {rs:List (List V)} (h:iJ H as rs) (s:Same H H'):iJ H' as rs:=by
 induction h with
 | nil=>exact .nil
 | cons a _ ih=>exact .cons (s _ _ a) ih
theorem Et:∀ {as:List Addr}{rows:List (List V)},iJ H as rows->H a=some (.tup r)->iJ H (as++[a]) (rows++[r])
 | _,_,.nil,h=>.cons h .nil
 | _,_,.cons h t,h'=>.cons h (Et t h')
def V9 (ls:List Str) (r:List V):Prop:=∃ dy bG,r=Rw.vs dy bG/\bG.Ok ls/\bG.Tx/\0<=dy/\dy<=9999
def rowAt (H:Hp) (a:Addr):List V:=match H a with
 | some (.tup r)=>r
 | _=>[]
theorem yH:∀ {all:List Addr}{rs:List (List V)},iJ H all rs->all.map (rowAt H)=rs
 | _,_,.nil=>rfl
 | _,_,.cons h t=>by
  rw [A0g,yH t];unfold rowAt;rw [h]
theorem IK {all:List Addr}{rs:List (List V)} (h:iJ H all rs) (hr:∀ r∈rs,V9 ls r) (nd:rs.Nodup):iK H all (rowAt H)/\∃ (oR:Addr->Int) (lN:Addr->Rw),∀ a∈all,Aw (rowAt H) oR lN ls a:=by
 have at':∀ a∈all,H a=some (.tup (rowAt H a))/\V9 ls (rowAt H a):=fun a ha=>by
  obtain ⟨q,hq,e⟩:=vG h a ha;have:rowAt H a=q:=by unfold rowAt;rw [e]
  rw [this];exact ⟨e,hr q hq⟩
 refine ⟨⟨fun a ha=>⟨(at' a ha).1,?_⟩,by rw [yH h];exact nd⟩,?_⟩
 ·obtain ⟨dy,bG,e,_,tx,_⟩:=(at' a ha).2;rw [e];exact Es tx
 ·have ex:∀ a,∃ x:Int×Rw,a∈all->rowAt H a=Rw.vs x.1 x.2/\x.2.Ok ls/\x.2.Tx/\0<=x.1/\x.1<=9999:=fun a=>by
   by_cases c:a∈all
   ·obtain ⟨dy,bG,q⟩:=(at' a c).2;exact ⟨(dy,bG),fun _=>q⟩
   ·exact ⟨(0,.eZ ""),fun z=>absurd z c⟩
  refine ⟨fun a=>(Classical.choose (ex a)).1,fun a=>(Classical.choose (ex a)).2,fun a ha=>?_⟩;obtain ⟨q1,q2,q3,q4,q5⟩:=Classical.choose_spec (ex a) ha;exact ⟨q1,q2,q3,q4,q5⟩
theorem cut1 (v:V) (rest:List V):gw (v::rest) (some 1) none=rest:=by
 unfold gw;have e1:HT.eV (v::rest).length 0 (some 1)=1:=by
  rw [show (1:Int)=((1:Nat):Int) by rfl,HT.kE]
  simp
 have e2:HT.eV (v::rest).length (v::rest).length none=(v::rest).length:=rfl;rw [e1,e2,List.drop_one,List.tail_cons,A3b 0xA]
theorem mk_q {B h o kn dd t:Addr}{n:Int} (tH:Gp B l h o d) (nkd:kn≠dd) (BL:cZ H B l h o d kn dd kvs (jX .non) (jX (.str "")) (jX (.int n)) (jX (.ref t)) []):∃ q:Ad,(q.B=B/\q.l=l/\q.h=h/\q.o=o/\q.d=d/\q.kn=kn/\q.dd=dd/\q.kvs=kvs)/\Ap q:=by
 have ndl:[B,l,h,o,d,kn,dd].Nodup:=by
  have a1:=aK BL.b BL.k 0x4;have a2:=aK BL.b BL.x 0x4;have a3:=aK BL.l BL.k 0x4;have a4:=aK BL.l BL.x 0x4;have a5:=aK BL.h BL.k 0x4;have a6:=aK BL.h BL.x 0x4;have a7:=aK BL.o BL.k 0x4;have a8:=aK BL.o BL.x 0x4;have a9:=aK BL.d BL.k 0x4;have a10:=aK BL.d BL.x 0x4;have:=tH.n12;have:=tH.n13;have:=tH.n14;have:=tH.n15;have:=tH.n23;have:=tH.n24;have:=tH.n25;have:=tH.n34;have:=tH.n35;have:=tH.n45;simp [*]
 exact ⟨⟨0,0,[B,l,h,o,d,kn,dd].sum+1,[B,l,h,o,d,kn,dd].sum+2,[B,l,h,o,d,kn,dd].sum+3,[B,l,h,o,d,kn,dd].sum+4,[B,l,h,o,d,kn,dd].sum+5,B,l,h,o,d,kn,dd,kvs,n⟩,⟨rfl,rfl,rfl,rfl,rfl,rfl,rfl,rfl⟩,five ndl⟩
inductive Bf (K:W.Frag) (vs:List V) (H:Hp) (Q:VK) (cD:XK):Prop
 | mk (fa p m la wy:Addr) (fs ways:List Int) (many:Int) (ms ls:List Str) (wd:Int) (_:vs=[.ref fa,.int 20,.int many,.ref p,.ref wy]) (_:H fa=some (.lst (fs.map V.int))) (_:fs.length=160) (_:(∀ v∈fs,wB v)) (_:0<=many) (_:many<=16) (_:Er H p m la ms ls wd) (_:H wy=some (.lst (ways.map V.int))) (_:0<ways.length) (_:ways.length<=20) (_:(∀ v∈ways,wB v/\(v % 13<7\/v % 13=9\/v % 13=12))) (_:∀ R all rs H',Same H H'->H' R=some (.lst 0x4B)->H R=none->all.length<=16->iJ H' all rs->(∀ r∈rs,V9 ls r)->rs.Nodup->Q (.ref R) H'):Bf K vs H Q cD
theorem jM:aQ ["_law_feed_here", "_law_at", "_law_many", "_law_pools_here", "_law_ways", "_law_book_here", "_law_rows_here", "_law_day", "_law_k", "_law_d", "_law_row_here"] A5N (aJ Iz):=0x0
theorem Va (F:fK K "_law_rows" "_law_rows" Iz f fd) (mr:mg "range"=none) (mn:mg "len"=none) (a1f:mg "min"=none)  (G1:aL P w K mg base bN 1 g1 d1 ["_law_acres"] zG) (M1:Ms K mg "_law_book" g1 d1 ["_law_acres"])
  (G2:aL P w K mg base bN 4 g2 d2 A5R (V8 K)) (M2:Ms K mg "_law_row" g2 d2 A5R)
  (G3:aL P w K mg base bN 4 g3 d3 A5J ur) (M3:Ms K mg "_law_word" g3 d3 A5J):aL P w K mg base bN 5 f fd A5N (Bf K):=by
 refine F.ok jM 0x1 0x3;obtain ⟨fa,p,m,la,wy,fs,ways,many,ms,ls,wd,rfl,hfa,hfl,hfo,m0,m1,pl,hwy,wp,wl,hwo,k⟩:=h;have hr1:cP 1 _:=hr.mono 0x7;refine ⟨_,au (aU (i:=5) jM.nd rfl 0x8 (bC G1 hr1 rfl M1.m M1.k M1.b .nil aY (aj (aO bA (pv 3) aA 0x5) aC)))
  (au (aU (i:=6) jM.nd rfl 0x8 (eG aC))
  (au (aU (i:=7) jM.nd rfl 0x8 (aR bY 0x50 aA))
  (au (bQ (aV dO (aR bY (aR jB 0x50 aA) aA) aA (bH _)) (aG (aU (i:=7) jM.nd rfl 0x8 (aR dH aA (aR bY 0x50 aA)))) aX)
  (au (iz A0W rfl (lQ rfl mr 0x3D) (bD (i:=8) jM.nd rfl 0x8)
   (au (aU (i:=9) jM.nd rfl 0x8 (dY jC 0x3A (cA (aR dH 0x11 (aR lA aA (pv 8)))) (cA (aR dH (aR dH 0x11 (aR lA aA (pv 8))) aA))))
   (au (aU (i:=10) jM.nd rfl 0x8 (bC G2 hr rfl M2.m M2.k M2.b .nil aY (aj (pv 5) (aj (pv 3) (aj (aR pC (eG (aj (aO bI (pv 4) (aR bY (aO bI (pv 9) aA 0x5) (bF dI rfl mn A1y (aj (pv 4) aC))) 0x5) aC)) (dY jC (pv 9) (cA aA) fj)) (aj (pv 7) aC))))))
   (au (bQ (aV (O5 (u64 hr)) (pv 10) (pv 6) 0x16)
    (au (bO (jj A0H A0T A0U dR (pv 6) (aj (pv 10) aC)))
    (aG (bO (bC G3 hr rfl M3.m M3.k M3.b .nil aY (aj (pv 5) (aj (pv 10) aC)))))) aX)
   (aG (aU (i:=7) jM.nd rfl 0x8 (bF (wQ rfl) rfl a1f V7 (aj aA (aj (aR dH (pv 7) (aO bI (eG (aj aA (aj aA (aj aA (aj aA (aj aA aC)))))) (aR bY (aR jB (aO bI (pv 9) aA 0x5) aA) aA) 0x5)) aC)))))))))
  (aG (aZ (pv 6))))))),?_⟩
 refine ⟨_,rfl,p,_,_,_,rfl,rfl,bR.of pl.r,aH (j:=2) rfl,wd,rfl,fun B bl bh bo bd Xp Xq b0 kvs H1 s1 hB0 hl0 hh0 ho0 hd0 hk0 hdd0 hb0 tH nkd BL fr1=>⟨small 0xA,fun R hR=>?_⟩⟩;obtain ⟨q,hq,apq⟩:=mk_q tH nkd BL;obtain ⟨rfl,rfl,rfl,rfl,rfl,rfl,rfl,rfl⟩:=hq;have hR0:H R=none:=s1.free hR;have nRk:R≠q.kn:=fun z=>by rw [z,BL.k] at hR;cases hR
 have nRd:R≠q.dd:=fun z=>by rw [z,BL.x] at hR;cases hR
 apply 0o1 H1 R hR sR R2 H2
 have s2:=s1.trans sR;have B2:Bk q H2 [Oj wd 0 b0] []:=cZ.same BL sR;have fr2:∀ e∈[Oj wd 0 b0],jy H2 e.tb e.due.1 e.due.2:=fun e he=>by rw [A0c.mp he];exact sR _ _ fr1
 have hls:∀ n∈ls,n≠""/\PyData.strOk n=true:=fun n hn=>(pl.ol n hn).ne;obtain ⟨v14,e14,o14⟩:=iw hfo (i:=14) 0x7 0x2;obtain ⟨o14a,o14b⟩:=o14;have fa2:=s2 _ _ hfa;refine ⟨_,rfl,fa,_,_,_,rfl,rfl,bT.of fa2,e14,_,_,rfl,rfl,(by show (0:Int)<40;decide),?_⟩
 dsimp only [uF];refine grab (a:=LQ _ _ _) (fun σ' Hx=>∃ day:Int,σ'=[some (.ref fa),some (.int 20),some (.int many),some (.ref p),some (.ref wy),some (.ref q.B),some (.ref R),some (.int day),none,none,none]/\Hx=H2/\0<=day/\day<=9999) (fun σ' Hx hp=>?_) (fun go=>?_)
 rotate_left
 ·refine ⟨_,rfl,fa,_,_,_,rfl,rfl,bT.of fa2,e14,_,_,rfl,rfl,⟨by decide,by decide⟩,_,_,rfl,rfl,(by show (0:Int)<8;decide),rfl,_,rfl,eq_int (fun _=>?_) (fun _=>?_)⟩
  ·exact ⟨_,rfl,fa,_,_,_,rfl,rfl,bT.of fa2,e14,_,_,rfl,rfl,(by show (0:Int)<15;decide),_,_,rfl,rfl,go _ _ ⟨_,rfl,rfl,by lia,by lia⟩⟩
  ·exact go _ _ ⟨_,rfl,rfl,by lia,by lia⟩
 obtain ⟨day0,rfl,rfl,dd0,dd1⟩:=hp;refine ⟨_,rfl,many,rfl,by lia,by lia,?_⟩;refine lU (lo:=0) (n:=many.toNat) (fun i σ Hx=>∃ (es:List aM) (ks:List Str) (all:List Addr) (rs:List (List V)) (day:Int) (u8 u9 u10:Option V),σ=[some (.ref fa),some (.int 20),some (.int many),some (.ref p),some (.ref wy),some (.ref q.B),some (.ref R),some (.int day),u8,u9,u10]/\Same H Hx/\Bk q Hx es ks/\Pu es ks ls i wd/\(∀ e∈es,jy Hx e.tb e.due.1 e.due.2)/\Hx R=some (.lst 0x4B)/\all.length<=i/\iJ Hx all rs/\(∀ r∈rs,V9 ls r)/\rs.Nodup/\0<=day/\day<=9999)
  ⟨_,_,[],[],day0,none,none,none,rfl,s2,B2,V0 wd 0 b0 ls pl.w1 pl.w2,fr2,R2,A0f _,.nil,(fun r hr=>nomatch hr),.nil,dd0,dd1⟩ ?_ ?_
 ·rintro i σ Hx hi ⟨es,ks,all,rs,day,u8,u9,u10,rfl,sx,BX,PX,fX,RX,al,RA,IR,nd,a2H,a2I⟩;have hi16:i<16:=by lia
  have fax:=sx _ _ hfa;have wyx:=sx _ _ hwy;refine ⟨_,rfl,_,rfl,_,rfl,_,_,rfl,rfl,.inl ⟨by decide,by decide⟩,_,_,rfl,rfl,_,rfl,_,rfl,_,rfl,_,_,rfl,rfl,.inl ⟨by decide,by decide⟩,_,_,rfl,rfl,_,_,rfl,rfl,_,rfl,fa,_,rfl,bT.of fax,fun D hD=>?_⟩;have ec:gw (fs.map V.int) (some (20+8 * (0+(i:Int)))) (some (20+8 * (0+(i:Int))+8))=((fs.drop (20+8 * i)).take 8).map V.int:=by
   have x1:20+8 * (0+(i:Int))=((20+8 * i:Nat):Int):=by lia
   have x2:20+8 * (0+(i:Int))+8=((20+8 * i+8:Nat):Int):=by lia
   rw [x2,x1,w6 0x2 0x2]
   congr 2
   lia
  rw [ec];have hdo:∀ v∈(fs.drop (20+8 * i)).take 8,wB v:=Iw hfo;have dl:((fs.drop (20+8 * i)).take 8).length=8:=by rw [A0G,A1z];lia
  generalize (fs.drop (20+8 * i)).take 8=ds at hdo dl ⊢
  apply 0o1 Hx D hD sD kD HD
  have RD:HD R=some (.lst 0x4B):=sD _ _ RX;have sxD:=sx.trans sD;obtain ⟨d0,e0,o0⟩:=iw hdo (i:=0) 0x7 0x2;obtain ⟨d6,e6,o6⟩:=iw hdo (i:=6) 0x7 0x2;obtain ⟨dh,dt,rfl⟩:∃ a r,ds=a::r:=by
   cases ds with
   | nil=>simp at dl
   | cons a r=>exact ⟨a,r,rfl⟩
  have wpos:(0:Int)<((ways.map V.int).length:Int):=by rw [cg];lia
  obtain ⟨wv0,hwv,hwm⟩:=oJ (xs:=ways.map V.int) (i:=d0 % ((ways.map V.int).length:Int)) (A0Q _ (A3X wpos)) (A0J _ wpos);obtain ⟨wv,hwv2,rfl⟩:=A0m.mp hwm;have hwo':=hwo wv hwv2;refine ⟨_,rfl,_,rfl,_,rfl,_,rfl,D,_,_,_,rfl,rfl,bT.of kD,e0,_,rfl,wy,_,rfl,.inl (bT.of (sD _ _ wyx)),_,_,rfl,rfl,wpos,wy,_,_,_,rfl,rfl,bT.of (sD _ _ wyx),hwv,small 0xA,fun L1 hL1=>?_⟩
  apply 0o1 HD L1 hL1 sL1 k1 HL1
  refine ⟨_,rfl,_,rfl,D,_,rfl,bT.of (sL1 _ _ kD),fun L2 hL2=>?_⟩;rw [A0g,cut1]
  apply 0o1 HL1 L2 hL2 sL2 k2 HL2
  have dtl:dt.length=7:=by simpa using dl
  refine ⟨L1,L2,_,_,rfl,rfl,sL2 _ _ k1,k2,(by rw [cg,A0t];exact small 0x2),fun L3 hL3=>?_⟩;have e3:[V.int wv]++dt.map V.int=(wv::dt).map V.int:=rfl;rw [e3]
  apply 0o1 HL2 L3 hL3 sL3 k3 HL3
  have sxL:=sL1.trans (sL2.trans sL3);have sx3:=sxD.trans sxL;have ln:=PX.ln;refine ⟨_,rfl,q,es,ks,p,L3,m,la,ms,ls,wd,day,wv::dt,rfl,apq,cZ.same BX (sD.trans sxL),PX.W,by lia,pl.same sx3,bT.of k3,by rw [pN,dtl],fun v hv=>?_,fun x hx=>?_,fun r bG HR sr hr' hok htx=>?_⟩
  ·rcases List.mem_cons.mp hv with z | z
   ·rw [z];exact hwo'.1
   ·exact hdo v (jh _ z)
  ·have:wX ((wv::dt).map V.int) 0=some (V.int wv):=aH (j:=0) rfl;rw [this] at hx;injection hx with hx;injection hx with hx;rw [<- hx];exact hwo'.2
  ·have sXR:=(sD.trans sxL).trans sr;have sxR:=sx.trans sXR;have BR:=cZ.same BX sXR;have fR:∀ e∈es,jy HR e.tb e.due.1 e.due.2:=fun e he=>sXR _ _ (fX e he);have RR:=sXR _ _ RX;have DR:HR D=some (.lst ((dh::dt).map V.int)):=sr _ _ (sxL _ _ kD);have RAR:iJ HR all rs:=yG RA sXR;have flat:∀ q∈rs,q.all fD=true:=fun q hq=>by
    obtain ⟨dy,rw2,e,_,tx,_⟩:=IR q hq;rw [e];exact Bc tx
   dsimp only [uF];refine grab (a:=LQ _ _ _) (fun σ' Hy=>∃ (es':List aM) (ks':List Str) (all':List Addr) (rs':List (List V)),σ'=[some (.ref fa),some (.int 20),some (.int many),some (.ref p),some (.ref wy),some (.ref q.B),some (.ref R),some (.int day),some (.int (0+(i:Int))),some (.ref D),some (.ref r)]/\Same H Hy/\Bk q Hy es' ks'/\Pu es' ks' ls (i+1) wd/\(∀ e∈es',jy Hy e.tb e.due.1 e.due.2)/\Hy R=some (.lst (all'.map V.ref))/\all'.length<=i+1/\iJ Hy all' rs'/\(∀ r∈rs',V9 ls r)/\rs'.Nodup/\Hy D=some (.lst ((dh::dt).map V.int))) (fun σ' Hy hp=>?_) (fun go=>?_)
   rotate_left
   ·refine ⟨_,rfl,_,rfl,r,R,all,Rw.vs day bG,rs,rfl,rfl,bT.of RR,hr',Bc htx,RAR,flat,?_⟩
    by_cases hin:Rw.vs day bG∈rs
    ·have eb:(rs.any fun q=>decide (q=Rw.vs day bG))=true:=by
      rw [List.any_eq_true];exact ⟨_,hin,A0j rfl⟩
     rw [eb];refine ⟨_,rfl,?_⟩;exact go _ _ ⟨es,ks,all,rs,rfl,sxR,BR,PX.up (A2b i),fR,RR,by lia,RAR,IR,nd,DR⟩
    ·have eb:(rs.any fun q=>decide (q=Rw.vs day bG))=false:=by
      rw [A3R];exact fun q hq=>by rw [A1K];exact fun z=>hin (z ▸ hq)
     rw [eb];refine ⟨_,rfl,?_⟩;refine ⟨_,rfl,.inl ⟨rfl,_,bT.of RR⟩,_,rfl,R,_,_,rfl,rfl,RR,by rw [cg];exact small 0x2,?_⟩;have nT:∀ {c:Addr}{xs:List V},HR c=some 0x3E->(upd HR R 0x2A) c=some 0x3E:=fun h=>by rw [ak (aK h RR 0x4)];exact h
     have nK:∀ {c:Addr}{kv:List 0x61},HR c=some (.dK kv)->(upd HR R 0x2A) c=some (.dK kv):=fun h=>by rw [ak (aK h RR 0x4)];exact h
     have BA:Bk q (upd HR R 0x2A) es ks:=⟨nK BR.b,BR.vl,BR.vh,BR.vo,BR.vd,BR.vk,BR.vx,nK BR.l,nK BR.h,nK BR.o,nK BR.d,(by rw [ak nRk.symm];exact BR.k),(by rw [ak nRd.symm];exact BR.x),BR.len⟩;have RAA:iJ (upd HR R 0x2A) all rs:=Paired.Oz RAR fun a b h=>nT h;have rA:=nT hr';have fA:∀ e∈es,jy (upd HR R 0x2A) e.tb e.due.1 e.due.2:=fun e he=>nT (fR e he);have hRA:(upd HR R 0x2A) R=some 0x2A:=ao;have sA:Same H (upd HR R 0x2A):=fun c u h=>by rw [ak (aq h hR0)];exact sxR _ _ h
     have DA:(upd HR R 0x2A) D=some (.lst ((dh::dt).map V.int)):=by
      rw [ak (aq RX hD).symm];exact DR
     generalize upd HR R 0x2A=HA at BA RAA rA fA hRA sA DA ⊢;refine ⟨_,rfl,_,rfl,q,es,ks,ls,i,r,bG,day,wd,rfl,apq,BA,PX,fA,hok,hls,by lia,rA,fun w1 es' ks' HW J BW fW ob=>?_⟩;refine go _ _ ⟨es',ks',all++[r],rs++[Rw.vs day bG],rfl,fun c u h=>?_,BW,J.pu PX hok hls,fW,?_,?_,?_,?_,?_,?_⟩
     ·exact ob c u (aq h hl0) (aq h hh0) (aq h ho0) (aq h hd0) (aq h hk0) (sA _ _ h)
     ·rw [jP];exact ob R _ (aK hRA BA.l 0x4) (aK hRA BA.h 0x4) (aK hRA BA.o 0x4) (aK hRA BA.d 0x4) nRk hRA
     ·rw [iT,A0t];lia
     ·exact Et (Paired.Oz RAA fun a b h=>dw.tup BA ob h) (dw.tup BA ob rA)
     ·intro x hx;rcases A0v.mp hx with z | z
      ·exact IR x z
      ·rw [A0c.mp z];exact ⟨day,bG,rfl,hok,htx,a2H,a2I⟩
     ·rw [A1Z];exact ⟨nd,by simp,fun a ha b hb=>by rw [A0c.mp hb];exact fun z=>hin (z ▸ ha)⟩
     ·exact ob D _ (aK DA BA.l 0x4) (aK DA BA.h 0x4) (aK DA BA.o 0x4) (aK DA BA.d 0x4) (aq BX.k hD).symm DA
   ·obtain ⟨es',ks',all',rs',rfl,sy,By,Py,fy,Ry,ay,RAy,IRy,ndy,Dy⟩:=hp;refine ⟨_,rfl,small 0xA,fun L hL=>?_⟩;have sL:=aP hL 0x4A;have kL:(upd Hy L 0x4A) L=some 0x4A:=ao;have RL:=sL _ _ Ry;have DL:=sL _ _ Dy;have sHL:=sy.trans sL;have BL':=cZ.same By sL;have fL:∀ e∈es',jy (upd Hy L 0x4A) e.tb e.due.1 e.due.2:=fun e he=>sL _ _ (fy e he);have RAL:=yG RAy sL;generalize upd Hy L 0x4A=HL at sL kL RL DL sHL BL' fL RAL ⊢;obtain ⟨x,ex,mx⟩:=oJ (xs:=[V.int 1,V.int 1,V.int 0,V.int 5,V.int 300]) (i:=d6 / 4 % 5) (A0Q _ 0x7) (A0J _ 0x7);obtain ⟨x',rfl,x0,x1⟩:∃ x':Int,x=.int x'/\0<=x'/\x'<=300:=by
     simp only [List.mem_cons,A0L,A1N] at mx;rcases mx with rfl | rfl | rfl | rfl | rfl <;> exact ⟨_,rfl,by decide,by decide⟩
    refine ⟨_,rfl,D,_,_,_,rfl,rfl,bT.of DL,e6,_,_,rfl,rfl,⟨by decide,by decide⟩,_,_,rfl,rfl,(by show (0:Int)<5;decide),L,_,_,_,rfl,rfl,bT.of kL,ex,_,_,rfl,rfl,_,_,rfl,?_⟩
    refine ⟨es',ks',all',rs',_,_,_,_,rfl,sHL,BL',Py,fL,RL,ay,RAL,IRy,ndy,?_,?_⟩ <;> split <;> lia
 ·rintro σ Hx ⟨es,ks,all,rs,day,u8,u9,u10,rfl,sx,BX,PX,fX,RX,al,RA,IR,nd,_,_⟩;exact ⟨_,rfl,k R all rs Hx sx RX hR0 0x2 RA IR nd⟩
abbrev Bg:Stmt:=top 75
theorem Bh (h:iK H as dat) (k:Same H H'):iK H' as dat:=⟨fun a ha=>⟨k a _ (h.1 a ha).1,(h.1 a ha).2⟩,h.2⟩
theorem Li {bs:List Addr} (h:iK H as dat) (p:bs.Perm as):iK H bs dat:=⟨fun a ha=>h.1 a (p.mem_iff.mp ha),((p.map dat).nodup_iff).mpr h.2⟩
inductive wk (CC CR CK C:Addr) (K:W.Frag) (vs:List V) (H:Hp) (Q:VK) (cD:XK):Prop
 | mk (p fa l m la:Addr) (fs:List Int) (ms ls:List Str) (wd:Int) (all:List Addr) (dat:Addr->List V) (oR:Addr->Int) (lN:Addr->Rw) (_:vs=[.ref p,.ref fa,.ref l]) (_:Er H p m la ms ls wd) (_:H fa=some (.lst (fs.map V.int))) (_:fs.length=160) (_:(∀ v∈fs,wB v)) (_:H l=some (.lst 0x4B)) (_:all.length<=16) (_:iK H all dat) (_:(∀ a∈all,Aw dat oR lN ls a)) (_:∀ c dc jl ll z q es ks qk ek kk jO ts out ws t0 b H',Same H H'->H c=none->out.Perm all->Fg dat out->JL [Ac wd t0] [] (out.map lN) ws es ks->qL CC CR CK C H' c dc jl ll z q es ks ls qk ek kk jO ts out ws wd b->ek.map core=es.map core->Q (.ref c) H'):wk CC CR CK C K vs H Q cD
section
variable {CR:Addr}
theorem Vb:aQ A5P A5P (aJ Bg):=0x0
theorem Oq (F:fK K "_law_court" "_law_court" Bg f fd) 
  (G1:aL P w K mg base bN 7 g1 d1 A6e (vZ CC CR CK C K)) (MK1:Mk K CC g1) (mC:mg "Court"=some (.ref CC)) (b1:Binds K d1 A6e [])
  (G2:aL P w K mg base bN 1 g2 d2 A6g (Aj K)) (M2:Ms K mg "_law_mixed" g2 d2 A6g) :
  aL P w K mg base bN 9 f fd A5P (wk CC CR CK C K):=by
 refine F.ok Vb 0x1 0x3;obtain ⟨p,fa,l,m,la,fs,ms,ls,wd,all,dat,oR,lN,rfl,pl,hfa,hfl,hfo,hl,YZ,RO,RW,k⟩:=h;have hr1:cP 1 _:=hr.mono 0x7;refine ⟨_,aG (aZ (tM (CX:=bN) (E:=E0) MK1 G1 hr rfl mC b1 .nil aY (aj (aO bA 0x3A aA 0x5) (aj (aR bY (aO bI 0x11 aA 0x5) aA) (aj (bC G2 hr1 rfl M2.m M2.k M2.b .nil aY (aj (pv 2) (aj (aO bI 0x11 aA 0x5) aC))) aC))))),?_⟩;obtain ⟨v15,e15,o15⟩:=iw hfo (i:=15) 0x7 0x2;obtain ⟨v16,e16,o16⟩:=iw hfo (i:=16) 0x7 0x2;have hls:∀ n∈ls,n≠""/\PyData.strOk n=true:=fun n hn=>(pl.ol n hn).ne;refine ⟨_,rfl,p,_,_,_,rfl,rfl,bR.of pl.r,aH (j:=2) rfl,_,rfl,fa,_,_,_,rfl,rfl,bT.of hfa,e15,_,_,rfl,rfl,(by show (0:Int)<100;decide),_,rfl,_,rfl,fa,_,_,_,rfl,rfl,bT.of hfa,e16,l,v16,all,rfl,o16,bT.of hl,by lia,fun D out H1 s1 hD pm=>?_⟩
 intro c dc hc hdc ncd;have sc:Same H1 (upd (upd H1 dc (.own c)) c (.ins CC dc [])):=fun a u h=>by
  rw [ak (aq h hc),ak (aq h hdc)];exact h
 have sHc:=s1.trans sc;refine ⟨c,dc,D,wd,v15 % 100,out,dat,oR,lN,ls,rfl,ao,pl.w1,pl.w2,by lia,by lia,bT.of (sc _ _ hD),?_,Li (Bh RO sHc) pm,fun a ha=>RW a (pm.mem_iff.mp ha),hls,fun jl ll z q es ks qk ek kk jO ts ou ws t0 H' kp pm' up J ct ce=>⟨rfl,?_⟩⟩
 ·rw [pm.length_eq];lia
 ·exact k c dc jl ll z q es ks qk ek kk jO ts ou ws t0 _ H' (fun a u h=>kp a u (aq h (s1.free hc)) (sHc _ _ h)) (s1.free hc) (pm'.trans pm) up J ct ce
abbrev XH:Stmt:=top 76
theorem JL.pu {Fj es:List aM}{rws:List Rw}{n:Int} (hls:∀ n∈ls,n≠""/\PyData.strOk n=true) (P0:Pu Fj Fl ls 0 n) (J:JL Fj Fl rws ws es ks):(∀ r∈rws,r.Ok ls)->Pu es ks ls rws.length n:=by
 induction J with
 | nil=>intro _;exact P0
 | snoc J1 D ih =>
  intro h;rw [iT,A0t];exact D.pu (ih fun r hr=>h r (A1m _ hr)) (h _ (A0x _ (A0c.mpr rfl))) hls
theorem Wd.ok {es:List aM}{bG:Rw}{w:Str} (h:Wd es ks bG w):PyData.strOk w=true:=by
 cases h <;> decide +kernel
theorem JL.ok {Fj es:List aM}{rws:List Rw} (J:JL Fj Fl rws ws es ks):∀ w∈ws,PyData.strOk w=true:=by
 induction J with
 | nil=>intro w h;cases h
 | snoc J1 D ih =>
  intro w h;rcases A0v.mp h with h | h
  ·exact ih w h
  ·rw [A0c.mp h];cases D with
   | void _ q=>exact q.ok
   | does _ _ _ _ q=>exact Wd.ok (Wd.st q)
theorem Eu:∀ {xs:List V}{ds:List PyData},xs.length=ds.length->(∀ (i:Nat) (v:V) (d:PyData),xs[i]?=some v->ds[i]?=some d->cO H v d)->dJ H xs ds
 | [],[],_,_=>.nil
 | [],_::_,e,_=>by cases e
 | _::_,[],e,_=>by cases e
 | x::xs,d::ds,e,h=>.cons (h 0 x d rfl rfl) (Eu (by simpa using e) fun i v d' h1 h2=>h (i+1) v d' (by simpa using h1) (by simpa using h2))
theorem Lj:∀ {ds:List PyData},(∀ d∈ds,d.canLay0=true)->PyData.canLayAll0 ds=true
 | [],_=>rfl
 | d::ds,h=>by rw [PyData.canLayAll0,h d A0h,Lj fun z hz=>h z (jh _ hz)];rfl
theorem Bj:∀ {ds:List PyData},(∀ d∈ds,d.depth<=n)->PyData.depthAll ds<=n
 | [],_=>A0Z _
 | d::ds,h=>by
  rw [PyData.depthAll];have a:=h d A0h;have b:=Bj fun z hz=>h z (jh d hz);lia
def wz (H:Hp) (dat:Addr->List V) (r:Addr):Prop:=H r=some (.tup (dat r))/\(dat r).all fD=true/\(dat r).length<=1000
theorem XJ {r:Addr} (h:wz H dat r):Rb H 2 (.ref r) (.ref r):=by
 refine .inr (.inl ⟨r,r,_,_,rfl,rfl,h.1,h.1,rfl,h.2.2,fun i x y e1 e2=>?_⟩);rw [e1] at e2;cases e2;have:=A1G.mp h.2.1 x (wD e1);cases x with
 | int _=>exact .inl ⟨rfl,rfl⟩
 | str _=>exact .inl ⟨rfl,rfl⟩
 | _=>cases this
theorem fM.get (a:fM H jl ts pr ws) {t:Addr} (h:ts[i]?=some t):∃ r w,pr[i]?=some r/\ws[i]?=some w/\H t=some (.tup [.ref r,.str w]):=by
 have hi:=(A0l.mp h).1;have h1:pr[i]?=some pr[i]!:=by rw [a.lt] at hi;rw [A4g,ju hi];rfl
 have h2:ws[i]?=some ws[i]!:=by rw [a.lt,<- a.lw] at hi;rw [A4g,ju hi];rfl
 exact ⟨_,_,h1,h2,a.at' i t _ _ h h1 h2⟩
theorem a1g {wl:Addr}{ts':List Addr} (a:fM H D ts pr ws) (b:fM H wl ts' pr ws) (hf:∀ r∈pr,wz H dat r) (hl:pr.length<=1000):Rb H 4 (.ref D) (.ref wl):=by
 refine .inr (.inr ⟨D,wl,_,_,rfl,rfl,a.l,b.l,by rw [cg,cg,a.lt,b.lt],by rw [cg,a.lt];exact hl,fun i x y e1 e2=>?_⟩);rw [jY] at e1 e2;obtain ⟨t,h1,rfl⟩:=A0w.mp e1;obtain ⟨t',h2,rfl⟩:=A0w.mp e2;obtain ⟨r,w,p1,p2,p3⟩:=a.get h1;have p4:=b.at' i t' r w h2 p1 p2;refine .inr (.inl ⟨t,t',_,_,rfl,rfl,p3,p4,rfl,by simp,fun j x y e1 e2=>?_⟩);rw [e1] at e2;cases e2
 match j,e1 with
 | 0,e1=>simp at e1;subst e1;exact XJ (hf r (wD p1))
 | 1,e1=>simp at e1;subst e1;exact .inl ⟨rfl,rfl⟩
 | (j+2),e1=>simp at e1
def pairD (dat:Addr->List V) (x:Addr×Str):PyData:=.tuple [.tuple ((dat x.1).map gK),.str x.2]
theorem Ew (a:fM H D ts pr ws) (hf:∀ r∈pr,wz H dat r):cO H (.ref D) (.list ((pr.zip ws).map (pairD dat))):=by
 refine .lst a.l (Eu (by rw [cg,cg,List.length_zip,a.lt,a.lw,Nat.min_self]) fun i v d e1 e2=>?_);rw [jY] at e1 e2;obtain ⟨t,h1,rfl⟩:=A0w.mp e1;obtain ⟨x,h2,rfl⟩:=A0w.mp e2;obtain ⟨r,w,p1,p2,p3⟩:=a.get h1;have:x=(r,w):=by
  rw [List.getElem?_zip_eq_some] at h2;rw [p1,p2] at h2;obtain ⟨x1,x2⟩:=x;rw [A0O h2.1,A0O h2.2]
 subst this;have f:=hf r (wD p1);exact .tup p3 (.cons (.tup f.1 (jU _ f.2.1)) (.cons (.str w) .nil))
theorem XM (hf:∀ r∈pr,(dat r).all fD=true) (hw:∀ w∈ws,PyData.strOk w=true):(PyData.list ((pr.zip ws).map (pairD dat))).canLay0=true/\(PyData.list ((pr.zip ws).map (pairD dat))).depth<=8:=by
 have mem:∀ d∈(pr.zip ws).map (pairD dat),d.canLay0=true/\d.depth<=3:=fun d hd=>by
  obtain ⟨x,hx,rfl⟩:=A0m.mp hd;obtain ⟨x1,x2⟩:=x;have h1:=jr _ (hf x1 (A3J hx).1);have h2:=hw x2 (A3J hx).2
  constructor
  ·show (PyData.canLayAll0 ((dat x1).map gK)&&(PyData.strOk x2&&true))=true
   rw [h1,h2];rfl
  ·have:=nQ (dat x1)
   show PyData.depthAll [PyData.tuple ((dat x1).map gK),PyData.str x2]+1<=3
   have:PyData.depthAll [PyData.tuple ((dat x1).map gK),PyData.str x2]<=2:=Bj fun d hd=>by
    rcases List.mem_cons.mp hd with e | e
    ·rw [e];show PyData.depthAll _+1<=2;lia
    ·rw [A0c.mp e];exact A1j rfl
   lia
 refine ⟨Lj fun d hd=>(mem d hd).1,?_⟩;have:=Bj fun d hd=>(mem d hd).2
 show PyData.depthAll _+1<=8
 lia
theorem Vc {bG:Rw}:(Rw.vs dy bG).length<=1000:=by
 cases bG <;> simp [Rw.vs]
theorem Vd {oR:Addr->Int}{lN:Addr->Rw} (h:H a=some (.tup (dat a))) (r:Aw dat oR lN ls a):wz H dat a :=
 ⟨h,by rw [r.e];exact Bc r.tx,by rw [r.e];exact Vc⟩
theorem qQ {oR:Addr->Int}{lN:Addr->Rw}{all out out':List Addr}{ws':List Str}{es es':List aM}{t0 b0:Addr} (hr:∀ a∈all,gG (dat a)) (RW:∀ a∈all,Aw dat oR lN ls a) (hls:∀ n∈ls,n≠""/\PyData.strOk n=true) (w1:1<=wd) (w2:wd<=9999)
  (p:out.Perm all) (p':out'.Perm all) (u:Fg dat out) (u':Fg dat out') (J:JL [Ac wd t0] [] (out.map lN) ws es ks) (J':JL [Oj wd b b0] [] (out'.map lN) ws' es' ks'):out'=out/\ws'=ws/\jg es es':=by
 have eo:out=out':=V2 (fun a ha=>hr a (p.mem_iff.mp ha)) u u' (p.trans p'.symm);subst eo;have:=JL.det (Fj:=[Ac wd t0]) (Xu:=[Oj wd b b0]) (.cons ⟨rfl,rfl,rfl,rfl,rfl,rfl⟩ .nil) J J' fun {a06 ws1 e1 k1} hj hp=>(JL.pu hls (V0 wd b b0 ls w1 w2) hj fun r hr=>by
  obtain ⟨a,ha,rfl⟩:=A0m.mp (hp.sublist.mem hr);exact (RW a (p.mem_iff.mp ha)).ok).W.nd
 exact ⟨rfl,this.1.symm,this.2.1⟩
inductive Ve (CC:Addr) (vs:List V) (H:Hp) (Q:VK) (cD:XK):Prop
 | mk (c dc jl ll z p m la l:Addr) (es:List aM) (ks ms ls:List Str) (wd n b:Int) (ts all out:List Addr) (ws:List Str) (t0:Addr) (dat:Addr->List V) (oR:Addr->Int) (lN:Addr->Rw) (_:vs=[.ref c,.ref p,.ref l]) (_:Er H p m la ms ls wd) (_:H l=some (.lst 0x4B)) (_:all.length<=16) (_:iK H all dat) (_:(∀ a∈all,Aw dat oR lN ls a)) (_:H c=some (.ins CC dc (Fi n b z jl ll))) (_:fM H jl ts out ws) (_:out.Perm all) (_:Fg dat out) (_:JL [Ac wd t0] [] (out.map lN) ws es ks) (_:∀ H',Same H H'->Q (.bl true) H'):Ve CC vs H Q cD
theorem Vf:aQ A6f A5T (aJ XH):=0x0
def a2J:Scope:={ kind:=.function,names:=[(".0",.local),("_law_row_here",.local),("_law_word_here",.local),("_law_same",.globalImplicit),("_law_court_here",.free)],isGenerator:=false,isCoroutine:=false }
theorem a2K:fO A6f (aJ XH) a2J ["_law_row_here", "_law_word_here"] ["_law_court_here"] [0]:=0xB
theorem Z0:((["_law_row_here", "_law_word_here"]:List Str)++(["_law_court_here"]:List Str)).Nodup:=by decide +kernel
theorem a1h (TC:nW K CC) (F:fK K "_law_judged_right" "_law_judged_right" XH f fd) (m:MgS mg) 
  (G1:aL P w K mg base bN 5 g1 d1 A6a (qN K)) (M1:Ms K mg "_law_books" g1 d1 A6a)
  (G2:aL P w K mg base bN 1 g2 d2 A5S (Ar CC K)) (m2:Meth K CC "verdicts" g2) (b2:Binds K d2 A5S [])
  (G3:aL P w K mg base bN 4 g3 d3 A5M (pH 4)) (M3:Ms K mg "_law_same" g3 d3 A5M)
  (G4:aL P w K mg base bN 2 g4 d4 ["self", "row"] (Io CC)) (m4:Meth K CC "verdict" g4) (b4:Binds K d4 ["self", "row"] []) :
  aL P w K mg base bN 6 f fd A5T (Ve CC):=by
 refine F.ok Vf 0x1 0x3;obtain ⟨c,dc,jl,ll,z,p,mm,la,l,es,ks,ms,ls,wd,n,b,ts,all,out,ws,t0,dat,oR,lN,rfl,pl,hl,YZ,RO,RW,hc,JA,pm,up,J,k⟩:=h;have G2:=aL.mono (k:=5) G2 0x2;have G3:=aL.mono (k:=5) G3 0x2;have G4:=aL.mono (k:=5) G4 0x2;refine ⟨_,au (aU (i:=3) Vf.nd rfl 0x8 (aO bA (bC G1 hr rfl M1.m M1.k M1.b .nil aY (aj 0x19 0x3D)) aA 0x5))
  (au (aU (i:=4) Vf.nd rfl 0x8 (ji (CX:=bN) (E:=E0) 0x3A TC.cl m2 G2 hr b2 .nil aY))
  (au (bQ (gO (dU (bC G3 hr rfl M3.m M3.k M3.b .nil aY (aj (pv 4) (aj (pv 3) aC))))) cB aX)
  (au (bO (Zw A0H PySem.F.slot_list_clear PySem.F.type_list_clear Qf (pv 4)))
  (au (bQ (aV (Qy (u64 hr)) (ji (CX:=bN) (E:=E0) 0x3A TC.cl m2 G2 hr b2 .nil aY) (pv 3) (bH _)) cB aX)
  (aG (aZ (bF (lW (K:=K) rfl hr.hd) rfl m.all uO (aj (gW rfl a2K (gH (pv 3)) (fun s H fp C'=>⟨qe (K:=K) (n:=2) rfl (bM (bD (i:=0) Z0 rfl 0x8) (bM (bD (i:=1) Z0 rfl 0x8) gj)),mH,bC G3 hr rfl M3.m M3.k M3.b .nil aY (aj (bW (pv 2) TC.cl m4 G4 hr b4 .nil aY (aj 0x3A aC)) 0x33)⟩)) aC)))))))),?_⟩
 have hls:∀ n∈ls,n≠""/\PyData.strOk n=true:=fun n hn=>(pl.ol n hn).ne;have fl:∀ {H'},Same H H'->∀ r∈out,wz H' dat r:=fun s r hr=>Vd (s _ _ (RO.1 r (pm.mem_iff.mp hr)).1) (RW r (pm.mem_iff.mp hr));have ol:out.length<=16:=by rw [pm.length_eq];exact YZ
 refine ⟨_,rfl,p,_,_,_,rfl,rfl,bR.of pl.r,aH (j:=2) rfl,_,rfl,l,wd,all,dat,oR,lN,ls,rfl,pl.w1,pl.w2,bT.of hl,by lia,RO,RW,hls,fun T wl q' es' ks' ts' out' ws' b0 H1 s1 hT Xr _ ap' Bk' Pu' fr' JB pm' up' J'=>?_⟩;obtain ⟨rfl,rfl,ab⟩:=qQ (fun a ha=>(RO.1 a ha).2) RW hls pl.w1 pl.w2 pm pm' up up' J J';refine ⟨T,_,_,_,rfl,rfl,bR.of hT,aH (j:=1) rfl,?_⟩;have JA1:fM H1 jl ts out' ws':=JA.keep (by rw [s1 _ _ JA.l,JA.l]) fun c xs h=>s1 _ _ h;refine ⟨_,rfl,c,dc,_,rfl,s1 _ _ hc,rfl,c,dc,z,jl,ll,_,n,b,rfl,s1 _ _ hc,JA1.l,by rw [cg,JA1.lt];lia,fun D hD=>?_⟩
 apply 0o1 H1 D hD sD hDD H2
 have QX:=s1.free hD;have s2:=s1.trans sD;have JD2:fM H2 D ts out' ws':=⟨hDD,JA.lt,JA.lw,fun i t r w e1 e2 e3=>s2 _ _ (JA.at' i t r w e1 e2 e3)⟩;have JB2:fM H2 wl ts' out' ws':=JB.keep (by rw [sD _ _ JB.l,JB.l]) fun c xs h=>sD _ _ h;refine ⟨_,rfl,_,rfl,_,_,rfl,a1g JD2 JB2 (fl s2) 0x2,fun H3 s3=>⟨_,rfl,cu ?_⟩⟩;have hD3:=s3 _ _ hDD;refine ⟨_,rfl,.inl ⟨rfl,_,bT.of hD3⟩,D,_,rfl,rfl,hD3,?_⟩;have nwD:wl≠D:=fun e=>by rw [<- e,JB.l] at hD;cases hD
 have s4:Same H (upd H3 D (.lst [])):=fun a u h=>by
  rw [ak (aq h QX)];exact s3 _ _ (s2 _ _ h)
 have JB4:fM (upd H3 D (.lst [])) wl ts' out' ws':=JB2.keep (by rw [ak nwD,s3 _ _ JB2.l,JB2.l]) fun c xs h=>by
  rw [ak (aK h hDD 0x4)];exact s3 _ _ h
 generalize upd H3 D (.lst [])=H4 at s4 JB4 ⊢;have JA4:fM H4 jl ts out' ws':=JA.keep (by rw [s4 _ _ JA.l,JA.l]) fun c xs h=>s4 _ _ h;refine ⟨_,rfl,c,dc,_,rfl,s4 _ _ hc,rfl,c,dc,z,jl,ll,_,n,b,rfl,s4 _ _ hc,JA4.l,by rw [cg,JA4.lt];lia,fun D5 hD5=>?_⟩
 apply 0o1 H4 D5 hD5 sD5 hDD5 H5
 have s5:=s4.trans sD5;have JD5:fM H5 D5 ts out' ws':=⟨hDD5,JA.lt,JA.lw,fun i t r w e1 e2 e3=>s5 _ _ (JA.at' i t r w e1 e2 e3)⟩;have JB5:fM H5 wl ts' out' ws':=JB4.keep (by rw [sD5 _ _ JB4.l,JB4.l]) fun c xs h=>sD5 _ _ h;have JA5:fM H5 jl ts out' ws':=JA.keep (by rw [s5 _ _ JA.l,JA.l]) fun c xs h=>s5 _ _ h;obtain ⟨ly,dp⟩:=XM (fun r hr=>(fl s5 r hr).2.1) J.ok;refine ⟨_,rfl,_,_,Ew JD5 (fl s5),Ew JB5 (fl s5),ly,ly,dp,?_⟩;rw [PySem.SeqAt.eqv_refl _ ly];refine ⟨_,rfl,cu ?_⟩;refine ⟨_,rfl,wl,rfl,⟨_,bT.of JB5.l⟩,fun D6 hD6=>xu (K:=K) (xs:=ts'.map V.ref) (fun i ys Hx=>ys=(List.replicate i true).map V.bl/\Same H5 Hx/\Hx D6=some (.lst ys)) (fun i ys Hx h=>h.2.1.seq (bT.of JB5.l)) ⟨rfl,aP hD6 _,ao⟩ (fun i ys Hx h=>h.2.2) ?_ ?_⟩
 ·rintro i ys Hx v hv ⟨rfl,sx,O9⟩;rw [jY] at hv;obtain ⟨t,ht,rfl⟩:=A0w.mp hv;have hi:=(A0l.mp ht).1;obtain ⟨r,w0,p1,p2,p3⟩:=JB5.get ht;have s6:=s5.trans sx;refine ⟨t,_,rfl,bR.of (sx _ _ p3),rfl,_,_,rfl,_,_,rfl,rfl,Kp.set rfl (Kp.set rfl (Kp.refl _)),jQ ?_⟩;refine ⟨_,rfl,c,dc,_,rfl,s6 _ _ hc,rfl,_,rfl,c,dc,z,jl,ll,n,b,ts,out',ws',dat,i,r,w0,rfl,s6 _ _ hc,JA.keep (by rw [s6 _ _ JA.l,JA.l]) (fun c xs h=>s6 _ _ h),fun a ha=>⟨(fl s6 a ha).1,(fl s6 a ha).2.1⟩,(Li RO pm).2,p1,p2,?_⟩;refine ⟨_,rfl,_,_,rfl,.inl ⟨rfl,rfl⟩,fun H7 s7=>⟨s7 _ _ O9,?_,?_,bL (sx.trans s7) hD6,ao⟩⟩
  ·rw [cg,A1Q];rw [JB5.lt] at hi;exact bU 0x2
  ·rw [A4l,jP];rfl
 ·rintro ys Hx ⟨rfl,sx,O9⟩;refine ⟨D6,_,rfl,bT.of O9,?_⟩;rw [all_true fun b hb=>A2k hb];exact k _ (s5.trans sx)
def BrL:List aM->Prop
 | []=>True
 | x::r=>x.br=x.own+Sb r x.n/\BrL r
theorem ux (x:aM) (r:List aM) (q:Str):Sb (x::r) q=(if x.lord=some q then x.br else 0)+Sb r q:=by
 unfold Sb;rw [A0g,A0z]
theorem Lk:∀ {r:List aM}{s:List Str},Ord s r->(nms r).Nodup->(∀ x∈s,x∉nms r)->(∀ e∈r,e.br=e.own+Sb r e.n)->BrL r
 | [],_,_,_,_,_=>True.intro
 | x::r,s,⟨⟨p,hp,hs⟩,ho⟩,nd,dj,hb=>by
  have nd':=A0P.mp nd;have key:∀ e∈x::r,Sb (x::r) e.n=Sb r e.n:=fun e he=>by
   rw [ux,A0e,Int.zero_add];rw [hp];intro z;injection z with z;exact dj p hs (z ▸ A0m.mpr ⟨e,he,rfl⟩)
  refine ⟨by rw [hb x A0h,key x A0h],Lk ho nd'.2 (fun y hy=>?_) fun e he=>by rw [hb e (jh _ he),key e (jh _ he)]⟩;rcases List.mem_cons.mp hy with z | z
  ·rw [z];exact nd'.1
  ·exact fun c=>dj y z (jh _ c)
theorem WF.zN {es:List aM} (W:WF es):BrL es:=by
 obtain ⟨c,r,rfl,hc,hl,ho⟩:=W.hd;have nd':=A0P.mp W.nd;have key:∀ e:aM,Sb (c::r) e.n=Sb r e.n:=fun e=>by
  rw [ux,A0e,Int.zero_add];rw [hl];intro z;cases z
 refine ⟨by rw [W.br c A0h,key],Lk ho nd'.2 (fun x hx=>?_) fun e he=>by rw [W.br e (jh _ he),key]⟩;rw [A0c.mp hx,<- hc];exact nd'.1
theorem jg.sb {es es':List aM} (h:jg es es') (q:Str):Sb es q=Sb es' q:=by
 induction h with
 | nil=>rfl
 | cons a _ ih=>rw [ux,ux,ih,a.lord,a.br]
theorem Vg:∀ {es es':List aM},BrL es->BrL es'->es.map core=es'.map core->jg es es'
 | [],[],_,_,_=>.nil
 | [],_::_,_,_,h=>by cases h
 | _::_,[],_,_,h=>by cases h
 | x::r,y::t,⟨b1,b2⟩,⟨c1,c2⟩,h=>by
  rw [A0g,A0g] at h;injection h with h1 h2;have ih:=Vg b2 c2 h2;unfold core at h1;injection h1 with e1 h1;injection h1 with e2 h1;injection h1 with e3 h1;injection h1 with e4 e5;exact .cons ⟨e1,e2,e3,e4,by rw [b1,c1,e4,e1,ih.sb],e5⟩ ih
theorem Lp {es es':List aM} (W:WF es) (W':WF es') (h:es.map core=es'.map core):jg es es':=Vg W.zN W'.zN h
theorem jg.len {es es':List aM} (h:jg es es'):es.length=es'.length:=by
 have:=A1v List.length h.core
 rwa [cg,cg] at this
theorem jg.ord {es es':List aM} (h:jg es es'):∀ {s:List Str},Ord s es'->Ord s es:=by
 induction h with
 | nil=>intro _ _;exact True.intro
 | cons a _ ih =>
  rintro s ⟨⟨p,hp,hs⟩,ho⟩;exact ⟨⟨p,a.lord.trans hp,hs⟩,ih (a.n ▸ ho)⟩
theorem jg.wf {es es':List aM} (h:jg es es') (W:WF es'):WF es:=by
 refine ⟨h.nms ▸ W.nd,?_,fun e he=>?_,fun e he=>?_,fun e he=>?_⟩
 ·obtain ⟨c,r,e,hc,hl,ho⟩:=W.hd;subst e;cases h with
  | cons a t=>exact ⟨_,_,rfl,a.n.trans hc,a.lord.trans hl,jg.ord t ho⟩
 ·obtain ⟨e',h',a⟩:=h.mem he;rw [a.own,a.br];exact W.bnd e' h'
 ·obtain ⟨e',h',a⟩:=h.mem he;rw [a.br,a.own,a.n,h.sb];exact W.br e' h'
 ·obtain ⟨e',h',a⟩:=h.mem he;rw [a.n];exact W.ok e' h'
theorem jg.pu {es es':List aM} (h:jg es es') (P:Pu es' ks ls j wd):Pu es ks ls j wd:=by
 refine ⟨h.wf P.W,fun e he=>?_,fun e he hn=>?_,by rw [h.len];exact P.ln,P.lk,fun e he=>?_,?_⟩
 ·obtain ⟨e',h',a⟩:=h.mem he;rw [a.due];exact P.bd e' h'
 ·obtain ⟨e',h',a⟩:=h.mem he;rw [a.n] at hn ⊢;exact P.kn e' h' hn
 ·obtain ⟨e',h',a⟩:=h.mem he;rw [a.n];exact P.nl e' h'
 ·rw [<- P.tot];have:es.map (·.own)=es'.map (·.own):=by
   have:=A1v (List.map fun x:Str×Option Str×Str×Int×(Int×Int)=>x.2.2.2.1) h.core;rw [A0R,A0R] at this;exact this
  rw [this]
structure Mix (E ek es:List aM):Prop where
 ab:jg E es
 a1:iY E=iY ek
 a2:hoL E=hoL ek
 a3:lH E=lH ek
 a4:Kd E=Kd ek
 a5:zN E=zN ek
 b1:iY E=iY es
 b2:hoL E=hoL es
 b3:lH E=lH es
 b4:qU E=qU es
 fa:∀ e∈E,∃ a∈ek,e.ta=a.ta/\e.due=a.due
 fb:∀ e∈E,∃ b∈es,e.tb=b.tb/\e.due=b.due
theorem mix {ek es:List aM} (h:jg ek es):∃ E,Mix E ek es:=by
 induction h with
 | nil=>exact ⟨[],⟨.nil,rfl,rfl,rfl,rfl,rfl,rfl,rfl,rfl,rfl,(fun e he=>by cases he),(fun e he=>by cases he)⟩⟩
 | @cons x y xs ys a _ ih =>
  obtain ⟨E,m⟩:=ih;have kc:∀ {f g:aM->V}{u v:aM}{l l':List aM},kv f l=kv g l'->u.n=v.n->f u=g v->kv f (u::l)=kv g (v::l'):=fun h1 h2 h3=>by
   unfold kv at h1 ⊢;rw [A0g,A0g,h1,h2,h3]
  refine ⟨{ x with tb:=y.tb }::E,⟨.cons ⟨a.n,a.lord,a.man,a.own,a.br,a.due⟩ m.ab,kc m.a1 rfl rfl,kc m.a2 rfl rfl,kc m.a3 rfl rfl,kc m.a4 rfl rfl,kc m.a5 rfl rfl,kc m.b1 a.n (by show iu x.lord=_;rw [a.lord]),kc m.b2 a.n (by show V.str x.man=_;rw [a.man]),kc m.b3 a.n (by show V.int x.own=_;rw [a.own]),kc m.b4 a.n rfl,fun e he=>?_,fun e he=>?_⟩⟩
  ·rcases List.mem_cons.mp he with z | z
   ·subst z;exact ⟨x,A0h,rfl,rfl⟩
   ·obtain ⟨u,hu,q⟩:=m.fa e z;exact ⟨u,jh _ hu,q⟩
  ·rcases List.mem_cons.mp he with z | z
   ·subst z;exact ⟨y,A0h,rfl,a.due⟩
   ·obtain ⟨u,hu,q⟩:=m.fb e z;exact ⟨u,jh _ hu,q⟩
theorem jg.crb {es es':List aM}{n:Int} (h:jg es es') (c:Vs es' n):Vs es n:=by
 induction h with
 | nil=>exact c
 | @cons x y xs ys a _ ih =>
  obtain ⟨z,hz,q1,q2⟩:=c;rcases List.mem_cons.mp hz with e | e
  ·subst e;exact ⟨x,A0h,a.n.trans q1,a.br.trans q2⟩
  ·obtain ⟨u,hu,q⟩:=ih ⟨z,e,q1,q2⟩;exact ⟨u,jh _ hu,q⟩
abbrev IV:Stmt:=top 77
inductive Ey (K:W.Frag) (vs:List V) (H:Hp) (Q:VK) (cD:XK):Prop
 | mk (a:Addr) (ns:List Int) (_:vs=[.ref a]) (_:bT K H a (ns.map V.int)) (_:ns.length<=63) (_:∀ H',Q (.bl true) H'):Ey K vs H Q cD
theorem XQ {y dy b3 b4 b5:Addr}{q:Ad}{ek es E:List aM} (m:Mix E ek es) (L:bZ C H y dy b1 b2 b3 b4 b5 (iY ek) (hoL ek) (lH ek) (Kd ek) (zN ek)) (B:Bk q H es ks) (P:Pu es ks ls j wd) (fa:∀ e∈ek,jy H e.ta e.due.1 e.due.2) (fb:∀ e∈es,jy H e.tb e.due.1 e.due.2)
  (nd:[b1,b2,b3,b4,b5,q.B,q.l,q.h,q.o,q.d,q.kn,q.dd].Nodup):Rel C ⟨y,dy,b1,b2,b3,b4,b5,q.B,q.l,q.h,q.o,q.d,q.kn,q.dd,q.kvs,wd⟩ H E ks ls j:=by
 have P':=m.ab.pu P;refine ⟨nd,?_,?_,P'.W,fun e he=>⟨?_,?_,P'.bd e he⟩,P'.kn,P'.ln,P'.lk,P'.nl,P'.tot⟩
 ·show bZ C H y dy b1 b2 b3 b4 b5 (iY E) (hoL E) (lH E) (Kd E) (zN E)
  rw [m.a1,m.a2,m.a3,m.a4,m.a5];exact L
 ·show cZ H q.B q.l q.h q.o q.d q.kn q.dd q.kvs (iY E) (hoL E) (lH E) (qU E) ks
  rw [m.b1,m.b2,m.b3,m.b4];exact B
 ·obtain ⟨a,ha,e1,e2⟩:=m.fa e he;rw [e1,e2];exact fa a ha
 ·obtain ⟨a,ha,e1,e2⟩:=m.fb e he;rw [e1,e2];exact fb a ha
theorem XR {b3 b4 b5:Addr}{l:List Addr} (ap:Gp b1 b2 b3 b4 b5) (h:∀ a∈l,H a=none) (nl:l.Nodup) (hb:∀ b∈[b1,b2,b3,b4,b5],∃ u,H b=some u):([b1,b2,b3,b4,b5]++l).Nodup:=by
 rw [A1Z];refine ⟨?_,nl,fun a ha b hb' e=>?_⟩
 ·have:=ap.n12;have:=ap.n13;have:=ap.n14;have:=ap.n15;have:=ap.n23;have:=ap.n24;have:=ap.n25;have:=ap.n34;have:=ap.n35;have:=ap.n45;simp [*]
 ·obtain ⟨u,hu⟩:=hb a ha;subst e;rw [h a hb'] at hu;cases hu
theorem Ez:aQ ["_law_script", "_law_feed_here", "_law_pools_here", "_law_rows_here", "_law_court_here"] ["_law_script"] (aJ IV):=0x0
theorem a1i (TC:nW K CC) (T:cW K C) (F:fK K "law" "law" IV f fd) {g7 g8:Addr}{d7 d8:FuncData}
  (G1:aL P w K mg base bN 1 g1 d1 ["_law_script", "_law_many"] (Gz K)) (M1:Ms K mg "_law_feed" g1 d1 ["_law_script", "_law_many"])
  (G2:aL P w K mg base bN 2 g2 d2 ["_law_feed_here"] (Ba K)) (M2:Ms K mg "_law_pools" g2 d2 ["_law_feed_here"])
  (G3:aL P w K mg base bN 5 g3 d3 A5N (Bf K)) (M3:Ms K mg "_law_rows" g3 d3 A5N)
  (G4:aL P w K mg base bN 9 g4 d4 A5P (wk CC CR CK C K)) (M4:Ms K mg "_law_court" g4 d4 A5P)
  (G5:aL P w K mg base bN 6 g5 d5 A5T (Ve CC)) (M5:Ms K mg "_law_judged_right" g5 d5 A5T)
  (G6:aL P w K mg base bN 6 g6 d6 ["self", "day"] (vX CC C)) (m6:Meth K CC "land" g6) (b6:Binds K d6 ["self", "day"] [])
  (G7:aL P w K mg base bN 5 g7 d7 A6a (qN K)) (M7:Ms K mg "_law_books" g7 d7 A6a)
  (G8:aL P w K mg base bN 5 g8 d8 ["_law_land", "_law_book_here"] (a08 C)) (M8:Ms K mg "_law_land_is" g8 d8 ["_law_land", "_law_book_here"]) :
  aL P w K mg base bN 10 f fd ["_law_script"] (Ey K):=by
 refine F.ok Ez 0x1 0x3;obtain ⟨a,ns,rfl,hS,hns,kk⟩:=h;have G1:=aL.mono (k:=9) G1 0x2;have G2:=aL.mono (k:=9) G2 0x2;have G3:=aL.mono (k:=9) G3 0x2;have G5:=aL.mono (k:=9) G5 0x2;have G6:=aL.mono (k:=9) G6 0x2;have G7:=aL.mono (k:=9) G7 0x2;have G8:=aL.mono (k:=9) G8 0x2;refine ⟨_,au (aU (i:=1) Ez.nd rfl 0x8 (bC G1 hr rfl M1.m M1.k M1.b .nil aY (aj 0x3A (aj aA aC))))
  (au (aU (i:=2) Ez.nd rfl 0x8 (bC G2 hr rfl M2.m M2.k M2.b .nil aY 0x33))
  (au (aU (i:=3) Ez.nd rfl 0x8 (bC G3 hr rfl M3.m M3.k M3.b .nil aY (aj 0x11 (aj aA (aj (aR bY (aO bI 0x11 aA 0x5) aA) (aj (pv 2) (aj (eG (aj aA (aj aA (aj aA (aj aA (aj aA (aj aA (aj aA (aj aA (aj aA (aj aA aC))))))))))) aC)))))))
  (au (aU (i:=4) Ez.nd rfl 0x8 (bC G4 hr rfl M4.m M4.k M4.b .nil aY (aj (pv 2) (aj 0x11 (aj (pv 3) aC)))))
  (aG (aZ (nj (bC G5 hr rfl M5.m M5.k M5.b .nil aY (aj (pv 4) (aj (pv 2) (aj (pv 3) aC)))) (uE (bC G8 hr rfl M8.m M8.k M8.b .nil aY (aj (bW (CX:=bN) (E:=E0) (pv 4) TC.cl m6 G6 hr b6 .nil aY (aj aA aC)) (aj (aO bA (bC G7 hr rfl M7.m M7.k M7.b .nil aY (aj (aO bA (pv 2) aA 0x5) (aj (pv 3) aC))) aA 0x5) aC)))))))))),?_⟩
 refine ⟨_,rfl,a,ns,160,rfl,hS,hns,by decide,by decide,fun r H1 fs s1 hr0 hr1 hlen hok=>?_⟩;have hfl:fs.length=160:=by lia
 refine ⟨_,rfl,r,fs,rfl,bT.of hr1,by lia,hok,fun rp m la ms ls wd H2 s2 pl=>?_⟩;obtain ⟨v0,e0,o0⟩:=iw hok (i:=0) 0x7 0x2;have hr2:=s2 _ _ hr1;refine ⟨_,rfl,_,rfl,r,_,_,_,rfl,rfl,bT.of hr2,e0,_,_,rfl,rfl,(by show (0:Int)<17;decide),_,rfl,small 0xA,fun wy hwy=>?_⟩
 have sw:=aP hwy (.lst (([0,1,2,3,4,5,6,9,12,4]:List Int).map V.int));refine ⟨r,rp,m,la,wy,fs,[0,1,2,3,4,5,6,9,12,4],_,ms,ls,wd,rfl,sw _ _ hr2,hfl,hok,by lia,by lia,pl.same sw,ao,by decide,by decide,fun v hv=>?_,fun R all rs H3 s3 hR hR0 YZ RA hrs nd=>?_⟩
 ·simp only [List.mem_cons,A0L,A1N] at hv;rcases hv with h | h | h | h | h | h | h | h | h | h <;> (rw [h];exact ⟨⟨by decide,by decide⟩,by decide⟩)
 have s23:=sw.trans s3;obtain ⟨RO,oR,lN,RW⟩:=IK RA hrs nd;have pl3:=pl.same s23;refine ⟨_,rfl,_,rfl,_,rfl,rp,r,R,m,la,fs,ms,ls,wd,all,rowAt H3,oR,lN,rfl,pl3,s23 _ _ hr2,hfl,hok,hR,YZ,RO,RW,fun c dc jl ll z q es ks qk ek Vr jO ts out ws t0 b H4 s4 hc0 pm up J ct ce=>?_⟩;have hls:∀ n∈ls,n≠""/\PyData.strOk n=true:=fun n hn=>(pl.ol n hn).ne;refine ⟨_,rfl,_,rfl,_,rfl,c,dc,jl,ll,z.z,rp,m,la,R,es,ks,ms,ls,wd,wd,b,ts,all,out,ws,t0,rowAt H3,oR,lN,rfl,pl3.same s4,s4 _ _ hR,YZ,Bh RO s4,RW,ct.o,ct.J,pm,up,J,fun H5 s5=>⟨_,rfl,dB ?_⟩⟩;have Vh:=ct.same s5;have s45:=s4.trans s5;have ake:jg ek es:=Lp Vh.K.W Vh.P.W ce;have ll5:=Vh.ln;have ol:out.length<=16:=by rw [pm.length_eq];exact YZ
 refine ⟨_,rfl,c,dc,_,rfl,Vh.o,rfl,c,dc,z.z,jl,ll,qk,ek,jO,wd,b,wd,rfl,Vh.o,Vh.Ld,Vh.K.L,by lia,(ake.crb Vh.B).val Vh.K.W.nd,pl.w1,pl.w2,fun y dy b1 b2 b3 b4 b5 H6 s6 LA y0 q1 q2 q3 q4 q5 tH=>?_⟩;have s46:=s45.trans s6;refine ⟨_,rfl,rp,_,_,_,rfl,rfl,bR.of (pl3.same s46).r,aH (j:=2) rfl,_,rfl,R,wd,all,rowAt H3,oR,lN,ls,rfl,pl.w1,pl.w2,bT.of (s46 _ _ hR),by lia,Bh RO s46,RW,hls,fun T wl q' es' ks' ts' out' ws' b0 H7 s7 hT Xr fresh ap' Bk' Pu' fr' JB pm' up' J'=>⟨T,_,_,_,rfl,rfl,bR.of hT,aH (j:=0) rfl,?_⟩⟩;obtain ⟨rfl,rfl,ab⟩:=qQ (fun a ha=>(RO.1 a ha).2) RW hls pl.w1 pl.w2 pm pm' up up' J J';obtain ⟨E,mx⟩:=mix (Lp Vh.K.W Pu'.W (ce.trans ab.core));have nl:[q'.B,q'.l,q'.h,q'.o,q'.d,q'.kn,q'.dd].Nodup:=(A1Z.mp (show ([q'.a1,q'.a2,q'.a3,q'.a4,q'.a5]++[q'.B,q'.l,q'.h,q'.o,q'.d,q'.kn,q'.dd]).Nodup from ap')).2.1
 have nd:=XR tH fresh nl fun b hb=>by
  simp only [List.mem_cons,A0L,A1N] at hb;rcases hb with h | h | h | h | h <;> rw [h]
  ·exact ⟨_,LA.l1⟩
  ·exact ⟨_,LA.l2⟩
  ·exact ⟨_,LA.l3⟩
  ·exact ⟨_,LA.l4⟩
  ·exact ⟨_,LA.l5⟩
 have Re:=XQ mx (LA.same s7) Bk' Pu' (fun e he=>(s6.trans s7) _ _ (Vh.K.fr e he)) fr' nd;have ln:=Re.ln;exact ⟨_,E,ks',ls,_,rfl,Re,by lia,fun H8 _=>kk H8⟩
end
def Bnd (x q:Str) (st:Stmt) (ps:List Str):Prop:=∀ (kV doc pm:Value) (an:Option Addr) (cdv ct:Value) (us:List Value),us.length=ps.length->bindArgs (PySem.W.fnOf x q (mG st) (je st) (aJ st) .none kV doc pm an cdv ct) ⟨us,[]⟩=pure (ps.zip us)
def Dq (K:PySem.W.Frag) (x q:Str) (st:Stmt) (f:Addr):Prop:=∃ oc od kV dc pm an cd ct sl,K.lookup f=some ⟨oc,od,.func (PySem.W.fnOf x q (mG st) (je st) (aJ st) .none kV dc pm an cd ct),sl⟩/\PySem.W.codeIn K cd q=true/\PySem.W.keepIn K (.ref f)=true
def Df (K:PySem.W.Frag):List (Str×Stmt×List Str×Addr)->Prop
 | []=>True
 | (x,st,ps,f)::r=>(PySem.W.nsIn K mainGlobals x=some (some (.ref f))/\Dq K x x st f/\Bnd x x st ps)/\Df K r
def Mf (K:PySem.W.Frag) (C:Addr) (c:Str):List (Str×Stmt×List Str×Addr)->Prop
 | []=>True
 | (x,st,ps,f)::r=>(PySem.W.findIn K (.ref C) x=some (some (.ref f))/\PySem.W.isFn K (.ref f)=true/\Dq K x (c++x) st f/\Bnd x (c++x) st ps)/\Mf K C c r
def Na (K:PySem.W.Frag) (C:Addr):List Str->Prop
 | []=>True
 | x::r=>PySem.W.findIn K (.ref C) x=some none/\Na K C r
def Nn (K:PySem.W.Frag):List Str->Prop
 | []=>True
 | x::r=>PySem.W.nsIn K mainGlobals x=some none/\Nn K r
def Nz (mg:Str->Option Value):List Str->Prop
 | []=>True
 | x::r=>mg x=none/\Nz mg r
def Qn (K:PySem.W.Frag):List (Str×Value)->Prop
 | []=>True
 | (x,v)::r=>PySem.W.nsIn K mainGlobals x=some (some v)/\Qn K r
def Qm (mg:Str->Option Value):List (Str×Value)->Prop
 | []=>True
 | (x,v)::r=>mg x=some v/\Qm mg r
theorem on0 {P:List Value->Prop} (h:P []):∀ us:List Value,us.length=0->P us
 | [],_=>h
theorem onS {P:List Value->Prop} (h:∀ (a:Value) (us:List Value),us.length=n->P (a::us)):∀ us:List Value,us.length=n+1->P us
 | a::us,e=>h a us (Nat.succ.inj e)
theorem Vi {d:Option Addr}{it:Array Value}{ss:Array (Option Value)} (h:K.lookup a=some ⟨.type "tuple",d,.seq it n,ss⟩) (hs:it.size<=sizeLine) (hv:Vals xs it.toList):KTp K a xs:=⟨_,it,n,h,rfl,rfl,hs,hv⟩
section
variable {q:Str}
theorem dq_f (h:Dq K x q st f):∃ fd,fK K x q st f fd/\PySem.W.keepIn K (.ref f)=true:=by
 obtain ⟨oc,od,kV,dc,pm,an,cd,ct,sl,L,c,k⟩:=h;exact ⟨_,Qh L c k,k⟩
theorem lM (X:K.In h) (G:h.Ns mainGlobals mg) (a:PySem.W.nsIn K mainGlobals x=some (some (.ref f))/\Dq K x x st f/\Bnd x x st ps):∃ d,fK K x x st f d/\Ms K mg x f d ps:=by
 obtain ⟨a,l,b⟩:=a;obtain ⟨d,F,k⟩:=dq_f l;exact ⟨d,F,F.binds b,k,PySem.W.mg_of X G a⟩
theorem qX (a:PySem.W.findIn K (.ref C) x=some (some (.ref f))/\PySem.W.isFn K (.ref f)=true/\Dq K x q st f/\Bnd x q st ps):∃ d,fK K x q st f d/\Meth K C x f/\Binds K d ps []:=by
 obtain ⟨a,i,l,b⟩:=a;obtain ⟨d,F,k⟩:=dq_f l;exact ⟨d,F,⟨a,i,k⟩,F.binds b⟩
theorem Nn.m (X:K.In h) (G:h.Ns mainGlobals mg):∀ {l:List Str},Nn K l->Nz mg l
 | [],_=>True.intro
 | _::_,⟨a,b⟩=>⟨PySem.W.mg_none_of X G a,Nn.m X G b⟩
theorem Qn.m (X:K.In h) (G:h.Ns mainGlobals mg):∀ {l:List (Str×Value)},Qn K l->Qm mg l
 | [],_=>True.intro
 | (_,_)::_,⟨a,b⟩=>⟨PySem.W.mg_of X G a,Qn.m X G b⟩
end
theorem all_mk {l:PySem.W.OpenLaw}{fa f1 f2 f3 f4 f5 f6 f7 f8 f9 Vt f11 f12 f13 f14 f15 f16 f17 f18 f19 f20 f21 f22 f23 f24 f25 f26 f27 f28 f29 f30 f31 f32 f33 f34 f35 f36 f37 f38 f39 f40 f41 f42 f43 f44 f_I f_Th f_Es f_Ho f_Lo f_Ow f_Br f_Se f_Ch f_He f_Un f_Fo f_Gr f_Pa f_Co f_Fa f_Ck f_Ad f_Sa f_Tw f_KI f_KD f_RI f_CI f_Ed f_Vs f_Vd f_Ld CR aF aB aW aD b1_ b2_ b3_ b4_ b5_ b6_ b7_ uw1 uw2 uw3 ud1 ud2 ud3 z1_ z2_ z3_ z4_ z5_ z6_ z7_:Addr}{tC:Tok}{esaB esaF esaW esaD:Array DictEntry}{naB naF naW naD:Nat}{a1j a1k:Array Value}{nb2_ nb4_:Nat}{db2_ db4_:Option Addr}{sb2_ sb4_:Array (Option Value)} (X:K.In h) (G:h.Ns mainGlobals mg) (hfa:mg "law"=some (.ref fa))
  (A:Df K (("fits",JT,["sort", "piece"],f1)::("check_acres",a0j,["acres"],f2)::("part",R5,["top", "bottom"],f3)::("minus",Gy,["a", "b"],f4)::("common_measure",a0d,["a", "b"],f5)::("judged_order",Ae,["rows"],f6)::("place_in_order",HX,["row"],f7)::("judge",vJ,A5I,f8)::("word_of_new",sWN,A5I,f9)::("word_of_convey",sWC,A5I,Vt)::("word_of_surrender",sWS,A5I,f11)::("do_grant",sDG,A5I,f12)::("do_part",sDP,A5I,f13)::("do_convey",sDC,A5I,f14)::("do_surrender",sDS,A5I,f15)::("check_land",Aq,["acres", "bears"],f16)::("by_days",Ak,["rows"],f17)::("_law_feed",Ra,["_law_script", "_law_many"],f18)::("_law_same",CW,A5M,f19)::("_law_low",a0e,["_law_top", "_law_bottom"],f20)::("_law_names",Ay,["_law_d", "_law_many"],f21)::("_law_book",Dd,["_law_acres"],f22)::("_law_under",WQ,A5H,f23)::("_law_breadth",a0x,A5H,f24)::("_law_held",WR,A5U,f25)::("_law_why",a0I,A5J,f26)::("_law_fall",a0D,A5H,f27)::("_law_new",sNew,A5O,f28)::("_law_do",sDo,A5J,f29)::("_law_word",Ir,A5J,f30)::("_law_kinds",Ia,[],f31)::("_law_sorted",Af,["_law_rows_here"],f32)::("_law_ahead",Ib,A6d,f33)::("_law_books",Ax,A6a,f34)::("_law_pools",Iv,["_law_feed_here"],f35)::("_law_row",Xz,A5R,f36)::("_law_rows",Iz,A5N,f37)::("_law_mixed",Ie,A6g,f38)::("_law_chain",a0y,A5H,f39)::("_law_estate_is",sEi,A5Y,f40)::("_law_land_is",sLi,["_law_land", "_law_book_here"],f41)::("_law_court",Bg,A5P,f42)::("_law_judged_right",XH,A5T,f43)::("law",IV,["_law_script"],f44)::[]))
  (B0:Mf K C "Land." (("__init__",QH,A5W,f_I)::("there",Gi,A5G,f_Th)::("estates",qu,A5S,f_Es)::("holder",z9,A5G,f_Ho)::("lord",QJ,A5G,f_Lo)::("own",ZV,A5G,f_Ow)::("breadth",uW,A5G,f_Br)::("service",uX,A5G,f_Se)::("chain",Gj,A5G,f_Ch)::("held",JH,A5Z,f_He)::("under",za,A5G,f_Un)::("folk",JK,A5S,f_Fo)::("grant",Gk,A5Q,f_Gr)::("part_off",uY,A6b,f_Pa)::("convey",zc,["self", "estate", "man"],f_Co)::("fall_back",QK,A5G,f_Fa)::("check_there",Gn,A5G,f_Ck)::("add_estate",ZW,A5K,f_Ad)::("same",Gm,["self", "other"],f_Sa)::("twin",QL,A5S,f_Tw)::[]))
  (B1:Mf K CK "Kin." (("__init__",Tz,A5S,f_KI)::("is_dead",zX,A5Z,f_KD)::[]))
  (B2:Mf K CR "Realm." (("__init__",zY,A5W,f_RI)::[]))
  (B3:Mf K CC "Court." (("__init__",Av,A6e,f_CI)::("end_day",Am,["self", "day"],f_Ed)::("verdicts",Il,A5S,f_Vs)::("verdict",UG,["self", "row"],f_Vd)::("land",Ao,["self", "day"],f_Ld)::[]))
  (cC:Cls K C/\PySem.W.makesIn K C=true/\PySem.W.keepIn K (.ref C)=true/\Na K C ["lord_of", "holder_of", "own_of", "service_of", "breadth_of"])
  (cCK:Cls K CK/\PySem.W.makesIn K CK=true/\PySem.W.keepIn K (.ref CK)=true/\Na K CK ["heir_of", "gone"])
  (cCR:Cls K CR/\PySem.W.makesIn K CR=true/\PySem.W.keepIn K (.ref CR)=true/\Na K CR ["ground", "kin", "used", "lieges", "deaths"])
  (cCC:Cls K CC/\PySem.W.makesIn K CC=true/\PySem.W.keepIn K (.ref CC)=true/\Na K CC ["many_acres", "coins", "realm", "judged", "lands"])
  (Z:Nn K ["isinstance", "bool", "int", "str", "list", "tuple", "len", "all", "zip", "range", "sorted", "set", "max", "min", "abs", "dict"])
  (Q:Qn K (("CROWN",.str "" tC)::("STANDS",.str "stands" tS)::("BOUNDS",.ref aB)::("FORMS",.ref aF)::("WORDS",.ref aW)::("DEEDS",.ref aD)::("Land",.ref C)::("Kin",.ref CK)::("Realm",.ref CR)::("Court",.ref CC)::[]))
  (kaB:K.lookup aB=some ⟨.type "dict",none,.dict esaB naB,#[]⟩)
  (eaB:gJ w.params esaB.toList [("day",.ref b1_),("acres",.ref b2_),("service",.ref b3_),("bears",.ref b4_),("edge",.ref b5_),("number",.ref b6_),("entry",.ref b7_)])
  (laB:(aB==sysModules)=false)
  (kaF:K.lookup aF=some ⟨.type "dict",none,.dict esaF naF,#[]⟩)
  (eaF:gJ w.params esaF.toList [("heir",.ref z1_),("grant",.ref z2_),("part",.ref z3_),("convey",.ref z4_),("liege",.ref z5_),("surrender",.ref z6_),("death",.ref z7_)])
  (laF:(aF==sysModules)=false)
  (kaW:K.lookup aW=some ⟨.type "dict",none,.dict esaW naW,#[]⟩)
  (eaW:gJ w.params esaW.toList [("heir",.ref uw1),("grant",.ref f9),("part",.ref f9),("convey",.ref Vt),("liege",.ref uw2),("surrender",.ref f11),("death",.ref uw3)])
  (laW:(aW==sysModules)=false)
  (kaD:K.lookup aD=some ⟨.type "dict",none,.dict esaD naD,#[]⟩)
  (eaD:gJ w.params esaD.toList [("heir",.ref ud1),("grant",.ref f12),("part",.ref f13),("convey",.ref f14),("liege",.ref ud2),("surrender",.ref f15),("death",.ref ud3)])
  (laD:(aD==sysModules)=false)
  (tb2_:K.lookup b2_=some ⟨.type "tuple",db2_,.seq a1j nb2_,sb2_⟩)
  (zb2_:a1j.size<=sizeLine)
  (vb2_:Vals [.int 1,.int 9999] a1j.toList)
  (tb4_:K.lookup b4_=some ⟨.type "tuple",db4_,.seq a1k nb4_,sb4_⟩)
  (zb4_:a1k.size<=sizeLine)
  (vb4_:Vals [.int 0,.int 99] a1k.toList) :
  ∃ fd:FuncData,(∀ (s:Shared) (v:Value),BindsTo s fd ⟨[v],[]⟩ [("_law_script",v)])/\∀ base:Heap,K.In base->base.Ns mainGlobals mg->aL l.prog w K mg base bN 10 fa fd ["_law_script"] (Ey K):=by
 obtain ⟨h1,h2,h3,h4,h5,h6,h7,h8,h9,h10,h11,h12,h13,h14,h15,YZ,h17,h18,h19,h20,h21,h22,h23,h24,h25,h26,h27,h28,h29,h30,h31,h32,h33,h34,h35,h36,h37,h38,h39,h40,h41,h42,h43,h44,_⟩:=A;obtain ⟨x0,⟨oc,od,kV,dc,pm,an,cd,ct,sl,L,c,kp⟩,_⟩:=h44;cases hfa.symm.trans (PySem.W.mg_of X G x0);have F44:=Qh (st:=IV) L c kp;refine ⟨PySem.W.fnOf "law" "law" (mG IV) (je IV) (aJ IV) .none kV dc pm an cd ct,fun s v=>.of_eq rfl,fun base _ _=>?_⟩;obtain ⟨_,F1,M1⟩:=lM X G h1;obtain ⟨_,F2,M2⟩:=lM X G h2;obtain ⟨_,F3,M3⟩:=lM X G h3;obtain ⟨_,F4,M4⟩:=lM X G h4;obtain ⟨_,F5,M5⟩:=lM X G h5;obtain ⟨_,F6,M6⟩:=lM X G h6;obtain ⟨_,F7,M7⟩:=lM X G h7;obtain ⟨_,F8,M8⟩:=lM X G h8;obtain ⟨_,F9,M9⟩:=lM X G h9;obtain ⟨_,F10,M10⟩:=lM X G h10;obtain ⟨_,F11,M11⟩:=lM X G h11;obtain ⟨_,F12,Lh⟩:=lM X G h12;obtain ⟨_,F13,M13⟩:=lM X G h13;obtain ⟨_,F14,M14⟩:=lM X G h14;obtain ⟨_,F15,M15⟩:=lM X G h15;obtain ⟨_,F16,M16⟩:=lM X G YZ;obtain ⟨_,F17,M17⟩:=lM X G h17;obtain ⟨_,F18,M18⟩:=lM X G h18;obtain ⟨_,F19,M19⟩:=lM X G h19;obtain ⟨_,F20,M20⟩:=lM X G h20;obtain ⟨_,F21,M21⟩:=lM X G h21;obtain ⟨_,F22,M22⟩:=lM X G h22;obtain ⟨_,F23,M23⟩:=lM X G h23;obtain ⟨_,F24,M24⟩:=lM X G h24;obtain ⟨_,F25,M25⟩:=lM X G h25;obtain ⟨_,F26,M26⟩:=lM X G h26;obtain ⟨_,F27,M27⟩:=lM X G h27;obtain ⟨_,F28,M28⟩:=lM X G h28;obtain ⟨_,F29,M29⟩:=lM X G h29;obtain ⟨_,F30,M30⟩:=lM X G h30;obtain ⟨_,F31,M31⟩:=lM X G h31;obtain ⟨_,F32,M32⟩:=lM X G h32;obtain ⟨_,F33,M33⟩:=lM X G h33;obtain ⟨_,F34,M34⟩:=lM X G h34;obtain ⟨_,F35,M35⟩:=lM X G h35;obtain ⟨_,F36,M36⟩:=lM X G h36;obtain ⟨_,F37,M37⟩:=lM X G h37;obtain ⟨_,F38,M38⟩:=lM X G h38;obtain ⟨_,F39,M39⟩:=lM X G h39;obtain ⟨_,F40,M40⟩:=lM X G h40;obtain ⟨_,F41,M41⟩:=lM X G h41;obtain ⟨_,F42,M42⟩:=lM X G h42;obtain ⟨_,F43,M43⟩:=lM X G h43;obtain ⟨xI,xTh,xEs,xHo,xLo,xOw,xBr,xSe,xCh,xHe,xUn,xFo,tE,tG,xCo,xFa,xCk,xAd,xSa,xTw,_⟩:=B0;obtain ⟨_,F_I,m_I,b_I⟩:=qX xI;obtain ⟨_,F_Th,Vj,Vk⟩:=qX xTh;obtain ⟨_,F_Es,m_Es,b_Es⟩:=qX xEs;obtain ⟨_,F_Ho,m_Ho,b_Ho⟩:=qX xHo;obtain ⟨_,F_Lo,m_Lo,b_Lo⟩:=qX xLo;obtain ⟨_,F_Ow,m_Ow,b_Ow⟩:=qX xOw;obtain ⟨_,F_Br,m_Br,b_Br⟩:=qX xBr;obtain ⟨_,F_Se,m_Se,b_Se⟩:=qX xSe;obtain ⟨_,F_Ch,m_Ch,b_Ch⟩:=qX xCh;obtain ⟨_,F_He,m_He,b_He⟩:=qX xHe;obtain ⟨_,F_Un,m_Un,b_Un⟩:=qX xUn;obtain ⟨_,F_Fo,m_Fo,b_Fo⟩:=qX xFo;obtain ⟨_,F_Gr,m_Gr,b_Gr⟩:=qX tE;obtain ⟨_,F_Pa,m_Pa,b_Pa⟩:=qX tG;obtain ⟨_,F_Co,m_Co,b_Co⟩:=qX xCo;obtain ⟨_,F_Fa,m_Fa,b_Fa⟩:=qX xFa;obtain ⟨_,F_Ck,IW,J0⟩:=qX xCk;obtain ⟨_,F_Ad,m_Ad,b_Ad⟩:=qX xAd;obtain ⟨_,F_Sa,m_Sa,b_Sa⟩:=qX xSa;obtain ⟨_,F_Tw,a1l,a1m⟩:=qX xTw;obtain ⟨xKI,xKD,_⟩:=B1;obtain ⟨_,F_KI,m_KI,b_KI⟩:=qX xKI;obtain ⟨_,F_KD,m_KD,b_KD⟩:=qX xKD;obtain ⟨xRI,_⟩:=B2;obtain ⟨_,F_RI,m_RI,b_RI⟩:=qX xRI;obtain ⟨xCI,xEd,xVs,xVd,xLd,_⟩:=B3;obtain ⟨_,F_CI,m_CI,b_CI⟩:=qX xCI;obtain ⟨_,F_Ed,m_Ed,b_Ed⟩:=qX xEd;obtain ⟨_,F_Vs,m_Vs,b_Vs⟩:=qX xVs;obtain ⟨_,F_Vd,m_Vd,b_Vd⟩:=qX xVd;obtain ⟨_,F_Ld,m_Ld,b_Ld⟩:=qX xLd;obtain ⟨kC,mkC,kpC,aC1,aC2,aC3,aC4,aC5,_⟩:=cC;obtain ⟨kCK,mkCK,kpCK,aCK1,aCK2,_⟩:=cCK;obtain ⟨kCR,mkCR,kpCR,aCR1,aCR2,aCR3,aCR4,aCR5,_⟩:=cCR;obtain ⟨kCC,mkCC,kpCC,aCC1,aCC2,aCC3,aCC4,aCC5,_⟩:=cCC;obtain ⟨Bl,a1n,a2L,a2M,Bm,XS,wA,a2N,a2O,Bo,iM,a2P,a2Q,Z1,Z2,a1o,_⟩:=Z.m X G;obtain ⟨Lq,qR,EY,Y0,Y4,Y5,Vl,a2R,Y6,Y7,_⟩:=Q.m X G;have ms:MgS mg:=⟨Bl,a1n,a2L,a2M,Bm,XS,wA,a2N,a2O⟩;have T:cW K C:=⟨kC,aC1,aC2,aC3,aC4,aC5⟩;have TK:TF K CK:=⟨kCK,aCK1,aCK2⟩;have TR:jV K CR:=⟨kCR,aCR1,aCR2,aCR3,aCR4,aCR5⟩;have TC:nW K CC:=⟨kCC,aCC1,aCC2,aCC3,aCC4,aCC5⟩;have mo:Wq K w.params mg:=⟨⟨aB,b1_,b2_,b3_,b4_,b5_,b6_,b7_,EY,⟨⟨_,_,kaB,eaB⟩,laB⟩,Vi tb2_ zb2_ vb2_⟩,⟨tC,Lq⟩⟩;have mb:ModB K w.params mg:=⟨⟨aB,b1_,b2_,b3_,b4_,b5_,b6_,b7_,EY,⟨⟨_,_,kaB,eaB⟩,laB⟩,Vi tb4_ zb4_ vb4_⟩⟩;have fo:Forms K w.params mg:=⟨aF,_,Y0,⟨⟨_,_,kaF,eaF⟩,laF⟩,rfl⟩;have TB:Tabs K w.params mg f9 Vt f11 f12 f13 f14 f15:=⟨⟨aW,uw2,uw1,uw3,Y4,⟨⟨_,_,kaW,eaW⟩,laW⟩⟩,⟨aD,ud1,ud2,ud3,Y5,⟨⟨_,_,kaD,eaD⟩,laD⟩⟩⟩;have G5:=0o7 a0h F5;have G3:=0o7 Wm F3 Z2 G5 M5;have G4:=0o7 Rn F4 G3 M3;have G1:=0o7 Wr F1 mo;have GfB:=0o7 UJ F1 mb;have G2:=0o7 a0l F2 G1 M1;have G16:=0o7 Oi F16 G2 M2 GfB M1;have G_I:=0o7 Ws T F_I mo G2 M2
 have Vm:=0o7 QM T F_Th;have J3:=0o7 Mw T F_Ck Vm Vj Vk;have G_Ho:=0o7 Mx T F_Ho J3 IW J0;have G_Lo:=0o7 W9 T F_Lo J3 IW J0;have G_Ow:=0o7 a0a T F_Ow J3 IW J0;have G_Br:=0o7 Gr T F_Br J3 IW J0;have G_Se:=0o7 Gs T F_Se J3 IW J0;have G_Ch:=0o7 QV T F_Ch J3 IW J0;have G_Es:=0o7 Gv T Lq iM F_Es;have G_He:=0o7 Wa T iM F_He;have G_Un:=0o7 QZ T iM F_Un J3 IW J0;have G_Fo:=0o7 WM T iM F_Fo;have G_Ad:=0o7 a0b T F_Ad;have G_Co:=0o7 MJ T F_Co;have G_Gr:=0o7 R0 T F_Gr G_Ad m_Ad b_Ad;have G_Fa:=0o7 Wc T F_Fa G_Un m_Un b_Un;have G_Pa:=0o7 GJ T F_Pa G_Ad m_Ad b_Ad G3 M3 G4 M4;have G_Sa:=0o7 Tr T F_Sa;have a1p:=0o7 Tt T F_Tw mo a1o G_I ⟨mkC,m_I.at_,m_I.fn,kpC⟩ Vl b_I;have G_KI:=0o7 Xa TK F_KI;have G_KD:=0o7 X7 TK F_KD;have G_RI:=0o7 NT T TR F_RI G_I ⟨mkC,m_I.at_,m_I.fn,kpC⟩ Vl b_I G_KI ⟨mkCK,m_KI.at_,m_KI.fn,kpCK⟩ a2R b_KI;have G9:=0o7 a2h T TK TR F9 qR Vm Vj Vk G_KD m_KD b_KD G_Ow m_Ow b_Ow;have G10:=0o7 a2i T TK TR F10 qR Vm Vj Vk G_KD m_KD b_KD;have G11:=0o7 a2j (CK:=CK) T TR F11 qR Vm Vj Vk;have G12:=0o7 a2k (CK:=CK) T TR F12 (aL.mono (k:=4) G_Gr 0x2) m_Gr b_Gr;have G13:=0o7 a2l (CK:=CK) T TR F13 (aL.mono (k:=4) G_Pa 0x2) m_Pa b_Pa;have G14:=0o7 a2m (CK:=CK) T TR F14 (aL.mono (k:=4) G_Co 0x2) m_Co b_Co;have G15:=0o7 a2n (CK:=CK) T TR F15 G_Fa m_Fa b_Fa;have G8:=0o7 U3 F8 qR TB G9 M9 G10 M10 G11 M11 G12 Lh G13 M13 G14 M14 G15 M15;have G7:=0o7 U8 F7 fo Bm;have G6:=0o7 O4 F6 iM G7 M7;have G17:=0o7 O8 F17 G6 M6;have G_Ed:=0o7 Oe (CK:=CK) TC TR T F_Ed a1p a1l a1m G_Sa m_Sa b_Sa;have G_CI:=0o7 Oh TC TR T F_CI G16 M16 G_RI ⟨mkCR,m_RI.at_,m_RI.fn,kpCR⟩ Y6 b_RI a1p a1l a1m G17 M17 G8 M8 G_Ed m_Ed b_Ed;have G_Vs:=0o7 Uw TC F_Vs Bm;have G_Vd:=0o7 Xo TC F_Vd;have G_Ld:=0o7 Og TC T F_Ld a1p a1l a1m;have G18:=0o7 Wf F18 Bo wA;have G19:=0o7 zy F19 ms M19 3;have Gs4:=0o7 zy F19 ms M19 4;have G20:=0o7 a0i F20 Z2;have G21:=0o7 V5 F21 wA Bo;have G22:=0o7 Wt F22;have G23:=0o7 a0z iM F23;have G25:=0o7 a0A iM F25;have G24:=0o7 a0B F24 G23 M23;have G39:=0o7 a0C F39;have G26:=0o7 a0J F26;have G27:=0o7 a2e F27 G23 M23;have G28:=0o7 a0F F28;have G29:=0o7 a2f F29 G28 M28 G24 M24 G20 M20 G27 M27;have G30:=0o7 UW F30 G26 M26 G29 M29;have G31:=0o7 U7 F31;have G33:=0o7 Ue F33 G31 M31;have G32:=0o7 O6 F32 wA G33 M33;have G34:=0o7 Ol F34 G22 M22 G32 M32 G30 M30;have G35:=0o7 V6 F35 G21 M21;have G36:=0o7 a1e F36 iM Bm wA a2Q Z1;have G37:=0o7 Va F37 Bo wA Z1 G22 M22 G36 M36 G30 M30;have G38:=0o7 Uj F38 wA;have G40:=0o7 a2s T F40 G_Ho m_Ho b_Ho G_Lo m_Lo b_Lo G_Ow m_Ow b_Ow G_Br m_Br b_Br G_Se m_Se b_Se G_Ch m_Ch b_Ch Vm Vj Vk G_Un m_Un b_Un G24 M24 G39 M39 G23 M23 G19 M19;have G41:=0o7 a2C T F41 ms iM a2P G_Es m_Es b_Es G_Fo m_Fo b_Fo G_He m_He b_He G25 M25 G19 M19 G40 M40;have G42:=0o7 Oq F42 G_CI ⟨mkCC,m_CI.at_,m_CI.fn,kpCC⟩ Y7 b_CI G38 M38;have G43:=0o7 a1h TC F43 ms G34 M34 G_Vs m_Vs b_Vs Gs4 M19 G_Vd m_Vd b_Vd;exact a1i TC T F44 G18 M18 G35 M35 G37 M37 G42 M42 G43 M43 G_Ld m_Ld b_Ld G34 M34 G41 M41
theorem walk {l:PySem.W.OpenLaw}{q:Program}{d:DefRec}{K:Params->PySem.W.Frag} (hn:l.most=some 63) (hdf:d.params.defaults=[])
  (hY:∀ (w:World) (h:Heap),YP w h->(K w.params).In h)
  (F:∀ (w:World) (mg:Str->Option Value) (fa:Addr) (h:Heap),(K w.params).In h->h.Ns mainGlobals mg->mg d.name=some (.ref fa) ->
   ∃ fd:FuncData,(∀ (s:Shared) (u:Value),BindsTo s fd ⟨[u],[]⟩ [("_law_script",u)])/\∀ base:Heap,(K w.params).In base->base.Ns mainGlobals mg->aL l.prog w (K w.params) mg base bN 10 fa fd ["_law_script"] (Ey (K w.params))) :
  PySem.W.WalkO q loose XP YP l.row.toRowW d [] (fun f vs=>PySem.call f vs) :=
 L2.VL (n:=63) (k:=10) (x:="_law_script") (CX:=fun _=>bN) (sp:=fun w=>Ey (K w.params)) hn 0x7 hdf ⟨rfl,by decide,by decide⟩ hY F (fun _ _ a ns hl _ hS=>⟨a,ns,rfl,hS,hl,fun _=>rfl⟩) fun _ _ _ _ _ z=>z
end M
namespace PySem.W.Fast
def tw17542478038598949982:=0
def tw9181962969136658533:=0
def tw12269678195269060655:=0
def tw2256275213299201374:=0
def tw2291967124581426750:=0
def tw1868597383772760806:=0
def tw17901978574066375594:=0
def tw3982312283705143592:=0
def tw5518777335127399693:=0
def tw582275865224145725:=0
def tw11145201258095095598:=0
def tw1528439760450445347:=0
def tw3066566336155525024:=0
def tw16763157271956433070:=0
def tw2295270176972652783:=0
def tw10956484372573149215:=0
def tw3616837408943306516:=0
def tw14103773742657908097:=0
def tw6512907204435928378:=0
def tw8792287156875221500:=0
def tw15608010609490797100:=0
def tw8345904866246504536:=0
def tw10559583069596596377:=0
def tw15612090775116719370:=0
def tw10696767341138267695:=0
def tw7211992815590120767:=0
def tw10840475129334097365:=0
def tw2361950242258023228:=0
def tw15837896331085495830:=0
def tw4103405888952038870:=0
def tw13137972829559231574:=0
def tw3371065528527376827:=0
def tw17984166866648294370:=0
def tw17104502828203150189:=0
def tw4212780478972364071:=0
def tw15310563462056055459:=0
def tw18396701263417156366:=0
def tw6690447013164916381:=0
def tw15652469515321040629:=0
def tw6721542407553936779:=0
def tw7369443639963780292:=0
def tw4045570233424237682:=0
def tw5041185221999814242:=0
def tw13879992002484271034:=0
def tw18243537612804692538:=0
def tw952883500678464276:=0
def tw7821369223223222264:=0
def tw10314010520703657452:=0
def tw1926594845605230947:=0
def tw5069771603444646456:=0
def tw9256741518101442242:=0
def tw4296254295060476009:=0
def tw4299213052531726525:=0
def tw9928295884506091661:=0
def tw2108554104587717044:=0
def tw14504911015130249379:=0
def tw14311910837575396650:=0
def tw11149624550302516586:=0
def tw13299950389186436700:=0
def tw14828520282679537114:=0
def tw13913512598965429914:=0
def tw11900787403231046255:=0
def tw1582108675072854830:=0
def tw5940233654503656519:=0
def tw7330676883261253700:=0
def tw7333750288890521170:=0
def tw4066838932050375952:=0
def tw3142856952283775139:=0
def tw12472834183442401652:=0
def tw7794746243070572542:=0
def tw8062680933532579256:=0
def tw4954737547448656405:=0
def tw9577387579312473585:=0
def tw9829924828946979280:=0
def tw14321458206430500967:=0
def tw11549348114765127200:=0
def tw17537746628939725537:=0
def tw14240242281604461437:=0
def tw4144840957243549222:=0
def tw6816394993556114295:=0
def tw5697729269814953793:=0
def tw16293830567410380550:=0
def tw1089463640936711569:=0
def tw4949130405269649587:=0
def tw16163153886941205956:=0
def tw2569069700310787643:=0
def tw13240670727825635221:=0
def tw278475775151880050:=0
def tw4284799362581278759:=0
def tw1370482610945216503:=0
def tw10572497944909374895:=0
def tw8161025041195964755:=0
def tw15344319249347442895:=0
def tw14726530410087909032:=0
def tw1752696247901623701:=0
def tw10572739926166953849:=0
def tw10896752101331427757:=0
def tw13553755250804917427:=0
def tw4189274929188321126:=0
def tw7019945425765163834:=0
def tw1312308898868107783:=0
def tw15767573802739897073:=0
def tw7861066482050494389:=0
def tw9167557519562254970:=0
def tw9317520185452251449:=0
def tw17533685098519261923:=0
def tw4606469729618064571:=0
def tw1729993399316821498:=0
def tw13265627671318943008:=0
def tw5011366372847236169:=0
def tw55441115747664988:=0
def tw18421522068124110303:=0
def tw6297369464650801966:=0
def tw16833961711247580782:=0
def tw4085158304326140118:=0
def tw3447606608265095997:=0
def tw10580234411009788999:=0
def tw14315193225113100479:=0
def tw3491116965321746718:=0
def tw7015425971596208281:=0
def tw8856382021425336647:=0
def tw12272258961701877411:=0
def tw2673284789252892527:=0
def tw9041231960674870971:=0
def tw1371161666978981777:=0
def tw1545155231945553713:=0
def tw18210473220202636106:=0
def tw8650550961648169019:=0
def tw9648364991141244739:=0
def tw10463201078556395410:=0
def tw4608480630465950055:=0
def tw16092519603026786627:=0
def tw3639700526658735220:=0
def tw9450595984354092803:=0
def tw6638235220664836740:=0
def tw10861165830502373617:=0
def tw12583132667503438484:=0
def tw17679001220742281615:=0
def tw7350230250994306050:=0
def tw13944740807072841797:=0
def tw5507393641930935947:=0
def tw5443191313083063706:=0
def tw2847170342025889128:=0
def tw15129227656089404237:=0
def tw7073987725978643186:=0
def tw6505412690763653183:=0
def tw2578137189068707828:=0
def tw2952450253486339942:=0
def tw16672064761353815951:=0
def tw8824333670907501232:=0
def tw4285625902065001137:=0
def tw8873611194458505830:=0
def tw4339047969739168179:=0
def tw9368635754813369370:=0
def tw7430149920441251691:=0
def tw6054248455035092916:=0
def tw11634738203385804934:=0
def tw16316979048273033296:=0
def tw5360491715598545343:=0
def tw10760498549901702968:=0
def tw13271964298104639464:=0
def tw4711123876035046755:=0
def tw13444507677113661796:=0
def tw13985430067944721306:=0
def tw5716875531330275765:=0
def tw15731991500938815171:=0
def tw2543965793691791605:=0
def tw16260911092508636698:=0
def tw17851612057789999575:=0
def tw657135188646940479:=0
def tw13063072604978073493:=0
def tw10180701008668505802:=0
def tw1000141810491205204:=0
def tw6761394856782204728:=0
def tw2661434302038262182:=0
def tw10007725251051381931:=0
end PySem.W.Fast
open PySem PySem.W PyProof.Rows
set_option maxRecDepth 100000 in
set_option maxHeartbeats 0 in
theorem PySem.Challenge.cw_manrent_k14_land_charters_judged_holds : PySem.Challenge.rw_manrent_k14_land_charters_judged.Holds := by
 w_on;o_law;k_head;(case hw=>w_witness2)
 k_fill
 refine M.walk (l:=PySem.Challenge.rw_manrent_k14_land_charters_judged) rfl rfl (fun w h Y=>PySem.W.kIn_of Y) ?F
 case F =>
  intro w mg fa h KX G hmg
  refine' M.all_mk KX G hmg ?A ?B0 ?B1 ?B2 ?B3 ?cC ?cCK ?cCR ?cCC ?Z ?Q ?kaB ?eaB ?laB ?kaF ?eaF ?laF ?kaW ?eaW ?laW ?kaD ?eaD ?laD ?tb2_ ?zb2_ ?vb2_ ?tb4_ ?zb4_ ?vb4_
  (case Q=>(repeat refine ⟨by k_is,?_⟩);exact True.intro)
  (case A=>(repeat refine ⟨⟨by k_is,⟨_,_,_,_,_,_,_,_,_,by k_is,by k_is,by k_is⟩,fun _ _ _ _ _ _=>by (repeat refine M.onS fun _=>?_);exact M.on0 rfl⟩,?_⟩);exact True.intro)
  (case B0=>(repeat refine ⟨⟨by k_is,by k_is,⟨_,_,_,_,_,_,_,_,_,by k_is,by k_is,by k_is⟩,fun _ _ _ _ _ _=>by (repeat refine M.onS fun _=>?_);exact M.on0 rfl⟩,?_⟩);exact True.intro)
  (case B1=>(repeat refine ⟨⟨by k_is,by k_is,⟨_,_,_,_,_,_,_,_,_,by k_is,by k_is,by k_is⟩,fun _ _ _ _ _ _=>by (repeat refine M.onS fun _=>?_);exact M.on0 rfl⟩,?_⟩);exact True.intro)
  (case B2=>(repeat refine ⟨⟨by k_is,by k_is,⟨_,_,_,_,_,_,_,_,_,by k_is,by k_is,by k_is⟩,fun _ _ _ _ _ _=>by (repeat refine M.onS fun _=>?_);exact M.on0 rfl⟩,?_⟩);exact True.intro)
  (case B3=>(repeat refine ⟨⟨by k_is,by k_is,⟨_,_,_,_,_,_,_,_,_,by k_is,by k_is,by k_is⟩,fun _ _ _ _ _ _=>by (repeat refine M.onS fun _=>?_);exact M.on0 rfl⟩,?_⟩);exact True.intro)
  (case cC=>exact ⟨⟨by k_is,by k_is,by k_is,by k_is⟩,by k_is,by k_is,⟨by k_is,⟨by k_is,⟨by k_is,⟨by k_is,⟨by k_is,True.intro⟩⟩⟩⟩⟩⟩)
  (case cCK=>exact ⟨⟨by k_is,by k_is,by k_is,by k_is⟩,by k_is,by k_is,⟨by k_is,⟨by k_is,True.intro⟩⟩⟩)
  (case cCR=>exact ⟨⟨by k_is,by k_is,by k_is,by k_is⟩,by k_is,by k_is,⟨by k_is,⟨by k_is,⟨by k_is,⟨by k_is,⟨by k_is,True.intro⟩⟩⟩⟩⟩⟩)
  (case cCC=>exact ⟨⟨by k_is,by k_is,by k_is,by k_is⟩,by k_is,by k_is,⟨by k_is,⟨by k_is,⟨by k_is,⟨by k_is,⟨by k_is,True.intro⟩⟩⟩⟩⟩⟩)
  (case Z=>(repeat refine ⟨by k_is,?_⟩);exact True.intro)
  case kaB=>k_is
  (case eaB=>exact ⟨⟨⟨_,rfl⟩,rfl,rfl⟩,⟨⟨_,rfl⟩,rfl,rfl⟩,⟨⟨_,rfl⟩,rfl,rfl⟩,⟨⟨_,rfl⟩,rfl,rfl⟩,⟨⟨_,rfl⟩,rfl,rfl⟩,⟨⟨_,rfl⟩,rfl,rfl⟩,⟨⟨_,rfl⟩,rfl,rfl⟩,True.intro⟩)
  (case laB=>rfl)
  case kaF=>k_is
  (case eaF=>exact ⟨⟨⟨_,rfl⟩,rfl,rfl⟩,⟨⟨_,rfl⟩,rfl,rfl⟩,⟨⟨_,rfl⟩,rfl,rfl⟩,⟨⟨_,rfl⟩,rfl,rfl⟩,⟨⟨_,rfl⟩,rfl,rfl⟩,⟨⟨_,rfl⟩,rfl,rfl⟩,⟨⟨_,rfl⟩,rfl,rfl⟩,True.intro⟩)
  (case laF=>rfl)
  case kaW=>k_is
  (case eaW=>exact ⟨⟨⟨_,rfl⟩,rfl,rfl⟩,⟨⟨_,rfl⟩,rfl,rfl⟩,⟨⟨_,rfl⟩,rfl,rfl⟩,⟨⟨_,rfl⟩,rfl,rfl⟩,⟨⟨_,rfl⟩,rfl,rfl⟩,⟨⟨_,rfl⟩,rfl,rfl⟩,⟨⟨_,rfl⟩,rfl,rfl⟩,True.intro⟩)
  (case laW=>rfl)
  case kaD=>k_is
  (case eaD=>exact ⟨⟨⟨_,rfl⟩,rfl,rfl⟩,⟨⟨_,rfl⟩,rfl,rfl⟩,⟨⟨_,rfl⟩,rfl,rfl⟩,⟨⟨_,rfl⟩,rfl,rfl⟩,⟨⟨_,rfl⟩,rfl,rfl⟩,⟨⟨_,rfl⟩,rfl,rfl⟩,⟨⟨_,rfl⟩,rfl,rfl⟩,True.intro⟩)
  (case laD=>rfl)
  case tb2_=>k_is
  (case zb2_=>exact M.small (Nat.le_of_ble_eq_true rfl))
  (case vb2_=>exact .cons ⟨_,rfl⟩ (.cons ⟨_,rfl⟩ (.nil)))
  case tb4_=>k_is
  (case zb4_=>exact M.small (Nat.le_of_ble_eq_true rfl))
  (case vb4_=>exact .cons ⟨_,rfl⟩ (.cons ⟨_,rfl⟩ (.nil)))
