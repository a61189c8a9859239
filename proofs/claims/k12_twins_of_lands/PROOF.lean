import PyProof.Rows.All
import KE.RegKIsAll
import KE.RegKTryMore
import Wide.All
import OpenK.KLine
import OpenK.KWalk
import OpenK.KOwn
import Wide.FinOn
import PyProof.EqAt
import PyProof.EqKinds
import PyProof.TupleCall
import PyProof.P3Eq
import PyProof.NeData
import KE.KTryDeep
import KE.KTryMore
import KE.KIsAll
import PyProof.NsDelKeeps
import PyProof.ExcArgsOwn
import OpenK.KTop
import PyProof.ExcBaseAll.ValueError
import PyProof.EnumMake
import PyProof.Draws
import KE.KSetDisp
import PyProof.SetRoads
import PyProof.Rows.SortStr
import PyProof.Rows.SortWalk
import PyProof.DictItems
import PyProof.DictValues
import KE.KSortTup
import PyProof.SetKind
import KE.KDictList
import KE.KItemsList
import KE.KDictOf
import PyProof.Rows.SetFrom
import PyProof.ListRange
import PyProof.DictTruth
import KE.KEqDict
import KE.KUnpack
import PySem.Challenge.RW_manrent_k12_twins_of_lands
set_option compiler.extract_closed false
set_option hygiene false
local macro_rules
|`(0x0)=>`(⟨rfl,rfl,rfl,by decide +kernel,rfl,by decide +kernel,by decide +kernel⟩)
|`(0x1)=>`(by lia)
|`(0x2)=>`(fun _ _=>rfl)
|`(0x3)=>`(fun vs H Q E h=>by cases h;subst_vars;rfl)
|`(0x4)=>`(by decide +kernel)
|`(0x5)=>`(fun cdv A outer s H vs Q E hr h=>?_)
|`(0x6)=>`(by decide)
|`(0x7)=>`(⟨rfl,by decide +kernel,by decide +kernel,by decide +kernel,rfl,by decide +kernel⟩)
|`(0x8)=>`(by simp)
|`(0x9)=>`(Or.inl rfl)
|`(0xA)=>`(model X.prog X.w)
|`(0xB)=>`(model prog w)
|`(0xC)=>`(fun _=>rfl)
|`(0xD)=>`(by intro q;cases q)
|`(0xE)=>`(pv 1)
|`(0xF)=>`(es.filter fun y=>decide (y.n≠e0.n))
|`(0x10)=>`(by intro z;cases z)
|`(0x11)=>`(pv 0)
|`(0x12)=>`(fun _ z=>by cases z)
|`(0x13)=>`(by with_unfolding_all rfl)
|`(0x14)=>`(s.heap.objs.size+1)
|`(0x15)=>`(.inr e)
|`(0x16)=>`(.ref s.heap.objs.size)
|`(0x17)=>`(u1 hr)
|`(0x18)=>`(.dK kvs)
|`(0x19)=>`(aK aR 0xE au 0x2)
|`(0x1A)=>`(aN 0x17 0x11 aG 0x2)
|`(0x1B)=>`(⟨_,rfl,r,_,_,_,rfl,rfl,bI.of hx,aD (j:=0) rfl,rfl,_,rfl,dO 0x4 ?_⟩)
|`(0x1C)=>`(bK 0x11 rfl)
|`(0x1D)=>`(oH (sx.1 * acres) (sx.2 * oJ))
local macro_rules
|`(0x1E)=>`(Addr×Obj)
|`(0x1F)=>`(putK ow 0x15 (.int (own - acres)))
|`(0x20)=>`(Prod L2.Key V)
|`(0x21)=>`(.inr n)
|`(0x22)=>`(yJ X (ts++fr) scope s H fp C)
|`(0x23)=>`(cD e0.n p e0.own es)
|`(0x24)=>`(fun c=>?_)
|`(0x25)=>`(mod y.n (nj m) es)
|`(0x26)=>`(bG 0x11 T.cl m1 G1 hr b1 .nil aU 0x4D)
|`(0x27)=>`(aK aM 0x37 au 0x2)
|`(0x28)=>`(p.toList.map fun i=>vs.getD i Value.none)
|`(0x29)=>`(aN 0x17 0xE aG 0x2)
|`(0x2A)=>`(strKind prog w)
|`(0x2B)=>`(show false=true from hs)
|`(0x2C)=>`(ss.map V.str)
|`(0x2D)=>`(.lst (qe.map (fun z=>.ref z.1.x)++[.ref q'.x]))
|`(0x2E)=>`(fun x=>!decide (x∈ks))
|`(0x2F)=>`(A0g _)
|`(0x30)=>`(⟨_,rfl,r,_,_,_,rfl,rfl,bI.of hx,aD (j:=0) rfl,rfl,_,rfl,qX 0x4 ?_⟩)
|`(0x31)=>`(nms es)
|`(0x32)=>`(.lst (ts.map V.str))
|`(0x33)=>`(stp y es t1 t2 b1 b2 bU)
|`(0x34)=>`(.ref s2.heap.objs.size)
|`(0x35)=>`(eF p1 p2 p3 p4 p5 ph pd p8)
|`(0x36)=>`(es.map core)
|`(0x37)=>`(pv 2)
|`(0x38)=>`(.grant y.n n m a s)
|`(0x39)=>`(Kp.refl _)
|`(0x3A)=>`((es.map (·.man)))
|`(0x3B)=>`(.gD o 0x18)
local macro_rules
|`(0x3C)=>`(aN 0x17 0x1C 0xE 0x2)
|`(0x3D)=>`(.ListComp elt [⟨tg,iter,ifs,0⟩] scope pos)
|`(0x3E)=>`(.ref p)
|`(0x3F)=>`(EP X pins σ Q)
|`(0x40)=>`((".0",.local))
|`(0x41)=>`(Same.refl _)
|`(0x42)=>`(cA I q 0x8)
|`(0x43)=>`(ns.map V.int)
|`(0x44)=>`(fs.map V.int)
|`(0x45)=>`(Key×V)
|`(0x46)=>`(("_law_one",.local))
|`(0x47)=>`(I.hok.fresh 0x2F)
|`(0x48)=>`(.ref a)
|`(0x49)=>`(putK br 0x15 (.int (oJ - acres)))
|`(0x4A)=>`(("_law_book_here",.free))
|`(0x4B)=>`(pickOrder (w.params.setOrder a ep) es)
|`(0x4C)=>`(s.heap.push PySem.W.emptyDict)
|`(0x4D)=>`(aj 0xE aC)
|`(0x4E)=>`(.ref it)
|`(0x4F)=>`(bQ X.prog X.w)
|`(0x50)=>`(.SetComp elt (⟨target,iter,ifs,0⟩::rest) scope pos)
|`(0x51)=>`(aQ cU 0x19 aG 0x7C)
|`(0x52)=>`(.tup xs)
|`(0x53)=>`(.lst xs)
|`(0x54)=>`(fY items.size items.size hi - fY items.size 0 lo)
|`(0x55)=>`(SetTable.grown es1.size)
|`(0x56)=>`(kv f es)
|`(0x57)=>`(.lst ys)
|`(0x58)=>`(fun z=>nomatch z)
|`(0x59)=>`(.lst ((0x31).map V.str))
local macro_rules
|`(0x5A)=>`(aj au aC)
|`(0x5B)=>`((false,eval e X.env))
|`(0x5C)=>`(seqObj "tuple" vs.toArray 0)
|`(0x5D)=>`(aj 0x37 aC)
|`(0x5E)=>`(envOfC qual scope s.heap.objs.size f cd)
|`(0x5F)=>`(.inr y.n)
|`(0x60)=>`(x==("__debug__" : Str))
|`(0x61)=>`(ha pins s σ H _ I h)
|`(0x62)=>`(iD rfl mC ⟨_,rfl⟩ (v:=.str ""))
|`(0x63)=>`(starEach es X.env)
|`(0x64)=>`(.lst ((fr++ls).map V.str))
|`(0x65)=>`(assignEach es X.env)
|`(0x66)=>`(bI.of ao)
|`(0x67)=>`(aK aR 0x37 au 0x2)
|`(0x68)=>`(aK aM 0x11 au 0x2)
|`(0x69)=>`(apos.endLine==cpos.line)
|`(0x6A)=>`(.builtin "object.__class__")
|`(0x6B)=>`(A0d ?_)
|`(0x6C)=>`(⟨_,rfl,r,_,_,_,rfl,rfl,bI.of x1,aD (j:=0) rfl,rfl,_,rfl,dO 0x4 ?_⟩)
|`(0x6D)=>`(.lst [])
|`(0x6E)=>`(.ref r)
|`(0x6F)=>`(.inl rfl)
|`(0x70)=>`(pv 3)
|`(0x71)=>`(gG X.env scope.names [])
|`(0x72)=>`(.ref t)
|`(0x73)=>`(zs.map V.str)
|`(0x74)=>`(Key×PyData)
|`(0x75)=>`(.ref f)
|`(0x76)=>`(by rw [e];exact True.intro)
|`(0x77)=>`(jd σ ts.length ix)
local macro_rules
|`(0x78)=>`(⟨a,some "",m0,y+wa,y+wa,(4,1),tA,0⟩)
|`(0x79)=>`(he pins s σ H _ I h)
|`(0x7A)=>`(cD y.n (y.lord.getD "") y.own es)
|`(0x7B)=>`(es1.map g2)
|`(0x7C)=>`(bA _)
|`(0x7D)=>`(a==sysModules)
|`(0x7E)=>`(HT.fY xs.length xs.length hi - HT.fY xs.length 0 lo)
|`(0x7F)=>`(by rw [bY];exact bO 0x1)
|`(0x80)=>`(PySem.W.instObj C s.heap.objs.size)
|`(0x81)=>`(putK se 0x15 0x6E)
|`(0x82)=>`(seqObj "list" vs.toArray 0)
|`(0x83)=>`(fun x Hz A B hx sz hAB=>?_)
|`(0x84)=>`(by kernel_rfl)
|`(0x85)=>`((∀ b∈fp,H' b=none))
|`(0x86)=>`(.ref D)
|`(0x87)=>`(fun z=>by rw [z,hy0] at hc;cases hc)
|`(0x88)=>`(aO bL (aK aM 0xE au 0x2) au)
|`(0x89)=>`(jd σ k ix)
|`(0x8A)=>`(Builtin.SmallTypes.nextOf 0x4E)
|`(0x8B)=>`(some v)
|`(0x8C)=>`(.ref C)
|`(0x8D)=>`(.str "")
|`(0x8E)=>`(.lst 0x2C)
|`(0x8F)=>`(List Key×Addr×Value)
|`(0x90)=>`(show u=Value.ref a from rx)
|`(0x91)=>`(putK (qU es) 0x21 0x72)
|`(0x92)=>`(cT rfl mr 0x5A)
|`(0x93)=>`(.part y.n n m a)
|`(0x94)=>`(aj aG aC)
|`(0x95)=>`(I.ok.hd hc)
local macro_rules
|`(0x96)=>`(gZ es)
|`(0x97)=>`(relabel scope X.env)
set_option Elab.async false
set_option linter.all false
set_option maxHeartbeats 16000000
set_option maxRecDepth 100000
set_option hygiene false
abbrev A5c:List PySem.Str:=["self","estate"]
abbrev A5d:List PySem.Str:=["_law_book_here","_law_estate"]
abbrev A5e:List PySem.Str:=["_law_book_here","_law_pools_here","_law_d","_law_day","_law_men","_law_lands","_law_there","_law_estate","_law_man","_law_fresh","_law_new_here","_law_wide","_law_many","_law_way","_law_others"]
abbrev A5f:List PySem.Str:=["_law_land","_law_book_here","_law_pools_here","_law_d","_law_one","_law_some","_law_fresh","_law_estate","_law_grants","_law_lands","_law_acres","_law_service","_law_at","_law_to"]
abbrev A5g:List PySem.Str:=["_law_book_here","_law_row_here"]
abbrev A5h:List PySem.Str:=["_law_book_here","_law_man"]
abbrev A5i:List PySem.Str:=["_law_land","_law_book_here","_law_pools_here","_law_feed_here","_law_at","_law_many","_law_kinds"]
abbrev A5j:List PySem.Str:=["self","estate","new","man","acres","service"]
abbrev A5k:List PySem.Str:=["_law_found","_law_due"]
abbrev A5l:List PySem.Str:=["grant","part","convey","surrender"]
abbrev A5m:List PySem.Str:=["self","name","lord","holder","acres","service"]
abbrev A5n:List PySem.Str:=["_law_book_here","_law_pools_here","_law_d","_law_kinds","_law_fresh","_law_there","_law_row_here","_law_estate","_law_man"]
abbrev A5o:List PySem.Str:=["_law_book_here","_law_row_here","_law_lord","_law_due"]
abbrev A5p:List PySem.Str:=["_law_book_here","_law_pools_here","_law_d","_law_kinds"]
abbrev A5q:List PySem.Str:=["_law_land","_law_book_here","_law_pools_here","_law_d"]
abbrev A5r:List PySem.Str:=["_law_book_here","_law_pools_here","_law_d","_law_day"]
abbrev A5s:List PySem.Str:=["_law_one","_law_other"]
abbrev A5t:List PySem.Str:=["_law_book_here","_law_men","_law_man","_law_number"]
abbrev A5u:List PySem.Str:=["_law_book_here"]
abbrev A5v:List PySem.Str:=["_law_one"]
abbrev A5w:List PySem.Str:=["_law_land","_law_book_here","_law_names_here","_law_folk"]
abbrev A5x:List PySem.Str:=["_law_d","_law_many","_law_letters","_law_k","_law_base","_law_at","_law_names_here","_law_sign","_law_name"]
abbrev A5y:List PySem.Str:=["_law_book_here","_law_pools_here","_law_d"]
abbrev A5z:List PySem.Str:=["_law_land","_law_book_here","_law_estate"]
abbrev A5G:List PySem.Str:=["heir","liege","death"]
abbrev A5H:List PySem.Str:=["self","estate","new","man","acres"]
abbrev A5I:List PySem.Str:=["grant","part"]
abbrev A5J:List PySem.Str:=["self"]
abbrev A5K:List PySem.Str:=["self","other"]
local macro_rules | `(tactic| apply 0o1 $H $t $ht $s:ident $k:ident $X:ident) => `(tactic| (generalize hX : upd $H $t _ = $X; have $s : Same $H $X := hX ▸ aJ $ht _; have $k := (congrFun hX $t).symm.trans ao; clear hX))
local macro_rules
  |`(0o7 $f $a*)=>`($f (P:=l.prog) (w:=w) (mg:=mg) (base:=base) $a*)
def bY{α β:Type _}{as:List α}(f:α->β):(as.map f).length=as.length:=List.length_map f
def jo{α:Type _}{l:List α}{i:Nat}(h:i<l.length):l[i]?=some l[i]:=List.getElem?_eq_getElem h
def qN{α:Type _}{l:List α}{i:Nat}{a:α}:l.getD i a=l[i]?.getD a:=List.getD_eq_getElem?_getD
def yI{p:Prop}[inst:Decidable p](h:decide p=true):p:=of_decide_eq_true h
def lJ{α β:Type _}{f:α->β}{l:List α}{i:Nat}:(l.map f)[i]?=Option.map f l[i]?:=List.getElem?_map
def lG{α:Type _}{as bs:List α}:(as++bs).length=as.length+bs.length:=List.length_append
def lH{α:Type _}(y:α){a:α}{l:List α}(h:a∈l):a∈y::l:=List.mem_cons_of_mem y h
def rT{α:Type _}{a:α}{as:List α}:(a::as).length=as.length+1:=List.length_cons
def oF{α:Type _}{l:List α}{i:Nat}{a:α}(e:l[i]?=some a):a∈l:=List.mem_of_getElem? e
def lN{α β:Type _}{f:α->β}{l₁ l₂:List α}:(l₁++l₂).map f=l₁.map f++l₂.map f:=List.map_append
variable{its ord us:List PySem.Value}{C D a b b1 b2 c d dd dx f fa g1 g2 g3 g4 g5 g6 he i1 i2 it kn la lg r t1 t2:PySem.Addr}{u:PySem.Value}{P prog:PySem.Program}{w:PySem.World}{base h h' h1:PySem.Heap}{name p q qual x z:PySem.Str}{e iter tg value:PySem.Expr}{pins:List (PySem.Addr×PySem.Obj)}{s s':PySem.Shared}{ep i j n t' x1:Nat}{ch fp:List PySem.Addr}{N ks ks' loose ls ms ps ss ts zs:List PySem.Str}{A:PySem.Around}{E Q:PySem.Value->PySem.Shared->Prop}{apos cpos p2 pos pos' tp:PySem.Pos}{op:PySem.CmpOp}{K:PySem.W.Frag}{st:PySem.Stmt}{es:Array (Int×PySem.Value)}{body:List PySem.Stmt}{tk:PySem.Tok}{mA mg:PySem.Str->Option PySem.Value}{kw:List (PySem.Str×PySem.Value)}{env:PySem.Env}{d1 d2 d3 d4 d5 d6 fd:PySem.FuncData}{outer:List PySem.Env}{scope:PySem.Scope}{T:String}{XP:(PySem.Str->Option PySem.Value)->PySem.Heap->Prop}{YP:PySem.World->PySem.Heap->Prop}{B:Prop}{ix:List Nat}{elts:List PySem.Expr}{wd:Int}
section
open PySem PySem.Spec PyProof.Rows
def A0a:=@wpAny_bind
def A0b:=@Heap.get?_push_of_some
def A0c:=@List.mem_cons
def A0d:=@wpAny_pure
def A0e:=@List.mem_singleton
def A0f:=@if_neg
def A0g:=@Nat.le_refl
def A0h:=@List.mem_map
def A0i:=@if_pos
def A0j:=@List.not_mem_nil
def A0k:=@Ne.symm
def A0l:=@List.mem_cons_self
def A0m:=@Heap.get?_push_size
def A0n:=@Bool.false_ne_true
def A0o:=@Nat.lt_of_lt_of_le
def A0p:=@List.getElem?_eq_some_iff
def A0q:=@Heap.lt_size
def A0r:=@List.map_cons
def A0s:=@List.length_filter_le
def A0t:=@decide_eq_true
def A0u:=@List.mem_append
def A0v:=@List.size_toArray
def A0w:=@List.length_singleton
def A0x:=@Int.emod_lt_of_pos
def A0y:=@List.mem_filter
def A0z:=@List.nodup_cons
def A0G:=@List.sum_cons
def A0H:=@List.mem_append_right
def A0I:=@Nat.ne_of_lt
def A0J:=@PySem.F.plainAttrs_list
def A0K:=@decide_eq_false
def A0L:=@Nat.le_trans
def A0M:=@PassesOwn.never
def A0N:=@List.map_map
def A0O:=@Option.some.inj
def A0P:=@Int.emod_nonneg
def A0Q:=@Nat.lt_of_le_of_lt
def A0R:=@PySem.F.slot_list_append
def A0S:=@PySem.F.type_list_append
def A0T:=@List.length_take
def A0U:=@Array.length_toList
def A0V:=@or_false
def A0W:=@List.pairwise_iff_getElem
def A0X:=@wpAny_call_entry
def A0Y:=@List.lookup_cons
def A0Z:=@wpAny_callSpecial?_slot
def A1a:=@PySem.mem_of_lookup
def A1b:=@Option.map_eq_some_iff
def A1c:=@Nat.le_of_ble_eq_true
def A1d:=@Nat.lt_of_sub_eq_succ
def A1e:=@List.map_congr_left
def A1f:=@List.foldl_cons
def A1g:=@wpAny_newObj_type
def A1h:=@Nat.lt_irrefl
def A1i:=@Nat.zero_le
def A1j:=@wpAny_mono
def A1k:=@List.getElem?_append_right
def A1l:=@List.length_drop
def A1m:=@PySem.boot_len
def A1n:=@List.replicate_succ
def A1o:=@PySem.W.kia_one
def A1p:=@Calls.callWith_builtin
def A1q:=@wpAny_field
def A1r:=@congrArg
def A1s:=@Heap.size_push
def A1t:=@Bool.false_eq_true
def A1u:=@PySem.F.called_set
def A1v:=@Bool.and_eq_true
def A1w:=@List.all_eq_true
def A1x:=@List.take_length
def A1y:=@List.find?_cons_of_pos
def A1z:=@List.find?_cons_of_neg
def A1G:=@Heap.SameBut.update
def A1H:=@sizeLine_eq
def A1I:=@Nat.min_eq_left
def A1J:=@Array.getElem?_eq_getElem
def A1K:=@List.length_replicate
def A1L:=@Heap.get?_update_self
def A1M:=@List.getElem?_eq_none
def A1N:=@wpAny_askSetting
def A1O:=@Nat.le_of_lt
def A1P:=@wpAny_truthy_bool
def A1Q:=@Int.toNat_natCast
def A1R:=@PySem.F.plainAttrs_dict
def A1S:=@List.take_add_one
def A1T:=@List.filter_cons_of_pos
def A1U:=@List.find?_cons
def A1V:=@beq_eq_false_iff_ne
def A1W:=@PyProof.Rows.F.plain_set_update_loop
def A1X:=@PyProof.Rows.callWith_type1
def A1Y:=@wpAny_standAt
def A1Z:=@List.getElem_mem
def A2a:=@F.slot_tuple_iterator_next
def A2b:=@wpAny_seqItems
def A2c:=@wpAny_setField
def A2d:=@wpAny_setField_rec
def A2e:=@List.getElem?_append_left
def A2f:=@wpAny_passesOwn
def A2g:=@Bool.eq_iff_iff
def A2h:=@List.append_nil
def A2i:=@List.flatten_cons
def A2j:=@List.mem_of_mem_drop
def A2k:=@Nat.pow_le_pow_right
def A2l:=@wpAny_setState_of
def A2m:=@decide_eq_true_eq
def A2n:=@Around.under_plainId
def A2o:=@List.nodup_append
def A2p:=@Option.isSome_iff_exists
def A2q:=@wpAny_holding
def A2r:=@List.eq_of_mem_replicate
def A2s:=@PySem.F.slot_dict_values
def A2t:=@PyProof.Rows.slot_tuple_getitem
def A2u:=@List.filterMap_cons
def A2v:=@wpAny_setEntries_of
def A2w:=@Nat.lt_succ_self
def A2x:=@wpAny_Call_method0_late
def A2y:=@beq_self_eq_true
def A2z:=@List.getElem?_cons_zero
def A2G:=@Bool.and_false
def A2H:=@List.filter_cons_of_neg
def A2I:=@PySem.F.slot_list_clear
def A2J:=@PySem.F.type_list_clear
def A2K:=@Int.mul_pos
def A2L:=@Nat.ne_of_gt
def A2M:=@tupleKind_room_in1
def A2N:=@Int.mul_comm
def A2O:=@List.length_pos_of_mem
def A2P:=@decide_eq_true_iff
def A2Q:=@F.slot_zip_next
def A2R:=@codeAny_builtin
def A2S:=@List.sum_append
def A2T:=@List.any_cons
def A2U:=@wpAny_attempt
def A2V:=@Int.mul_assoc
def A2W:=@Array.getElem?_toList
def A2X:=@wpAny_pyIter_list
def A2Y:=@Nat.lt_succ_of_lt
def A2Z:=@List.mem_append_left
def A3a:=@Bool.false_and
def A3b:=@if_false
def A3c:=@List.mem_of_mem_take
def A3d:=@List.foldl_nil
def A3e:=@Array.perm_iff_toList_perm
def A3f:=@if_true
def A3g:=@call_meetsIn
def A3h:=@decide_eq_decide
def A3i:=@Int.zero_add
def A3j:=@Value.isStrOf_shape
def A3k:=@PySem.evalArgs_none
def A3l:=@Heap.get?_update_ne
def A3m:=@PyProof.Rows.F.entry_set_update_loop
def A3n:=@PySem.F.slot_dict_valueiterator_iter
def A3o:=@PySem.F.slot_dict_itemiterator_iter
def A3p:=@List.length_nil
def A3q:=@List.filter_map
def A3r:=@wpAny_rule
def A3s:=@beq_iff_eq
def A3t:=@Calls.spliced_cons
def A3u:=@wpAny_Call_Name_kw
def A3v:=@not_or
def A3w:=@Nat.lt_or_gt_of_ne
def A3x:=@Nat.le_succ
def A3y:=@List.getElem?_replicate
def A3z:=@List.getElem?_cons_succ
def A3G:=@List.pairwise_singleton
def A3H:=@codeAny_mono
def A3I:=@Heap.get?_update_other
def A3J:=@List.length_range
def A3K:=@List.take_of_length_le
def A3L:=@wpAny_pyIter_slot
def A3M:=@List.foldl_append
def A3N:=@Array.getElem?_eq_none
def A3O:=@List.getElem?_set
def A3P:=@PySem.F.slot_dict_get
def A3Q:=@List.mem_iff_getElem?
def A3R:=@wpAny_isInstance
def A3S:=@Paired.length
def A3T:=@plainId_quiet
def A3U:=@List.getElem?_set_ne
def A3V:=@Calls.evalArgs_plain
def A3W:=@wpAny_updateSeq_pair
def A3X:=@wpAny_execs_nil
def A3Y:=@F.args_tuple_iterator_next_1
def A3Z:=@Option.map_some
def A4a:=@PySem.W.plainGet_of
def A4b:=@List.map_nil
def A4c:=@F.entry_tuple_iterator_next
def A4d:=@Array.getD_eq_getD_getElem?
def A4e:=@List.mem_range
def A4f:=@Calls.Name_function_global
def A4g:=@assignInOrder_cons
def A4h:=@List.mem_filterMap
def A4i:=@PySem.W.callWith_K
def A4j:=@entryFor_alias
def A4k:=@List.filter_append
def A4l:=@List.map_replicate
def A4m:=@of_decide_eq_false
def A4n:=@List.Perm.refl
def A4o:=@List.length_eraseIdx_of_lt
def A4p:=@wpAny_fieldsOf
def A4q:=@PySem.F.args_dict_values_1
def A4r:=@List.nodup_nil
def A4s:=@List.zip_nil_right
def A4t:=@Calls.spliced_nil
def A4u:=@List.take_sublist
def A4v:=@slot_list_getitem
def A4w:=@List.append_assoc
def A4x:=@F.args_zip_next_1
def A4y:=@Option.isSome_map
def A4z:=@Bool.eq_false_iff
def A4G:=@dif_pos
def A4H:=@bne_self_eq_false
def A4I:=@List.filter_congr
def A4J:=@wpAny_onRaise
def A4K:=@List.map_take
def A4L:=@F.entry_zip_next
def A4M:=@List.getElem_map
def A4N:=@wpAny_load
def A4O:=@strKind_is
def A4P:=@Int.ne_of_gt
def A4Q:=@Nat.sub_self
def A4R:=@List.of_mem_zip
def A4S:=@List.forIn_cons
def A4T:=@wpAny_ite_split
def A4U:=@codeAny_of_tree
end
namespace L2
open PySem PySem.Spec PyProof.Rows
abbrev Key:=Sum Int Str
def rW:Key->Value->Bool
 | .inl k,v=>Value.isInt k v
 | .inr x,v=>Value.isStrOf x v
def keyH(w:World):Key->Int
 | .inl k=>hashInt k
 | .inr x=>hashStr w x
theorem dD:∀{k:Key}{v:Value},rW k v=true->(∃i t,k=Sum.inl i/\v=Value.int i t)\/(∃x t,k=Sum.inr x/\v=Value.str x t)
 | .inl i,v,h=>by
  obtain⟨t,e⟩:=Value.isInt_shape (k:=i) (v:=v) h;exact .inl ⟨i,t,rfl,e⟩
 | .inr x,v,h=>by
  obtain⟨t,e⟩:=A3j (x:=x) (v:=v) h;exact .inr ⟨x,t,rfl,e⟩
def GF(i:Int)(t:Tok):rW (.inl i) (.int i t)=true:=by simp[rW,Value.isInt]
def GJ(x:Str)(t:Tok):rW (.inr x) (.str x t)=true:=by simp[rW,Value.isStrOf]
def Ur(a b:Int):decide ((Sum.inl a:Key)=Sum.inl b)=(a==b):=by
 by_cases e:a=b
 ·subst e;simp
 ·have h:¬(Sum.inl a:Key)=Sum.inl b:=fun q=>e (Sum.inl.inj q);rw[A0K h];exact(A1V.mpr e).symm
def Us(a b:Str):decide ((Sum.inr a:Key)=Sum.inr b)=decide (a=b):=by
 by_cases e:a=b
 ·subst e;simp
 ·have h:¬(Sum.inr a:Key)=Sum.inr b:=fun q=>e (Sum.inr.inj q);rw[A0K h,A0K e]
def Ut(a:Int)(b:Str):decide ((Sum.inl a:Key)=Sum.inr b)=false:=A0K (fun q=>nomatch q)
def Uu(a:Str)(b:Int):decide ((Sum.inr a:Key)=Sum.inl b)=false:=A0K (fun q=>nomatch q)
def bQ(prog:Program)(w:World):PySem.KeyKind prog w Key where
 is:=rW
 hash:=keyH w
 inj:=fun v a b ha hb=>by
  rcases dD ha with⟨i,t,rfl,rfl⟩|⟨x,t,rfl,rfl⟩
  ·rcases dD hb with⟨j,u,rfl,e⟩|⟨y,u,rfl,e⟩
   ·injection e with e1 _;rw[e1]
   ·exact nomatch e
  ·rcases dD hb with⟨j,u,rfl,e⟩|⟨y,u,rfl,e⟩
   ·exact nomatch e
   ·injection e with e1 _;rw[e1]
 byValue:=fun k v h=>by
  rcases dD h with⟨i,t,rfl,rfl⟩|⟨x,t,rfl,rfl⟩<;>rfl
 pyHash:=fun hv h=>by
  rcases dD hv with⟨i,t,rfl,rfl⟩|⟨x,t,rfl,rfl⟩
  ·exact wpAny_pyHash_int h
  ·exact wpAny_pyHash_str h
 eqBool:=fun hu hv h=>by
  rcases dD hu with⟨i,t,rfl,rfl⟩|⟨x,t,rfl,rfl⟩
  ·rcases dD hv with⟨j,u,rfl,rfl⟩|⟨y,u,rfl,rfl⟩
   ·rw[Ur]at h;exact wpAny_eqBool_int h
   ·rw[Ut]at h;exact SeqAt.EqAt.int_str i t y u _ _ _ _ h
  ·rcases dD hv with⟨j,u,rfl,rfl⟩|⟨y,u,rfl,rfl⟩
   ·rw[Uu]at h;exact SeqAt.EqAt.str_int x t j u _ _ _ _ h
   ·rw[Us]at h;exact wpAny_eqBool_str h
 «strs»:=fun k x t v h=>by
  rcases dD h with⟨i,u,rfl,e⟩|⟨y,u,rfl,e⟩
  ·exact nomatch e
  ·injection e with e1 _;subst e1;cases v<;>rfl
def yM(prog:Program)(w:World)(i:Int)(t:Tok):(bQ prog w).is (.inl i) (.int i t)=true:=GF i t
def yN(prog:Program)(w:World)(x:Str)(t:Tok):(bQ prog w).is (.inr x) (.str x t)=true:=GJ x t
inductive V where
 |non|bl (b:Bool)|int (i:Int)|str (x:Str)|DR (b:Array UInt8)|flt (b:UInt64)|ref (a:Addr)|ty (n:String)
 deriving DecidableEq
variable{xs ys:List V}{v y:V}{du ho kvs lo ow:List 0x45}
def RelV:V->Value->Prop
 | .non,u=>u=Value.none
 | .bl b,u=>u=Value.bool b
 | .int i,u=>∃t,u=Value.int i t
 | .str x,u=>∃t,u=Value.str x t
 | .DR b,u=>∃t,u=Value.bytes b t
 | .flt b,u=>∃t,u=Value.float b t
 | .ref a,u=>u=Value.ref a
 | .ty n,u=>u=Value.type n
abbrev Vals:List V->List Value->Prop:=Paired RelV
def Vals.length(r:Vals xs us):xs.length=us.length:=A3S r
theorem Vals.get:∀{xs:List V}{us:List Value}{i:Nat}{x:V},Vals xs us->xs[i]?=some x->∃u,us[i]?=some u/\RelV x u
 |_,_,_,_,.nil,e=>by simp at e
 |_,_,0,_,.cons r _,e=>by simp at e;subst e;exact⟨_,rfl,r⟩
 | _,_,i+1,x,.cons _ t,e=>by
  obtain⟨u,h1,h2⟩:=Vals.get (i:=i) (x:=x) t (by simpa using e);exact⟨u,by simpa using h1,h2⟩
theorem Vals.append:∀{xs ys:List V}{us ws:List Value},Vals xs us->Vals ys ws->Vals (xs++ys) (us++ws)
 |_,_,_,_,.nil,s=>s
 |_,_,_,_,.cons r t,s=>.cons r (Vals.append t s)
theorem Vals.take:∀{xs:List V}{us:List Value}(n:Nat),Vals xs us->Vals (xs.take n) (us.take n)
 |_,_,0,_=>.nil
 |_,_,_+1,.nil=>.nil
 |_,_,n+1,.cons r t=>.cons r (Vals.take n t)
theorem Vals.drop:∀{xs:List V}{us:List Value}(n:Nat),Vals xs us->Vals (xs.drop n) (us.drop n)
 |_,_,0,r=>r
 |_,_,_+1,.nil=>.nil
 |_,_,n+1,.cons _ t=>Vals.drop n t
def Vals.none_of:∀{xs:List V}{us:List Value}{i:Nat},Vals xs us->xs[i]?=none->us[i]?=none:=fun{xs us i}r e=>by
 have h1:=r.length;have h2:xs.length<=i:=List.getElem?_eq_none_iff.mp e;exact List.getElem?_eq_none_iff.mpr 0x1
def j8:Option V->Option Value->Prop
 |some v,some u=>RelV v u
 |none,none=>True
 |_,_=>False
def KV{κ:Type}:List (κ×V)->List (κ×Value)->Prop:=Paired fun(p:κ×V)(q:κ×Value)=>p.1=q.1/\RelV p.2 q.2
def kV:Key->V
 | .inl i=>.int i
 | .inr x=>.str x
inductive HO where
 |lst (xs:List V)
 |tup (xs:List V)
 |dK (kvs:List 0x45)|dT (kvs:List (List Key×V))
 |set (S:Int->Bool) (n:Nat)
 |ins (C dx:Addr) (fs:List (Str×V))
 |own (x:Addr)
 |xd (fs:List (Str×V))
 |met (f x:Addr)
 |rng (lo hi:Int)
 |gD (o:Obj) (u:HO)
 |SX (ps:Array Value)
 |ext (φ:Heap->Prop)
variable{o:HO}
abbrev Hp:=Addr->Option HO
variable{H H' H1 H2:Hp}
def upd(H:Hp)(a:Addr)(o:HO):Hp:=fun b=>if b=a then some o else H b
def ao:upd H a o a=some o:=by unfold upd;rw[A0i rfl]
def ak(h:b≠a):upd H a o b=H b:=by unfold upd;rw[A0f h]
def bB{u:HO}(h:H a=some o)(h':H b=some u)(d:o≠u):a≠b:=by
 intro e;subst e;rw[h]at h';exact d (A0O h')
def aA(h:H a=some o)(h':H b=none):a≠b:=by
 intro e;subst e;rw[h]at h';cases h'
section
variable(P:Program)(w:World)
def cI(H:Hp)(h:Heap)(a:Addr):HO->Prop
 | .lst xs=>xs.length<=sizeLine/\∃(its:List Value)(n:Nat),Vals xs its/\h.get? a=some {cls:=.type "list",data:=.seq its.toArray n}
 | .tup xs=>xs.length<=sizeLine/\∃its:List Value,Vals xs its/\IsTup h a its.toArray
 | .dK kvs=>kvs.length<=sizeLine/\0x7D=false/\∃vs,KV kvs vs/\h.DictOf (bQ P w) a vs
 | .dT kvs=>kvs.length<=sizeLine/\0x7D=false/\∃xs:List 0x8F,
   Paired (fun(p:List Key×V)(q:List Key×Addr×Value)=>p.1=q.1/\H q.2.1=some (.tup (p.1.map kV))/\RelV p.2 q.2.2) kvs xs/\
   ∃o es ep,h.get? a=some o/\o.ExactDict/\o.data=.dict es ep/\es.toList=xs.map (entryOfKey (tupleKind (bQ P w)))/\(xs.map (·.1)).Nodup
 | .set S n=>h.SetOf (intKind P w) a S n
 | .ins C dx fs=>H dx=some (.own a)/\fs.length<=1000/\dx≠a/\h.get? a=some (PySem.W.instObj C dx)/\
   ∃mA,h.Ns1 dx mA/\(∀f,j8 (fs.lookup f) (mA f))/\PySem.Within mA (fs.map (·.1))
 | .own _=>∃o,h.get? a=some o
 | .xd fs=>∃mA,h.Ns1 a mA/\∀f,j8 (fs.lookup f) (mA f)
 | .rng lo hi=>∃t u v,h.get? a=some {cls:=.type "range",data:=.fields #[.int lo t,.int hi u,.int 1 v]}
 | .gD o u=>h.get? a=some o/\cI H h a u
 | .SX ps=>h.get? a=some {cls:=.none,data:=.fields ps}
 | .met f x=>h.get? a=some (PySem.W.methodObj 0x75 (.ref x))
 | .ext φ=>φ h/\(∃o,h.get? a=some o)/\∀h1 h2:Heap,φ h1->(∀o,h1.get? a=some o->h2.get? a=some o)->φ h2
def nP(H:Hp)(h:Heap):Prop:=∀a o,H a=some o->cI P w H h a o
end
def cI.lt(x:cI P w H h a o):a<h.objs.size:=by
 cases o with
 |lst xs=>obtain⟨_,_,_,_,e⟩:=x;exact A0q e
 |tup xs=>obtain⟨_,_,_,p⟩:=x;exact p.lt
 |dK kvs=>obtain⟨_,_,_,_,o,_,_,e,_⟩:=x;exact A0q e
 |dT kvs=>obtain⟨_,_,_,_,o,_,_,e,_⟩:=x;exact A0q e
 |set S n=>obtain⟨o,_,_,_,e,_⟩:=x;exact A0q e
 |ins C dx fs=>obtain⟨_,_,_,e,_⟩:=x;exact A0q e
 |own y=>obtain⟨_,e⟩:=x;exact A0q e
 |xd fs=>obtain⟨_,⟨_,_,_,e,_⟩,_⟩:=x;exact A0q e
 |rng lo hi=>obtain⟨_,_,_,e⟩:=x;exact A0q e
 |gD ob u=>obtain⟨e,_⟩:=x;exact A0q e
 |SX ps=>exact A0q (show h.get? a=some _ from x)
 |met f y=>exact A0q (show h.get? a=some _ from x)
 |ext φ=>obtain⟨_,⟨_,e⟩,_⟩:=x;exact A0q e
theorem Paired.Uv{α β:Type}{F G:α->β->Prop}:∀{l₁:List α}{l₂:List β},Paired F l₁ l₂->(∀a b,F a b->G a b)->Paired G l₁ l₂
 |_,_,.nil,_=>.nil
 |_,_,.cons r t,f=>.cons (f _ _ r) (Paired.Uv t f)
def cI.stay(x:cI P w H h a o)(k:∀b u,(b=a\/H b=some (.own a))->h.get? b=some u->h'.get? b=some u)
  (ho:∀b,H b=some (.own a)->H' b=some (.own a))(ht:∀b xs,H b=some 0x52->H' b=some 0x52):cI P w H' h' a o:=by
 induction o with
 |lst xs=>obtain⟨z,its,n,r,e⟩:=x;exact⟨z,its,n,r,k _ _ 0x6F e⟩
 |tup xs=>obtain⟨z,its,r,ob,e,c⟩:=x;exact⟨z,its,r,ob,k _ _ 0x6F e,c⟩
 |dK kvs=>obtain⟨z,y,vs,r,ob,es,ep,e,c⟩:=x;exact⟨z,y,vs,r,ob,es,ep,k _ _ 0x6F e,c⟩
 | dT kvs=>
  obtain⟨z,y,xs,r,ob,es,ep,e,c⟩:=x;exact⟨z,y,xs,Paired.Uv r fun p q z=>⟨z.1,ht _ _ z.2.1,z.2.2⟩,ob,es,ep,k _ _ 0x6F e,c⟩
 |set S n=>obtain⟨ob,es,ep,t,e,c⟩:=x;exact⟨ob,es,ep,t,k _ _ 0x6F e,c⟩
 | ins C dx fs=>
  obtain⟨d,z,ne,e,mA,⟨od,es,ep,e2,c⟩,r⟩:=x;exact⟨ho _ d,z,ne,k _ _ 0x6F e,mA,⟨od,es,ep,k _ _ (.inr d) e2,c⟩,r⟩
 |own y=>obtain⟨ob,e⟩:=x;exact⟨ob,k _ _ 0x6F e⟩
 |xd fs=>obtain⟨mA,⟨od,es,ep,e,c⟩,r⟩:=x;exact⟨mA,⟨od,es,ep,k _ _ 0x6F e,c⟩,r⟩
 |rng lo hi=>obtain⟨t,u,v,e⟩:=x;exact⟨t,u,v,k _ _ 0x6F e⟩
 |gD ob u ih=>obtain⟨e,q⟩:=x;exact⟨k _ _ 0x6F e,ih q⟩
 | SX ps=>
  have e:h.get? a=some {cls:=.none,data:=.fields ps}:=x
  show h'.get? a=some {cls:=.none,data:=.fields ps}
  exact k a _ 0x6F e
 | met f y=>
  have e:h.get? a=some (PySem.W.methodObj 0x75 (.ref y)):=x
  show h'.get? a=some (PySem.W.methodObj 0x75 (.ref y))
  exact k a _ 0x6F e
 |ext φ=>obtain⟨p,⟨o,e⟩,st⟩:=x;exact⟨st _ _ p fun o q=>k _ _ 0x6F q,⟨o,k _ _ 0x6F e⟩,st⟩
def nP.lt(x:nP P w H h)(e:H a=some o):a<h.objs.size:=(x a o e).lt
def nP.fresh(x:nP P w H h)(e:h.objs.size<=a):H a=none:=by
 cases q:H a with
 |none=>rfl
 |some u=>exact absurd (A0o (x.lt q) e) (A1h _)
def nP.kept(x:nP P w H h)(k:∀b u,h.get? b=some u->h'.get? b=some u):nP P w H h':=fun a o e=>
 (x a o e).stay (fun b u _ q=>k b u q) (fun _ q=>q) fun _ _ q=>q
def nP.laid(x:nP P w H h)(k:∀b u,h.get? b=some u->h'.get? b=some u)(hp:h.objs.size<=a)(new:cI P w (upd H a o) h' a o):nP P w (upd H a o) h':=fun b u e=>by
 have hn:=x.fresh hp
 by_cases hb:b=a
 ·subst hb;rw[ao]at e;cases e;exact new
 ·rw[ak hb]at e;exact(x b u e).stay (fun c v _ q=>k c v q) (fun c q=>by rw[ak (aA q hn)];exact q) fun c xs q=>by rw[ak (aA q hn)];exact q
def Rd(H:Hp)(a:Addr)(u:HO):Prop:=H a=some u\/∃o,H a=some (.gD o u)
def Rd.ok{u:HO}(r:Rd H a u)(x:nP P w H h):cI P w H h a u:=by
 rcases r with r|⟨o,r⟩
 ·exact x a u r
 ·obtain⟨_,q⟩:=x a _ r;exact q
def Yp:Option HO->Prop
 |some (.lst _)=>True
 |some (.dK _)=>True
 |some (.dT _)=>True
 |some (.set _ _)=>True
 |some (.ins _ _ _)=>True
 |some (.ext _)=>True
 |_=>False
section
variable{x e:Addr}{o':HO}
def nP.write(ok:nP P w H h)(mu:Yp (H x))(he:e=x\/H e=some (.own x))(k:∀b u,b≠e->h.get? b=some u->h'.get? b=some u)(heo:∃u,h'.get? e=some u)
  (new:cI P w (upd H x o') h' x o'):nP P w (upd H x o') h':=fun b u q=>by
 have Yq:∀c y,H c=some (.own y)->c≠x:=fun c y r z=>by subst z;rw[r]at mu;exact mu
 have ntup:∀c xs,H c=some 0x52->c≠x:=fun c xs r z=>by subst z;rw[r]at mu;exact mu
 by_cases hb:b=x
 ·subst hb;rw[ao]at q;cases q;exact new
 ·rw [ak hb]at q
  by_cases hbe:b=e
  ·have q':H b=some (.own x):=by
    rcases he with z|z
    ·exact absurd (hbe.trans z) hb
    ·rw[hbe];exact z
   rw[q]at q';cases q';obtain⟨v,hv⟩:=heo;exact⟨v,by rw[hbe];exact hv⟩
  ·refine(ok b u q).stay (fun c v hc r=>k c v ?_ r) (fun c r=>by rw[ak (Yq c b r)];exact r) fun c xs r=>by rw[ak (ntup c xs r)];exact r
   rcases hc with rfl|hc
   ·exact hbe
   ·rintro rfl;rcases he with z|z
    ·exact Yq c b hc z
    ·rw[hc]at z;cases z;exact hb rfl
end
structure Un(fs ex:List Addr)(H H':Hp)(h h':Heap):Prop where
 keep:∀b o,h.get? b=some o->H b=none->b∉fs->b∉ex->h'.get? b=some o
 slot:∀b o,h.get? b=some o->H b=none->b∈fs->b∉ex->∃sl,h'.get? b=some {o with slots:=sl}
 free:∀b o,h.get? b=some o->H b=none->b∉ex->H' b=none
 there:∀b o,h.get? b=some o->b∉ex->∃o',h'.get? b=some o'
 tups:∀b xs,H b=some 0x52->H' b=some 0x52
 rY:∀b o u,H b=some (.gD o u)->H' b=some (.gD o u)
 wG:∀b ps,H b=some (.SX ps)->∃more,H' b=some (.SX (ps++more))
section
variable{fs fs' ex ex':List Addr}{h2:Heap}{x e:Addr}
def Un.any(u:Un fs ex H H1 h h1){ob:Obj}(q:h.get? b=some ob)(n:H b=none)(hx:b∉ex):∃sl,h1.get? b=some {ob with slots:=sl}:=by
 by_cases hb:b∈fs
 ·exact u.slot b ob q n hb hx
 ·exact⟨ob.slots,u.keep b ob q n hb hx⟩
def Un.kept(k:∀b u,h.get? b=some u->h'.get? b=some u):Un fs ex H H h h':=
 ⟨fun b ob q _ _ _=>k b ob q,fun b ob q _ _ _=>⟨ob.slots,k b ob q⟩,fun _ _ _ n _=>n,fun b ob q _=>⟨ob,k b ob q⟩,fun _ _ q=>q,fun _ _ _ q=>q,fun _ ps q=>⟨#[],by rw[q];simp⟩⟩
def Un.refl:Un fs ex H H h h:=Un.kept fun _ _ q=>q
def Un.laid(k:∀b u,h.get? b=some u->h'.get? b=some u)(hp:h.objs.size<=a)(hn:H a=none):Un fs ex H (upd H a o) h h' where
 keep:=fun b u q _ _ _=>k b u q
 slot:=fun b u q _ _ _=>⟨u.slots,k b u q⟩
 free:=fun b u q n _=>by rw[ak (A0I (A0o (A0q q) hp))];exact n
 there:=fun b u q _=>⟨u,k b u q⟩
 tups:=fun b xs q=>by rw[ak (aA q hn)];exact q
 rY:=fun b u xs q=>by rw[ak (aA q hn)];exact q
 wG:=fun b ps q=>⟨#[],by rw[ak (aA q hn),q];simp⟩
def Un.write(mu:Yp (H x))(he:e=x\/H e=some (.own x))(k:∀b u,b≠e->h.get? b=some u->h'.get? b=some u)(heo:∃u,h'.get? e=some u):Un fs ex H (upd H x o) h h':=by
 have hx:∀b,H b=none->b≠x:=fun b n z=>by subst z;rw[n]at mu;exact mu
 have hb:∀b,H b=none->b≠e:=fun b n z=>by
  subst z;rcases he with r|r
  ·exact hx b n r
  ·rw[n]at r;cases r
 have hm:∀b u,H b=some u->¬Yp (some u)->b≠x:=fun b u q nm z=>by subst z;rw[q]at mu;exact nm mu
 refine⟨fun b u q n _ _=>k b u (hb b n) q,fun b u q n _ _=>⟨u.slots,k b u (hb b n) q⟩,fun b u q n _=>by rw[ak (hx b n)];exact n,fun b u q _=>?_,
  fun b xs q=>by rw[ak (hm b _ q fun z=>z)];exact q,fun b u xs q=>by rw[ak (hm b _ q fun z=>z)];exact q,fun b ps q=>⟨#[],by rw[ak (hm b _ q fun z=>z),q];simp⟩⟩
 by_cases hbe:b=e
 ·subst hbe;exact heo
 ·exact⟨u,k b u hbe q⟩
end
def trk(h:Heap)(H:Hp):List Addr:=(List.range h.objs.size).filter fun a=>(H a).isSome
def wH(h:Heap)(H:Hp):Heap:=PySem.W.hideAll h (trk h H)
def GK(h:Heap)(H:Hp):(wH h H).objs.size=h.objs.size:=PySem.W.hideAll_size _ _
def Jk{o:Obj}(e:h.get? b=some o)(n:H b=none):(wH h H).get? b=some o:=
 PySem.W.hideAll_get _ e fun hm=>by
  have q:(H b).isSome=true:=(A0y.mp hm).2;rw[n]at q;simp at q
def Px{o:Obj}(e:(wH h H).get? b=some o):h.get? b=some o/\H b=none:=by
 have e':h.get? b=some o:=PySem.W.of_hideAll (trk h H) e;refine⟨e',?_⟩;cases q:H b with
 |none=>rfl
 | some x=>
  have hm:b∈trk h H:=A0y.mpr ⟨A4e.mpr (A0q e'),by simp[q]⟩;have z:(wH h H).get? b=none:=PySem.W.hideAll_none (trk h H) hm;rw[z]at e;cases e
structure Mod(K:PySem.W.Frag)(mg:Str->Option Value)(base:Heap):Prop where
 kin:K.In base
 glob:base.Ns mainGlobals mg
 blt:∃mb,base.Ns builtinsNs mb/\∀x:Str,x≠"__name__"->mb x=bootBuiltins x
 nolimit:base.NoLimit
structure Cx where
 prog:Program
 w:World
 K:PySem.W.Frag
 mg:Str->Option Value
 base:Heap
 A:Around
 N:List Str
 s₀:Shared
 H₀:Hp
 env:Env
 outer:List Env
 stack:List Env
 ex:List Addr
 fn:Str->Bool
 calm:Bool
 pn:List 0x1E
 xe:Value->Shared->Prop
variable{X:Cx}
def frs(l:List Env):List Addr:=l.filterMap (·.frame)
abbrev Cx.fs(X:Cx):List Addr:=frs X.outer
def Vis(sc:Scope)(x:Str):Prop:=sc.names.lookup x=some .local\/sc.names.lookup x=some .cell\/sc.names.lookup x=some .free
def Loc(sc:Scope)(x:Str):Prop:=sc.names.lookup x=some .local\/sc.names.lookup x=some .cell
def Look(env:Env)(h:Heap)(m:Str->Option Value)(x:Str)(u:Value):Prop:=
 (env.kindOf x=some .local/\m x=some u)\/((env.kindOf x=some .cell\/env.kindOf x=some .free)/\∃c,env.cells.lookup x=some c/\h.IsCell c (some u))
structure Cx.Ok(X:Cx):Prop where
 mod:Mod X.K X.mg X.base
 kind:X.env.scope.kind=.function
 glob:X.env.globals=mainGlobals
 blt:X.env.builtins=builtinsNs
 above:X.s₀.heap.objs.size<=X.env.locals
 inj:∀x y c,X.env.cells.lookup x=some c->X.env.cells.lookup y=some c->x=y
 has:∀x,(X.env.kindOf x=some .cell\/X.env.kindOf x=some .free)->∃c,X.env.cells.lookup x=some c
 cab:∀x c,X.fn x=true->X.env.cells.lookup x=some c->X.s₀.heap.objs.size<=c
 hd:X.calm=true->X.A.handled=none
 frames:X.A.frames=some X.stack
 stk:X.stack=X.outer\/(X.stack=X.env::X.outer/\X.env.frame=some X.env.locals)
 Y5:∀b∈X.ex,b≠X.env.locals/\∀x c,X.env.cells.lookup x=some c->c≠b
 bs:∀b o,X.base.get? b=some o->X.s₀.heap.get? b=some o/\X.H₀ b=none
 Pj:X.base.objs.size<=X.s₀.heap.objs.size
 Bf:∀b o,X.base.get? b=some o->b∉X.ex
 GP:∀b∈X.ex,b∉X.fs
 qY:X.s₀.heap.FunFrames X.base X.outer
 Uw:∀b∈X.fs,X.H₀ b=none
structure Inv(X:Cx)(pins:List 0x1E)(σ:List (Option V))(H:Hp)(s:Shared):Prop where
 ok:X.Ok
 os:s.os=X.s₀.os
 bare:AllBare s.gens
 base:Un X.fs X.ex X.H₀ H X.s₀.heap s.heap
 loc:∃m,s.heap.Ns X.env.locals m/\∀(i:Nat)(x:Str)(v:V),X.N[i]?=some x->σ[i]?=some 0x8B->Vis X.env.scope x->∃u,RelV v u/\Look X.env s.heap m x u
 cell:∀x c,X.env.cells.lookup x=some c->∃v,s.heap.IsCell c v
 free:H X.env.locals=none
 jA:∀x c,X.env.cells.lookup x=some c->H c=none
 pin:∀p∈X.pn++pins,s.heap.get? p.1=some p.2/\H p.1=none/\p.1≠X.env.locals/\p.1∉X.fs/\∀v,p.2.data≠.cell v
 hok:nP X.prog X.w H s.heap
 len:σ.length=X.N.length
section
variable{σ:List (Option V)}
def Cx.Ok.nofr(ok:X.Ok){o:Obj}(e:X.base.get? b=some o):b∉X.fs:=fun hb=>by
 have:=(ok.qY.mem hb).1;rw[e]at this;cases this
def Inv.bs(I:Inv X pins σ H s):∀b o,X.base.get? b=some o->s.heap.get? b=some o/\H b=none:=fun b o e=>
 ⟨I.base.keep b o (I.ok.bs b o e).1 (I.ok.bs b o e).2 (I.ok.nofr e) (I.ok.Bf b o e),I.base.free b o (I.ok.bs b o e).1 (I.ok.bs b o e).2 (I.ok.Bf b o e)⟩
def Inv.bk(I:Inv X pins σ H s):∀b o,X.base.get? b=some o->s.heap.get? b=some o:=fun b o e=>(I.bs b o e).1
def Inv.mod(I:Inv X pins σ H s):Mod X.K X.mg X.base:=I.ok.mod
def Inv.pZ(I:Inv X pins σ H s):X.K.In s.heap:=I.ok.mod.kin.keeps I.bk
def Inv.fr(I:Inv X pins σ H s):∃m,Fr X.base X.env.locals s.heap m:=
 let⟨m,hn,_⟩:=I.loc
 ⟨m,hn,I.bk,A0L I.ok.Pj I.ok.above⟩
def Inv.lt(I:Inv X pins σ H s):X.env.locals<s.heap.objs.size:=let⟨_,hn,_⟩:=I.loc;hn.lt
def Inv.sz(I:Inv X pins σ H s):X.s₀.heap.objs.size<=s.heap.objs.size:=A0L I.ok.above (A1O I.lt)
def Inv.nofs(I:Inv X pins σ H s)(h:s.heap.objs.size<=a):a∉X.fs:=fun hb=>by
 obtain⟨_,o,ho,_⟩:=I.ok.qY.mem hb;exact absurd (A0o (A0q ho) (A0L I.sz h)) (A1h _)
def Inv.Ux(I:Inv X pins σ H s):∀x c,X.env.cells.lookup x=some c->c≠X.env.locals:=fun x c e z=>by
 obtain⟨v,o,ho,hd⟩:=I.cell x c e;obtain⟨m,⟨o',es,ep,ho',hd',_⟩,_⟩:=I.loc;rw[z,ho']at ho;cases ho;rw[hd']at hd;cases hd
def Inv.qY(I:Inv X pins σ H s):s.heap.FunFrames X.base X.outer:=by
 have all:∀(l:List Env),(∀b∈frs l,b∈X.fs)->X.s₀.heap.FunFrames X.base l->s.heap.FunFrames X.base l:=by
  intro l
  induction l with
  |nil=>intro _ _;trivial
  | cons env r ih=>
   intro hs hl;obtain⟨hk,⟨L,o,hf,hn,ho,hd⟩,hr⟩:=hl;have hL:L∈X.fs:=hs L (by unfold frs;rw[A2u,hf];exact A0l);obtain⟨sl,e⟩:=I.base.slot L o ho (I.ok.Uw L hL) hL fun z=>I.ok.GP L z hL;exact⟨hk,⟨L,_,hf,hn,e,hd⟩,ih (fun b hb=>hs b (by unfold frs;rw[A2u,hf];exact lH _ hb)) hr⟩
 exact all X.outer (fun _ hb=>hb) I.ok.qY
def Inv.stack(I:Inv X pins σ H s):s.heap.FunFrames X.base X.stack:=by
 rcases I.ok.stk with e|⟨e,hf⟩
 ·rw[e];exact I.qY
 ·rw[e];obtain⟨m,hn,_⟩:=I.loc;refine .cons (by rw[I.ok.kind];decide) hf hn ?_ I.qY;exact Heap.get?_none_of_le (A0L I.ok.Pj I.ok.above)
def Inv.wI(I:Inv X pins σ H s):∀b∈frs X.stack,b∈X.env.locals::X.fs:=fun b hb=>by
 rcases I.ok.stk with e|⟨e,hf⟩
 ·rw[e]at hb;exact lH _ hb
 ·rw[e]at hb;unfold frs at hb;rw[A2u,hf]at hb;exact hb
def Inv.wJ(I:Inv X pins σ H s):∀b∈frs X.stack,H b=none:=fun b hb=>by
 rcases A0c.mp (I.wI b hb)with e|hb
 ·rw[e];exact I.free
 ·obtain⟨_,o,ho,_⟩:=I.ok.qY.mem hb;exact I.base.free b o ho (I.ok.Uw b hb) fun z=>I.ok.GP b z hb
def Inv.step{g':Array GenState}{d':Drawn}(I:Inv X pins σ H s)
  (hch:∀b∈ch,(b∈X.ex\/X.s₀.heap.objs.size<=b)/\b≠X.env.locals/\(∀x c,X.env.cells.lookup x=some c->c≠b)/\∀p∈X.pn++pins,p.1≠b)
  (keep:∀b o,b≠X.env.locals->b∉X.fs->b∉ch->s.heap.get? b=some o->H b=none->h'.get? b=some o)
  (slot:∀b o,b≠X.env.locals->b∈X.fs->b∉ch->s.heap.get? b=some o->H b=none->∃sl,h'.get? b=some {o with slots:=sl})(free:∀b o,b∉ch->s.heap.get? b=some o->H b=none->H' b=none)
  (there:∀b o,b∉ch->s.heap.get? b=some o->∃o',h'.get? b=some o')
  (tups:∀b xs,H b=some 0x52->H' b=some 0x52)(rY:∀b o u,H b=some (.gD o u)->H' b=some (.gD o u))(wG:∀b ps,H b=some (.SX ps)->∃more,H' b=some (.SX (ps++more)))
  (ns:∀m,s.heap.Ns X.env.locals m->h'.Ns X.env.locals m)(hok:nP X.prog X.w H' h')(hg:AllBare g'):
  Inv X pins σ H' {s with heap:=h',gens:=g',drawn:=d',toks:=t'}:=by
 have neL:∀b o,X.s₀.heap.get? b=some o->b≠X.env.locals:=fun b o e=>A0I (A0o (A0q e) I.ok.above);have neC:∀b o,X.s₀.heap.get? b=some o->b∉X.ex->b∉ch:=fun b o e hx hb=>by
  rcases(hch b hb).1 with z|z
  ·exact hx z
  ·exact absurd (A0o (A0q e) z) (A1h _)
 have cellK:∀x c,X.env.cells.lookup x=some c->∀v,s.heap.IsCell c v->h'.IsCell c v:=fun x c e v ⟨o,ho,hd⟩=>by
  have Yr:c∉ch:=fun z=>(hch c z).2.2.1 x c e rfl
  by_cases hc:c∈X.fs
  ·obtain⟨sl,q⟩:=slot c o (I.Ux x c e) hc Yr ho (I.jA x c e);exact⟨_,q,hd⟩
  ·exact⟨o,keep c o (I.Ux x c e) hc Yr ho (I.jA x c e),hd⟩
 refine⟨I.ok,I.os,hg,⟨fun b o e n hb hx=>?_,fun b o e n hb hx=>?_,fun b o e n hx=>?_,fun b o e hx=>?_,fun b xs e=>tups b xs (I.base.tups b xs e),fun b o xs e=>rY b o xs (I.base.rY b o xs e),fun b ps e=>?_⟩,?_,fun x c e=>?_,?_,fun x c e=>?_,fun p hp=>?_,hok,I.len⟩
 ·exact keep b o (neL b o e) hb (neC b o e hx) (I.base.keep b o e n hb hx) (I.base.free b o e n hx)
 ·obtain⟨sl,e1⟩:=I.base.slot b o e n hb hx;obtain⟨sl',e2⟩:=slot b _ (neL b o e) hb (neC b o e hx) e1 (I.base.free b o e n hx);exact⟨sl',e2⟩
 ·obtain⟨o',e1⟩:=I.base.there b o e hx;exact free b o' (neC b o e hx) e1 (I.base.free b o e n hx)
 ·obtain⟨o',e1⟩:=I.base.there b o e hx;exact there b o' (neC b o e hx) e1
 ·obtain⟨m1,e1⟩:=I.base.wG b ps e;obtain⟨m2,e2⟩:=wG b _ e1;exact⟨m1++m2,by rw[e2,Array.append_assoc]⟩
 ·obtain⟨m,hn,hl⟩:=I.loc;refine⟨m,ns m hn,fun i x v e1 e2 e3=>?_⟩;obtain⟨u,r,l⟩:=hl i x v e1 e2 e3;refine⟨u,r,?_⟩;rcases l with l|⟨k,c,e,z⟩
  ·exact .inl l
  ·exact .inr ⟨k,c,e,cellK x c e _ z⟩
 ·obtain⟨v,z⟩:=I.cell x c e;exact⟨v,cellK x c e v z⟩
 ·obtain⟨m,⟨o,_,_,ho,_⟩,_⟩:=I.loc;exact free _ o (fun z=>(hch _ z).2.1 rfl) ho I.free
 ·obtain⟨v,o,ho,hd⟩:=I.cell x c e;exact free c o (fun z=>(hch c z).2.2.1 x c e rfl) ho (I.jA x c e)
 ·obtain⟨e,n,ne,nf,d⟩:=I.pin p hp;have Yr:p.1∉ch:=fun z=>(hch p.1 z).2.2.2 p hp rfl;exact⟨keep p.1 p.2 ne nf Yr e n,free p.1 p.2 Yr e n,ne,nf,d⟩
def Inv.un(I:Inv X pins σ H s)(u:Un X.fs [] H H' s.heap h')(hok:nP X.prog X.w H' h'):Inv X pins σ H' {s with heap:=h',toks:=t'}:=by
 obtain⟨m,⟨o,es,ep,ho,r⟩,_⟩:=id I.loc;obtain⟨sl,hL⟩:=u.any ho I.free 0x8;exact I.step (g':=s.gens) (d':=s.drawn) (ch:=[]) (fun _ z=>nomatch z) (fun b o _ hb _ e n=>u.keep b o e n hb 0x8) (fun b o _ hb _ e n=>u.slot b o e n hb 0x8) (fun b o _ e n=>u.free b o e n 0x8) (fun b o _ e=>u.there b o e 0x8) u.tups u.rY u.wG (fun m' hm=>by
  obtain⟨o',es',ep',ho',r'⟩:=hm;rw[ho]at ho';cases ho';exact⟨_,es',ep',hL,r'⟩) hok I.bare
def Inv.call{g':Array GenState}{d':Drawn}(I:Inv X pins σ H s)(u:Un (frs X.stack) ch H H' s.heap h')(hok:nP X.prog X.w H' h')(hg:AllBare g')
  (hch:∀b∈ch,(b∈X.ex\/X.s₀.heap.objs.size<=b)/\b≠X.env.locals/\(∀x c,X.env.cells.lookup x=some c->c≠b)/\∀p∈X.pn++pins,p.1≠b):
  Inv X pins σ H' {s with heap:=h',gens:=g',drawn:=d',toks:=t'}:=by
 obtain⟨m,⟨o,es,ep,ho,r⟩,_⟩:=id I.loc;obtain⟨sl,hL⟩:=u.any ho I.free fun z=>(hch _ z).2.1 rfl;exact I.step (ch:=ch) hch (fun b o hL hb hc e n=>u.keep b o e n (fun z=>(A0c.mp (I.wI b z)).elim hL hb) hc) (fun b o _ _ hc e n=>u.any e n hc) (fun b o hc e n=>u.free b o e n hc) (fun b o hc e=>u.there b o e hc) u.tups u.rY u.wG (fun m' hm=>by
  obtain⟨o',es',ep',ho',r'⟩:=hm;rw[ho]at ho';cases ho';exact⟨_,es',ep',hL,r'⟩) hok hg
def Inv.turned(I:Inv X pins σ H s)(k:∀b o,b≠it->s.heap.get? b=some o->h'.get? b=some o)(hn:H it=none)(hL:it≠X.env.locals)
  (h1:it∈X.ex\/X.s₀.heap.objs.size<=it)(h2:∀x c,X.env.cells.lookup x=some c->c≠it)(h3:∀p∈X.pn++pins,p.1≠it):Inv X pins σ H {s with heap:=h',toks:=t'}:=by
 have Y6:∀b u,H b=some u->b≠it:=fun b u e z=>by rw[z,hn]at e;cases e
 refine I.step (g':=s.gens) (d':=s.drawn) (ch:=[it]) (fun b hb=>?_) (fun b o _ _ hc e _=>k b o (fun z=>hc (by simp[z])) e) (fun b o _ _ hc e _=>⟨o.slots,k b o (fun z=>hc (by simp[z])) e⟩) (fun _ _ _ _ n=>n)
  (fun b o hc e=>⟨o,k b o (fun z=>hc (by simp[z])) e⟩) (fun _ _ e=>e) (fun _ _ _ e=>e) (fun b ps e=>⟨#[],by rw[e];simp⟩) (fun m hm=>?_) (fun b u e=>?_) I.bare
 ·have e:b=it:=by simpa using hb
  subst e;exact⟨h1,hL,h2,h3⟩
 ·obtain⟨o,es,ep,ho,r⟩:=hm;exact⟨o,es,ep,k _ o (A0k hL) ho,r⟩
 ·refine(I.hok b u e).stay (fun c v hc q=>k c v ?_ q) (fun _ q=>q) fun _ _ q=>q;rcases hc with z|z
  ·rw[z];exact Y6 b u e
  ·exact Y6 c _ z
def Inv.tok(I:Inv X pins σ H s)(t:Nat):Inv X pins σ H {s with toks:=t}:=I.un (h':=s.heap) (t':=t) Un.refl I.hok
def Inv.kept(I:Inv X pins σ H s)(k:∀b u,s.heap.get? b=some u->h'.get? b=some u):Inv X pins σ H {s with heap:=h',toks:=t'}:=I.un (Un.kept k) (I.hok.kept k)
def Inv.laid(I:Inv X pins σ H s)(k:∀b u,s.heap.get? b=some u->h'.get? b=some u)(hp:s.heap.objs.size<=a)(new:cI X.prog X.w (upd H a o) h' a o):
  Inv X pins σ (upd H a o) {s with heap:=h',toks:=t'}:=I.un (Un.laid k hp (I.hok.fresh hp)) (I.hok.laid k hp new)
def Inv.write{x e:Addr}(I:Inv X pins σ H s)(mu:Yp (H x))(he:e=x\/H e=some (.own x))(k:∀b u,b≠e->s.heap.get? b=some u->h'.get? b=some u)(heo:∃u,h'.get? e=some u)
  (new:cI X.prog X.w (upd H x o) h' x o):Inv X pins σ (upd H x o) {s with heap:=h',toks:=t'}:=I.un (Un.write mu he k heo) (I.hok.write mu he k heo new)
def Inv.weak{σ':List (Option V)}(I:Inv X pins σ H s)(hl:σ'.length=σ.length)(w:∀(i:Nat)v,σ'[i]?=some 0x8B->σ[i]?=some 0x8B):Inv X pins σ' H s:=
 ⟨I.ok,I.os,I.bare,I.base,let⟨m,hn,hl'⟩:=I.loc;⟨m,hn,fun i x v e1 e2 e3=>hl' i x v e1 (w i v e2) e3⟩,I.cell,I.free,I.jA,I.pin,I.hok,hl.trans I.len⟩
def Inv.DW{Jl:List 0x1E}(I:Inv X pins σ H s)(h:∀p∈Jl,s.heap.get? p.1=some p.2/\H p.1=none/\p.1≠X.env.locals/\p.1∉X.fs/\∀v,p.2.data≠.cell v):Inv X Jl σ H s:=
 ⟨I.ok,I.os,I.bare,I.base,I.loc,I.cell,I.free,I.jA,fun p hp=>(A0u.mp hp).elim (fun z=>I.pin p (A2Z _ z)) (h p),I.hok,I.len⟩
def yO(hN:N.Nodup)(a:N[i]?=some x)(b:N[j]?=some x):i=j:=by
 obtain⟨h1,e1⟩:=A0p.mp a;obtain⟨h2,e2⟩:=A0p.mp b;exact(List.getElem_inj hN).mp (e1.trans e2.symm)
def uU{M:Model}{Q:Unit->Shared->Prop}(I:Inv X pins σ H s)(hN:X.N.Nodup)(hi:X.N[i]?=some x)(hx:Loc X.env.scope x)(r:RelV v u)
  (h:∀s',Inv X pins (σ.set i 0x8B) H s'->(∃a,Heap.SameBut a s.heap s'.heap/\(a=X.env.locals\/X.env.cells.lookup x=some a))->Q () s')(hf:X.fn x=true\/X.env.scope.names.lookup x=some .local:=by first|exact .inl rfl|exact .inr rfl|assumption):wpAny M A (storeName X.env x u) Q E s:=by
 obtain⟨m,hn,hl⟩:=id I.loc;have hcls:(X.env.scope.kind==.class||(X.env.scope.kind==.module&&X.env.locals != X.env.globals))=false:=by rw[I.ok.kind];rfl
 have hiσ:i<σ.length:=by rw[I.len];exact(A0p.mp hi).1
 have Ux:=I.Ux;have tracked:∀{a:Addr}{h':Heap},(∃o,s.heap.get? a=some o/\H a=none)->Heap.SameBut a s.heap h'->nP X.prog X.w H h':=fun{a h'}ha hs b ob e=>by
  obtain⟨_,_,hfree⟩:=ha;refine(I.hok b ob e).stay (fun c w' hc q=>(hs.2 c ?_).trans q) (fun _ q=>q) fun _ _ q=>q;rintro rfl;rcases hc with rfl|hc
  ·rw[hfree]at e;cases e
  ·rw[hfree]at hc;cases hc
 rcases hx with hk|hk
 ·refine wpAny_storeName_local hk hn (fun h' hn' hs=>?_) hcls;obtain⟨oL,_,_,hoL,_⟩:=id hn;refine h _ ⟨I.ok,I.os,I.bare,⟨fun b o e n hb hx=>?_,fun b o e n hb hx=>?_,I.base.free,fun b o e hx=>?_,I.base.tups,I.base.rY,I.base.wG⟩,⟨_,hn',fun j y v' e1 e2 e3=>?_⟩,fun y c e=>?_,I.free,I.jA,fun p hp=>?_,tracked ⟨oL,hoL,I.free⟩ hs,by simpa using I.len⟩ ⟨_,hs,.inl rfl⟩
  ·exact(hs.2 b (A0I (A0o (A0q e) I.ok.above))).trans (I.base.keep b o e n hb hx)
  ·obtain⟨sl,e1⟩:=I.base.slot b o e n hb hx;exact⟨sl,(hs.2 b (A0I (A0o (A0q e) I.ok.above))).trans e1⟩
  ·obtain⟨o',e1⟩:=I.base.there b o e hx;exact⟨o',(hs.2 b (A0I (A0o (A0q e) I.ok.above))).trans e1⟩
  ·by_cases hj:j=i
   ·subst hj;rw[hi]at e1;cases e1;rw[List.getElem?_set_self hiσ]at e2;cases e2;exact⟨u,r,.inl ⟨hk,by simp⟩⟩
   ·rw[A3U (A0k hj)]at e2;obtain⟨u',r',q⟩:=hl j y v' e1 e2 e3;refine⟨u',r',?_⟩;rcases q with⟨k,e⟩|⟨k,c,e,z⟩
    ·refine .inl ⟨k,?_⟩;have:y≠x:=fun e=>hj (yO hN e1 (e▸ hi));simp[this,e]
    ·exact .inr ⟨k,c,e,z.sameBut hs (Ux y c e)⟩
  ·obtain⟨w',z⟩:=I.cell y c e;exact⟨w',z.sameBut hs (Ux y c e)⟩
  ·obtain⟨e,n,ne,nf,d⟩:=I.pin p hp;exact⟨(hs.2 p.1 ne).trans e,n,ne,nf,d⟩
 ·have hfn:X.fn x=true:=by
   rcases hf with z|z
   ·exact z
   ·rw[z]at hk;cases hk
  obtain⟨c,hc⟩:=I.ok.has x (.inl hk);obtain⟨w',z⟩:=I.cell x c hc;refine wpAny_storeName_cell I.ok.kind hk hc z (fun h' hc' hs=>?_);obtain⟨oc,hoc,hocd⟩:=id z;refine h {s with heap:=h'} ⟨I.ok,I.os,I.bare,⟨fun b o e n hb hx=>?_,fun b o e n hb hx=>?_,I.base.free,fun b o e hx=>?_,I.base.tups,I.base.rY,I.base.wG⟩,⟨m,hn.sameBut hs (A0k (Ux x c hc)),fun j y v' e1 e2 e3=>?_⟩,fun y c' e=>?_,I.free,I.jA,fun p hp=>?_,tracked ⟨oc,hoc,I.jA x c hc⟩ hs,by simpa using I.len⟩ ⟨c,hs,.inr hc⟩
  ·exact(hs.2 b (A0I (A0o (A0q e) (I.ok.cab x c hfn hc)))).trans (I.base.keep b o e n hb hx)
  ·obtain⟨sl,e1⟩:=I.base.slot b o e n hb hx;exact⟨sl,(hs.2 b (A0I (A0o (A0q e) (I.ok.cab x c hfn hc)))).trans e1⟩
  ·obtain⟨o',e1⟩:=I.base.there b o e hx;exact⟨o',(hs.2 b (A0I (A0o (A0q e) (I.ok.cab x c hfn hc)))).trans e1⟩
  ·by_cases hj:j=i
   ·subst hj;rw[hi]at e1;cases e1;rw[List.getElem?_set_self hiσ]at e2;cases e2;exact⟨u,r,.inr ⟨.inl hk,c,hc,hc'⟩⟩
   ·rw[A3U (A0k hj)]at e2;obtain⟨u',r',q⟩:=hl j y v' e1 e2 e3;refine⟨u',r',?_⟩;rcases q with q|⟨k,c',e,z'⟩
    ·exact .inl q
    ·refine .inr ⟨k,c',e,z'.sameBut hs ?_⟩;rintro rfl;exact hj (yO hN e1 (I.ok.inj _ _ _ e hc▸ hi))
  ·by_cases hcc:c'=c
   ·subst hcc;exact⟨_,hc'⟩
   ·obtain⟨w2,z2⟩:=I.cell y c' e;exact⟨w2,z2.sameBut hs hcc⟩
  ·obtain⟨e,n,ne,nf,d⟩:=I.pin p hp;refine⟨(hs.2 p.1 ?_).trans e,n,ne,nf,d⟩;intro q;rw[q,hoc]at e;have q':oc=p.2:=A0O e;exact d w' (by rw[<-q'];exact hocd)
def oK{M:Model}{Q:Unit->Shared->Prop}(I:Inv X pins σ H s)(hN:X.N.Nodup)(hi:X.N[i]?=some x)(hx:Loc X.env.scope x)(r:RelV v u)
  (h:∀s',Inv X pins (σ.set i 0x8B) H s'->Q () s')(hf:X.fn x=true\/X.env.scope.names.lookup x=some .local:=by first|exact .inl rfl|exact .inr rfl|assumption):wpAny M A (storeName X.env x u) Q E s:=
 uU I hN hi hx r (fun s' I' _=>h s' I') hf
def Inv.call'(I:Inv X pins σ H s)(ho:s'.os=s.os)(u:Un (frs X.stack) ch H H' s.heap s'.heap)(hok:nP X.prog X.w H' s'.heap)(hg:AllBare s'.gens)
  (hch:∀b∈ch,(b∈X.ex\/X.s₀.heap.objs.size<=b)/\b≠X.env.locals/\(∀x c,X.env.cells.lookup x=some c->c≠b)/\∀p∈X.pn++pins,p.1≠b):Inv X pins σ H' s':=by
 obtain⟨h',g',d',t',o'⟩:=s';have e:o'=s.os:=ho;subst e;exact I.call (g':=g') (t':=t') (d':=d') u hok hg hch
end
abbrev XK:=Value->Option Addr->Hp->Prop
abbrev St:=List (Option V)
variable{σ:St}
abbrev VK:=V->Hp->Prop
abbrev TE:=St->Hp->VK->Prop
variable{ta td te tl tv:TE}{Je:List (TE×TE)}
abbrev TT:=St->Hp->(Bool->Hp->Prop)->Prop
variable{tt:TT}
abbrev TA:=St->Hp->(List V->Hp->Prop)->Prop
structure Ends where
 nx:St->Hp->Prop
 rt:VK
 bk:St->Hp->Prop:=fun _ _=>False
 ct:St->Hp->Prop:=fun _ _=>False
abbrev TS:=Ends->St->Hp->Prop
variable{tb:TS}
inductive EP(X:Cx)(pins:List 0x1E)(σ:St)(Q:VK)(u:Value)(s':Shared):Prop
 |mk(v:V)(H':Hp)(_:Inv X pins σ H' s')(_:RelV v u)(_:Q v H'):EP X pins σ Q u s'
inductive TP(X:Cx)(pins:List 0x1E)(σ:St)(Q:Bool->Hp->Prop)(b:Bool)(s':Shared):Prop
 |mk(H':Hp)(_:Inv X pins σ H' s')(_:Q b H'):TP X pins σ Q b s'
inductive AP(X:Cx)(pins:List 0x1E)(σ:St)(Q:List V->Hp->Prop)(us:List Value)(s':Shared):Prop
 |mk(vs:List V)(H':Hp)(_:Inv X pins σ H' s')(_:Vals vs us)(_:Q vs H'):AP X pins σ Q us s'
def SP(X:Cx)(pins:List 0x1E)(D:Ends)(f:Flow)(s':Shared):Prop:=
 match f with
 | .next=>∃σ' H',Inv X pins σ' H' s'/\D.nx σ' H'
 | .brk=>∃σ' H',Inv X pins σ' H' s'/\D.bk σ' H'
 | .cont=>∃σ' H',Inv X pins σ' H' s'/\D.ct σ' H'
 | .ret u=>∃v σ' H',Inv X pins σ' H' s'/\RelV v u/\D.rt v H'
def PE(X:Cx)(e:Expr)(t:TE):Prop:=
 ∀(pins:List 0x1E)(s:Shared)(σ:St)(H:Hp)(Q:VK),Inv X pins σ H s->t σ H Q->wpAny 0xA X.A (eval e X.env) 0x3F X.xe s
def PT(X:Cx)(e:Expr)(t:TT):Prop:=
 ∀(pins:List 0x1E)(s:Shared)(σ:St)(H:Hp)(Q:Bool->Hp->Prop),Inv X pins σ H s->t σ H Q->wpAny 0xA X.A (isTrue e X.env (eval e X.env)) (TP X pins σ Q) X.xe s
def PW(X:Cx)(e:Expr)(t:TT):Prop:=
 ∀(whole:Sem Value)(pins:List 0x1E)(s:Shared)(σ:St)(H:Hp)(Q:Bool->Hp->Prop),Inv X pins σ H s->t σ H Q->wpAny 0xA X.A (isTrue e X.env whole) (TP X pins σ Q) X.xe s
def PW.pt{t:TT}(h:PW X e t):PT X e t:=h _
def PA(X:Cx)(es:List Expr)(t:TA):Prop:=
 ∀(pos:Pos)(pins:List 0x1E)(s:Shared)(σ:St)(H:Hp)(Q:List V->Hp->Prop),Inv X pins σ H s->t σ H Q->wpAny 0xA X.A (spliced (backTo pos 0x63)) (AP X pins σ Q) X.xe s
def PS(X:Cx)(st:Stmt)(t:TS):Prop:=
 ∀(pins:List 0x1E)(s:Shared)(σ:St)(H:Hp)(D:Ends),Inv X pins σ H s->t D σ H->wpAny 0xA X.A (exec st X.env) (SP X pins D) X.xe s
def yP(X:Cx)(st:List Stmt)(t:TS):Prop:=
 ∀(pins:List 0x1E)(s:Shared)(σ:St)(H:Hp)(D:Ends),Inv X pins σ H s->t D σ H->wpAny 0xA X.A (execs st X.env) (SP X pins D) X.xe s
def cN{α:Type}{t:Sem α}{Q Q':α->Shared->Prop}{M:Model}(h:wpAny M A t Q E s)(hQ:∀a s,Q a s->Q' a s):wpAny M A t Q' E s:=A1j h hQ fun _ _ x=>x
section
inductive uN(i:Nat)(σ:L2.St)(H:Hp)(Q:VK):Prop
 |mk(v:V)(_:σ[i]?=some 0x8B)(_:Q v H):uN i σ H Q
def tC(v:V):TE:=fun _ H Q=>Q v H
def Uy(hN:X.N[i]?=some x)(hv:Vis X.env.scope x)(hd:0x60=false:=by decide)(hcd:(x==("__classdict__":Str))=false:=by decide):PE X (.Name x pos) (uN i):=by
 intro pins s σ H Q I h;obtain⟨v,e,h⟩:=h;obtain⟨m,hn,hl⟩:=I.loc;obtain⟨u,r,l⟩:=hl i x v hN e hv;have fin:EP X pins σ Q u s:=⟨v,H,I,r,h⟩;rcases l with⟨hk,hm⟩|⟨hk,c,hc,hcell⟩
 ·exact wpAny_Name (wpAny_loadName_local I.ok.kind hk hn hm fin) hd
 ·rcases hk with hk|hk
  ·exact wpAny_Name (wpAny_loadName_cell I.ok.kind hk hc hcell fin) hd
  ·exact wpAny_Name (wpAny_loadName_free I.ok.kind hk hc hcell fin hcd) hd
def au{i j pos}:PE X (.Constant (.int i) j pos) (tC (.int i)):=fun _ _ _ H _ I h=>wpAny_Constant_int ⟨.int i,H,I.tok _,⟨_,rfl⟩,h⟩
def uV{b j pos}:PE X (.Constant (.bool b) j pos) (tC (.bl b)):=fun _ _ _ H _ I h=>Constant_bool ⟨.bl b,H,I,rfl,h⟩
def rZ{j pos}:PE X (.Constant .none j pos) (tC .non):=fun _ _ _ H _ I h=>Constant_none ⟨.non,H,I,rfl,h⟩
def aG{x j pos}:PE X (.Constant (.str x) j pos) (tC (.str x)):=fun _ _ _ H _ I h=>Calls.Constant_str ⟨.str x,H,I.tok _,⟨_,rfl⟩,h⟩
def Gl(X:Cx)(x:Str):Prop:=X.env.kindOf x=some .globalImplicit
def wK(I:Inv X pins σ H s)(hg:Gl X x)(hm:X.mg x=some u)(h:Q u s)
  (hd:0x60=false:=by decide):wpAny 0xA X.A (eval (.Name x pos) X.env) Q E s:=
 A4f I.ok.kind hg (Calls.loadGlobal_global (by rw[I.ok.glob];exact I.mod.glob.keeps I.bk) hm h) hd
def q8(I:Inv X pins σ H s)(hg:Gl X x)(hm:X.mg x=none)(hv:bootBuiltins x=some u)(h:Q u s)
  (hn:x≠"__name__":=by decide)(hd:0x60=false:=by decide):wpAny 0xA X.A (eval (.Name x pos) X.env) Q E s:=by
 obtain⟨mb,h1,h2⟩:=I.mod.blt;exact A4f I.ok.kind hg (Calls.loadGlobal_builtin (by rw[I.ok.glob];exact I.mod.glob.keeps I.bk) hm (by rw[I.ok.blt];exact h1.keeps I.bk) ((h2 x hn).trans hv) h) hd
def iD(hg:Gl X x)(hm:X.mg x=some u)(r:RelV v u)(hd:0x60=false:=by decide):PE X (.Name x pos) (tC v):=
 fun _ _ _ H _ I h=>wK I hg hm ⟨v,H,I,r,h⟩ hd
def gK(hg:Gl X x)(hm:X.mg x=none)(hv:bootBuiltins x=some u)(r:RelV v u)(hn:x≠"__name__":=by decide)(hd:0x60=false:=by decide):PE X (.Name x pos) (tC v):=
 fun _ _ _ H _ I h=>q8 I hg hm hv ⟨v,H,I,r,h⟩ hn hd
variable{a b:Expr}{tb:TE}
def PC(X:Cx)(op:CmpOp)(a b:Expr)(t:TE):Prop:=
 ∀ (pins:List 0x1E)(s:Shared)(σ:St)(H:Hp)(Q:VK),Inv X pins σ H s->t σ H Q->
  wpAny 0xA X.A (eval a X.env) (fun v s₁=>wpAny 0xA X.A (eval b X.env) (fun u s₂=>wpAny 0xA X.A (compareOp op v u) 0x3F X.xe s₂) X.xe s₁) X.xe s
def yQ(b:Expr)(h:op≠.In)(h2:op≠.NotIn):behindInMarks op b=false:=by
 have e1:(op==CmpOp.In)=false:=by cases op<;>first|rfl|exact absurd rfl h
 have e2:(op==CmpOp.NotIn)=false:=by cases op<;>first|rfl|exact absurd rfl h2
 cases b<;>simp[behindInMarks,e1,e2]
def tIsN(ta:TE):TE:=fun σ H Q=>ta σ H fun x H1=>Q (.bl (decide (x=.non))) H1
def RelV.Jm{x:V}{v:Value}(r:RelV x v):(v==Value.none)=decide (x=.non):=by
 cases x with
 |non=>cases r;rfl
 |bl _=>cases r;rfl
 |int _=>obtain⟨t,rfl⟩:=r;rfl
 |str _=>obtain⟨t,rfl⟩:=r;rfl
 |DR _=>obtain⟨t,rfl⟩:=r;rfl
 |flt _=>obtain⟨t,rfl⟩:=r;rfl
 |ref _=>cases r;rfl
 |ty _=>cases r;rfl
def Jo{j pos'}(ha:PE X a ta):PC X .Is a (.Constant .none j pos') (tIsN ta):=by
 intro pins s σ H Q I h;refine cN 0x61 fun v s1 zq=>?_;obtain⟨x,H1,I1,r1,q1⟩:=zq;exact Constant_none (is_none_gen ⟨.bl _,H1,I1,by rw[r1.Jm];rfl,q1⟩)
inductive Ys(Q:Bool->Hp->Prop)(x:V)(H1:Hp):Prop
 |mk(c:Bool)(_:x=.bl c)(_:Q c H1):Ys Q x H1
def tB(t:TE):TT:=fun σ H Q=>t σ H fun x H1=>Ys Q x H1
def Jp{t:TE}(h:PC X op a b t)(h1:behindInMarks op b=false:=by first|exact yQ _ (by decide) (by decide)|rfl):PE X (.Compare a [op] [b] pos) t:=fun pins s σ H Q I hw=>wpAny_Compare1 (h pins s σ H Q I hw) h1
def Jq{t:TE}(h:PC X op a b t)(h1:behindInMarks op b=false:=by first|exact yQ _ 0x6 0x6|rfl):PT X (.Compare a [op] [b] pos) (tB t):=by
 intro pins s σ H Q I hw;refine wpAny_isTrue_Compare1 (cN (h pins s σ H _ I hw) fun v s1 h1=>cN h1 fun u s2 h2=>cN h2 fun c s3 ⟨x,H1,I1,r1,q1⟩=>?_) h1;obtain⟨d,rfl,q⟩:=q1;cases r1;exact A1P ⟨H1,I1,q⟩
def dg{t:TE}(h:PE X e t)(he:∀whole,isTrue e X.env whole=(do let v<-whole;standAt e.pos;holding [v] (truthy v)):=by intro _;rfl):PT X e (tB t):=by
 intro pins s σ H Q I hw;refine isTrue_plain (cN (h pins s σ H _ I hw) fun v s1 ⟨x,H1,I1,r1,q1⟩=>?_) (he _);obtain⟨d,rfl,q⟩:=q1;cases r1;exact A1P ⟨H1,I1,q⟩
variable{tA tB':TT}{rest:List Expr}
def tAnd(t u:TT):TT:=fun σ H Q=>t σ H fun c H1=>if c=true then u σ H1 Q else Q false H1
def tOr(t u:TT):TT:=fun σ H Q=>t σ H fun c H1=>if c=true then Q true H1 else u σ H1 Q
def tNot(t:TT):TT:=fun σ H Q=>t σ H fun c H1=>Q (!c) H1
def mO(ha:PT X a tA):PW X (.BoolOp .And [a] pos) tA:=by
 intro wh pins s σ H Q I h;refine isTrue_and (cN (ha pins s σ H Q I h) fun c s1 e=>?_);cases c with
 |true=>exact isTrue_and_nil e
 |false=>exact e
def kj(ha:PT X a tA):PW X (.BoolOp .Or [a] pos) tA:=by
 intro wh pins s σ H Q I h;refine isTrue_or (cN (ha pins s σ H Q I h) fun c s1 e=>?_);cases c with
 |false=>exact isTrue_or_nil e
 |true=>exact e
def q9(ha:PT X a tA)(hb:PW X (.BoolOp .And (b::rest) pos) tB'):PW X (.BoolOp .And (a::b::rest) pos) (tAnd tA tB'):=by
 intro wh pins s σ H Q I h;refine isTrue_and (cN 0x61 fun c s1 zq=>?_);obtain⟨H1,I1,q1⟩:=zq;cases c with
 |true=>exact hb wh pins s1 σ H1 Q I1 q1
 |false=>exact⟨H1,I1,q1⟩
def oM(ha:PT X a tA)(hb:PW X (.BoolOp .Or (b::rest) pos) tB'):PW X (.BoolOp .Or (a::b::rest) pos) (tOr tA tB'):=by
 intro wh pins s σ H Q I h;refine isTrue_or (cN 0x61 fun c s1 zq=>?_);obtain⟨H1,I1,q1⟩:=zq;cases c with
 |true=>exact⟨H1,I1,q1⟩
 |false=>exact hb wh pins s1 σ H1 Q I1 q1
def fL(ha:PT X a tA):PT X (.UnaryOp .Not a pos) (tNot tA):=by
 intro pins s σ H Q I h;exact isTrue_not (cN (ha pins s σ H (fun c H1=>Q (!c) H1) I h) fun c s1 ⟨H1,I1,q1⟩=>⟨H1,I1,q1⟩)
inductive DX(tb:TE)(σ:L2.St)(Q:VK)(x:V)(H1:Hp):Prop
 |mk(c:Bool)(_:x=.bl c)(_:if c=true then tb σ H1 Q else Q (.bl false) H1):DX tb σ Q x H1
def Yt(ta tb:TE):TE:=fun σ H Q=>ta σ H fun x H1=>DX tb σ Q x H1
inductive DY(Q:VK)(x:V)(H1:Hp):Prop
 |mk(c:Bool)(_:x=.bl c)(_:Q (.bl (!c)) H1):DY Q x H1
def Yu(ta:TE):TE:=fun σ H Q=>ta σ H fun x H1=>DY Q x H1
def sE{op}{t:TE}(h:PE X a t):PE X (.BoolOp op [a] pos) t:=fun pins s σ H Q I hw=>BoolOp_one (h pins s σ H Q I hw)
def lO(ha:PE X a ta)(hb:PE X (.BoolOp .And (b::rest) pos) tb):PE X (.BoolOp .And (a::b::rest) pos) (Yt ta tb):=by
 intro pins s σ H Q I h;refine BoolOp_and (cN 0x61 fun v s1 zq=>?_);obtain⟨x,H1,I1,r1,q1⟩:=zq;obtain⟨c,rfl,q1⟩:=q1;cases r1;refine A1P ?_;cases c with
 |true=>exact hb pins s1 σ H1 Q I1 q1
 |false=>exact⟨.bl false,H1,I1,rfl,q1⟩
def Uz(ha:PE X a ta):PE X (.UnaryOp .Not a pos) (Yu ta):=by
 intro pins s σ H Q I h;refine UnaryOp_ (cN 0x61 fun v s1 zq=>?_);obtain⟨x,H1,I1,r1,q1⟩:=zq;obtain⟨c,rfl,q1⟩:=q1;cases r1;exact not_of (A1P ⟨.bl (!c),H1,I1,rfl,q1⟩)
def tIf(t:TT)(ta tb:TE):TE:=fun σ H Q=>t σ H fun c H1=>if c=true then ta σ H1 Q else tb σ H1 Q
def Jr{c:Expr}(hc:PT X c tA)(ha:PE X a ta)(hb:PE X b tb):PE X (.IfExp c a b pos) (tIf tA ta tb):=by
 intro pins s σ H Q I h;refine wpAny_IfExp (cN (hc pins s σ H _ I h) fun d s1 zq=>?_);obtain⟨H1,I1,q1⟩:=zq;cases d with
 |true=>exact ha pins s1 σ H1 Q I1 q1
 |false=>exact hb pins s1 σ H1 Q I1 q1
end
def bF(K:PySem.W.Frag)(H:Hp)(a:Addr)(xs:List V):Prop:=
 Rd H a 0x53\/
  ∃(o:Obj)(its:Array Value)(n:Nat),K.lookup a=some o/\o.cls=.type "list"/\o.dict=none/\o.data=.seq its n/\its.size<=sizeLine/\Vals xs its.toList
def bI(K:PySem.W.Frag)(H:Hp)(a:Addr)(xs:List V):Prop:=
 Rd H a 0x52\/
  ∃(o:Obj)(its:Array Value)(n:Nat),K.lookup a=some o/\o.cls=.type "tuple"/\o.data=.seq its n/\its.size<=sizeLine/\Vals xs its.toList
def absV:Value->Option V
 | .none=>some .non
 | .bool b=>some (.bl b)
 | .int i _=>some (.int i)
 | .str x _=>some (.str x)
 | .bytes b _=>some (.DR b)
 | .float b _=>some (.flt b)
 | .ref a=>some 0x48
 | .type n=>some (.ty n)
 |_=>none
def RelV.abs{x:V}(r:RelV x u):absV u=some x:=by
 cases x with
 |non=>cases r;rfl
 |bl _=>cases r;rfl
 |int _=>obtain⟨t,rfl⟩:=r;rfl
 |str _=>obtain⟨t,rfl⟩:=r;rfl
 |DR _=>obtain⟨t,rfl⟩:=r;rfl
 |flt _=>obtain⟨t,rfl⟩:=r;rfl
 |ref _=>cases r;rfl
 |ty _=>cases r;rfl
def RelV.inj{x:V}(r:RelV x u)(q:RelV y u):x=y:=A0O (r.abs.symm.trans q.abs)
theorem Vals.inj:∀{xs ys:List V}{us:List Value},Vals xs us->Vals ys us->xs=ys
 |_,_,_,.nil,.nil=>rfl
 |_,_,_,.cons r t,.cons r' t'=>by rw[r.inj r',Vals.inj t t']
def bF.of(h:H a=some 0x53):bF K H a xs:=.inl (.inl h)
def bI.of(h:H a=some 0x52):bI K H a xs:=.inl (.inl h)
def Inv.list(I:Inv X pins σ H s)(h:bF X.K H a xs):∃its:List Value,Vals xs its/\PlainL s.heap a its.toArray/\xs.length<=sizeLine:=by
 rcases h with h|⟨o,its,n,hk,hc,hd,hs,hz,r⟩
 ·obtain⟨z,its,n,r,e⟩:=h.ok I.hok;exact⟨its,r,⟨_,n,e,rfl,rfl,rfl⟩,z⟩
 ·refine⟨its.toList,r,⟨o,n,I.pZ a o hk,hc,hd,by simpa using hs⟩,?_⟩;have e:=r.length;simp only[A0U]at e;lia
def Inv.tuple(I:Inv X pins σ H s)(h:bI X.K H a xs):∃its:List Value,Vals xs its/\IsTup s.heap a its.toArray/\xs.length<=sizeLine:=by
 rcases h with h|⟨o,its,n,hk,hc,hs,hz,r⟩
 ·obtain⟨z,its,r,p⟩:=h.ok I.hok;exact⟨its,r,p,z⟩
 ·refine⟨its.toList,r,⟨o,I.pZ a o hk,hc,n,by simpa using hs⟩,?_⟩;have e:=r.length;simp only[A0U]at e;lia
def Inv.yR(I:Inv X pins σ H s)(h:bF X.K H a xs)(h':bF X.K H a ys):xs=ys:=by
 obtain⟨its,r,⟨o,n,e,_,_,d⟩,_⟩:=I.list h;obtain⟨its',r',⟨o',n',e',_,_,d'⟩,_⟩:=I.list h';rw[e]at e';cases e';rw[d]at d';injection d' with d1 _;have:its=its':=by simpa using A1r Array.toList d1
 subst this;exact r.inj r'
def Inv.GQ(I:Inv X pins σ H s)(h:bI X.K H a xs)(h':bI X.K H a ys):xs=ys:=by
 obtain⟨its,r,⟨o,e,_,n,d⟩,_⟩:=I.tuple h;obtain⟨its',r',⟨o',e',_,n',d'⟩,_⟩:=I.tuple h';rw[e]at e';cases e';rw[d]at d';injection d' with d1 _;have:its=its':=by simpa using A1r Array.toList d1
 subst this;exact r.inj r'
abbrev Cx.wish(X:Cx)(E:Value->Shared->Prop):Cx:={X with xe:=E}
abbrev Cx.nox(X:Cx):Cx:=X.wish fun _ _=>False
def Cx.Ok.wish(ok:X.Ok)(E:Value->Shared->Prop):(X.wish E).Ok:=
 ⟨ok.mod,ok.kind,ok.glob,ok.blt,ok.above,ok.inj,ok.has,ok.cab,ok.hd,ok.frames,ok.stk,ok.Y5,ok.bs,ok.Pj,ok.Bf,ok.GP,ok.qY,ok.Uw⟩
def Cx.Ok.lQ(ok:(X.wish E).Ok):X.Ok:=
 ⟨ok.mod,ok.kind,ok.glob,ok.blt,ok.above,ok.inj,ok.has,ok.cab,ok.hd,ok.frames,ok.stk,ok.Y5,ok.bs,ok.Pj,ok.Bf,ok.GP,ok.qY,ok.Uw⟩
def Inv.wish(I:Inv X pins σ H s)(E:Value->Shared->Prop):Inv (X.wish E) pins σ H s:=⟨I.ok.wish E,I.os,I.bare,I.base,I.loc,I.cell,I.free,I.jA,I.pin,I.hok,I.len⟩
def Inv.lQ(I:Inv (X.wish E) pins σ H s):Inv X pins σ H s:=⟨I.ok.lQ,I.os,I.bare,I.base,I.loc,I.cell,I.free,I.jA,I.pin,I.hok,I.len⟩
def SP.lQ{D:Ends}{f:Flow}(h:SP (X.wish E) pins D f s'):SP X pins D f s':=by
 cases f with
 |next=>obtain⟨σ',H',I,q⟩:=h;exact⟨σ',H',I.lQ,q⟩
 |brk=>obtain⟨σ',H',I,q⟩:=h;exact⟨σ',H',I.lQ,q⟩
 |cont=>obtain⟨σ',H',I,q⟩:=h;exact⟨σ',H',I.lQ,q⟩
 |ret u=>obtain⟨v,σ',H',I,r,q⟩:=h;exact⟨v,σ',H',I.lQ,r,q⟩
def yP.nox{st:List Stmt}{t:TS}(h:yP X.nox st t):yP X st t:=fun pins s σ H D I hw=>
 A1j (h pins s σ H D (I.wish _) hw) (fun _ _ q=>q.lQ) fun _ _ z=>False.elim z
section
variable{rest:List Stmt}{t u:TS}
def Yv:TS:=fun D σ H=>D.nx σ H
def GR(t u:TS):TS:=fun D σ H=>t {D with nx:=u D} σ H
def aV:yP X [] Yv:=fun _ _ σ H _ I h=>A3X ⟨σ,H,I,h⟩
def aq(h1:PS X st t)(h2:yP X rest u):yP X (st::rest) (GR t u):=by
 intro pins s σ H D I h;refine wpAny_execs_cons (cN (h1 pins s σ H {D with nx:=u D} I h) fun f s1 q=>?_);cases f with
 | next=>
  obtain⟨σ',H',I',q⟩:=q;exact h2 pins s1 σ' H' D I' q
 |ret v=>exact q
 |brk=>exact q
 |cont=>exact q
def aF(h1:PS X st t):yP X [st] t:=by
 intro pins s σ H D I h;refine wpAny_execs_cons (cN (h1 pins s σ H D I h) fun f s1 q=>?_);cases f with
 |next=>exact A3X q
 |ret v=>exact q
 |brk=>exact q
 |cont=>exact q
def Inv.quiet(I:Inv X pins σ H s):interactive X.env=false:=by simp[interactive,I.ok.kind]
def Yw(te:TE):TS:=fun D σ H=>te σ H fun _ H1=>D.nx σ H1
def bJ(he:PE X e te)(hs:swapsWith e none pos.line X.env=pure false:=by rfl):PS X (.Expr e pos) (Yw te):=by
 intro pins s σ H D I h;exact wpAny_Expr_any (cN 0x79 fun v s1 ⟨x,H1,I1,r1,q1⟩=>⟨σ,H1,I1,q1⟩) I.quiet hs
def Js(te:TE):TS:=fun D σ H=>te σ H D.rt
def bh(he:PE X e te):PS X (.Return (some e) pos) (Js te):=by
 intro pins s σ H D I h;exact wpAny_Return_some (cN 0x79 fun v s1 ⟨x,H1,I1,r1,q1⟩=>⟨x,σ,H1,I1,r1,q1⟩)
def Py(c:TT)(t u:TS):TS:=fun D σ H=>c σ H fun b H1=>if b=true then t D σ H1 else u D σ H1
def bM{c:Expr}{a b:List Stmt}{tc:TT}(hc:PT X c tc)(ha:yP X a t)(hb:yP X b u):PS X (.If c a b pos) (Py tc t u):=by
 intro pins s σ H D I h;refine wpAny_If (cN (hc pins s σ H _ I h) fun d s1 zq=>?_);obtain⟨H1,I1,q1⟩:=zq;cases d with
 |true=>exact ha pins s1 σ H1 D I1 q1
 |false=>exact hb pins s1 σ H1 D I1 q1
def UG:TS:=fun _ _ _=>False
def bR{sts:List Stmt}:yP X sts UG:=fun _ _ _ _ _ _ h=>h.elim
end
abbrev TG:=V->St->Hp->(St->Hp->Prop)->Prop
variable{g:TG}
abbrev Pz:=List V->St->Hp->(St->Hp->Prop)->Prop
def PG(X:Cx)(target:Expr)(t:TG):Prop:=
 ∀ (pins:List 0x1E)(s:Shared)(σ:St)(H:Hp)(v:V)(u:Value)(Q:St->Hp->Prop),Inv X pins σ H s->RelV v u->t v σ H Q->
  wpAny 0xA X.A (assign target X.env u) (fun _ s'=>∃σ' H',Inv X pins σ' H' s'/\Q σ' H') X.xe s
def Y7(X:Cx)(ts:List Expr)(t:Pz):Prop:=
 ∀ (pins:List 0x1E)(s:Shared)(σ:St)(H:Hp)(vs:List V)(us:List Value)(Q:St->Hp->Prop),Inv X pins σ H s->Vals vs us->t vs σ H Q->
  wpAny 0xA X.A (assignInOrder ((assignEach ts X.env).map (·.2)) us) (fun _ s'=>∃σ' H',Inv X pins σ' H' s'/\Q σ' H') X.xe s
def iW(i:Nat):TG:=fun v σ H Q=>Q (σ.set i 0x8B) H
def bf(hN:X.N.Nodup)(hi:X.N[i]?=some x)(hx:Loc X.env.scope x)(hf:X.fn x=true\/X.env.scope.names.lookup x=some .local:=by first|exact .inl rfl|exact .inr rfl|assumption):PG X (.Name x pos) (iW i):=by
 intro pins s σ H v u Q I r h;exact wpAny_assign_Name (oK I hN hi hx r (fun s' I'=>⟨_,H,I',h⟩) hf)
def gNil:Pz:=fun vs σ H Q=>vs=[]/\Q σ H
inductive T3(t:TG)(u:Pz)(vs:List V)(σ:L2.St)(H:Hp)(Q:L2.St->Hp->Prop):Prop
 |mk(v:V)(r:List V)(_:vs=v::r)(_:t v σ H fun σ' H'=>u r σ' H' Q):T3 t u vs σ H Q
def iG:Y7 X [] gNil:=by
 intro pins s σ H vs us Q I r h;obtain⟨e,h⟩:=h;subst e;cases r;exact assignInOrder_nil ⟨σ,H,I,h⟩
def cg{es:List Expr}{t:TG}{u:Pz}(h1:PG X e t)(h2:Y7 X es u)
  (hs:(assignEach (e::es) X.env).map (·.2)=assign e X.env::(0x65).map (·.2):=by rfl):Y7 X (e::es) (T3 t u):=by
 intro pins s σ H vs us Q I r h;obtain⟨v,vr,e1,h⟩:=h;subst e1;cases r with
 | cons r rr=>
  rw[hs];refine A4g (cN (h1 pins s σ H _ _ _ I r h) fun _ s1 zq=>?_);obtain⟨σ1,H1,I1,q1⟩:=zq;exact h2 pins s1 σ1 H1 _ _ Q I1 rr q1
inductive UJ(K:W.Frag)(n:Nat)(t:Pz)(v:V)(σ:L2.St)(H:Hp)(Q:L2.St->Hp->Prop):Prop
 |mk(a:Addr)(xs:List V)(_:v=.ref a)(_:bI K H a xs)(_:xs.length=n)(_:t xs σ H Q):UJ K n t v σ H Q
def qb{es:List Expr}{k:Nat}{t:Pz}(hc:X.calm=true)(h:Y7 X es t)
  (hn:(0x65).length=n:=by rfl)(hst:(0x65).findIdx? (·.1)=none:=by rfl):PG X (.Tuple es k pos) (UJ X.K n t):=by
 intro pins s σ H v u Q I r hw;obtain⟨a,xs,e1,hq,hl,hw⟩:=hw;subst e1;cases r;obtain⟨its,rv,ht,hz⟩:=I.tuple hq;refine assign_Tuple_tuple 0x95 ht (by simp[hn,<-hl,rv.length]) hst fun h' hx=>?_;have I1:Inv X pins σ H {s with heap:=h'}:=I.kept (t':=s.toks) fun b o e=>hx b o (A0I (A0q e)) e;exact h pins _ σ H xs _ Q I1 (by simpa using rv) hw
def UL(te:TE)(g:TG):TS:=fun D σ H=>te σ H fun x H1=>g x σ H1 D.nx
def Jt(he:PE X e te)(hg:PG X tg g)(hs:swapsWithSole [tg] e pos.line X.env=pure false:=by rfl)(hw:swappedStores [tg] e X.env=pure none:=by rfl)
  (h1:(assignEach [tg] X.env).map (·.2)=[assign tg X.env]:=by rfl):PS X (.Assign [tg] e pos) (UL te g):=by
 intro pins s σ H D I h;refine wpAny_Assign_stores (cN 0x79 fun v s1 ⟨x,H1,I1,r1,q1⟩=>?_) hs hw;rw[h1];exact cN (hg pins s1 σ H1 x v _ I1 r1 q1) fun _ s2 q=>q
def aW(hN:X.N.Nodup)(hi:X.N[i]?=some x)(hx:Loc X.env.scope x)(he:PE X e te)(hs:swapsWith e (some (.Name x pos')) pos.line X.env=pure false:=by rfl)(hf:X.fn x=true\/X.env.scope.names.lookup x=some .local:=by first|exact .inl rfl|exact .inr rfl|assumption):
  PS X (.Assign [.Name x pos'] e pos) (UL te (iW i)):=by
 intro pins s σ H D I h;refine wpAny_Assign_Name (cN 0x79 fun v s1 ⟨y,H1,I1,r1,q1⟩=>?_) hs;exact oK I1 hN hi hx r1 (fun s2 I2=>⟨_,H1,I2,q1⟩) hf
inductive Ju(i j:Nat)(D:Ends)(σ:L2.St)(vs:List V)(H1:Hp):Prop
 |mk(v w:V)(_:vs=[v,w])(_:D.nx ((σ.set i 0x8B).set j (some w)) H1):Ju i j D σ vs H1
def tPar(i j:Nat)(ta:TA):TS:=fun D σ H=>ta σ H fun vs H1=>Ju i j D σ vs H1
def Jv{y:Str}{a b:Expr}{ta:TA}{px py pt:Pos}{kt k2 pt2}(hc:X.calm=true)(hN:X.N.Nodup)(hi:X.N[i]?=some x)(hj:X.N[j]?=some y)(hij:i≠j)
  (hx:X.env.scope.names.lookup x=some .local)(hy:X.env.scope.names.lookup y=some .local)(ha:PA X [a,b] ta)
  (hw:swappedStores [.Tuple [.Name x px,.Name y py] kt pt] (.Tuple [a,b] k2 pt2) X.env=pure (some [x,y]))
  (hs:swapsWithSole [.Tuple [.Name x px,.Name y py] kt pt] (.Tuple [a,b] k2 pt2) pos.line X.env=pure false:=by rfl):
  PS X (.Assign [.Tuple [.Name x px,.Name y py] kt pt] (.Tuple [a,b] k2 pt2) pos) (tPar i j ta):=by
 intro pins s σ H D I h;rw[exec_Assign_arm];refine A0a (A1Y ?_);rw[hs];refine A0a 0x6B;rw[A0f 0x6];refine A0a (Tuple_ (cN (ha _ pins s σ H _ I h) fun us s1 zq=>?_));obtain⟨vs,H1,I1,r1,q1⟩:=zq;obtain⟨v,w,e1,q1⟩:=q1;subst e1;obtain⟨u1,u2,rfl,rv,bU⟩:∃u1 u2,us=[u1,u2]/\RelV v u1/\RelV w u2:=by
  cases r1 with
  | cons p q=>
   cases q with
   | cons p' q'=>
    cases q';exact⟨_,_,rfl,p,p'⟩
 refine A1g ?_ (by show 2<=sizeLine;decide)
 have I2:Inv X pins σ H1 {s1 with heap:=s1.heap.push {cls:=.type "tuple",data:=.seq [u1,u2].toArray}}:=I1.kept (t':=s1.toks) fun b o e=>A0b _ e;rw[hw];refine A0a 0x6B
 show wpAny 0xA X.A (do rule "assign.swapped-stores";let items<-unpackItems (.ref s1.heap.objs.size) 2 none;assignInOrder [fun v=>bindName X.env y v,fun v=>bindName X.env x v] items.reverse;pure Flow.next) _ _ _
 refine A0a (A3r (A0a (unpackItems_tuple (items:=#[u1,u2]) 0x95 (IsTup.new s1.heap _) fun h' hx'=>?_)));have I3:=I2.kept (h':=h') (t':=s1.toks) fun b o e=>hx' b o (A0I (A0q e)) e
 show wpAny _ _ (assignInOrder [fun v=>bindName X.env y v,fun v=>bindName X.env x v] [u2,u1]>>=fun _=>pure Flow.next) _ _ _
 refine A0a (A4g (wpAny_bindName (oK I3 hN hj (.inl hy) bU (fun s2 I4=>?_) (.inr hy))));refine A4g (wpAny_bindName (oK I4 hN hi (.inl hx) rv (fun s3 I5=>assignInOrder_nil 0x6B) (.inr hx)));rw[List.set_comm _ _ (A0k hij)]at I5;exact⟨_,H1,I5,q1⟩
def Jw(c:TT)(tb:TS):TS:=fun D σ H=>∃W:Nat->St->Hp->Prop,(∃m,W m σ H)/\∀m σ H,W m σ H->
 c σ H fun b H1=>if b=true then ∃N:St->Hp->Prop,(∀σ' H',N σ' H'->∃m',m'<m/\W m' σ' H')/\tb {D with nx:=N,ct:=N,bk:=D.nx} σ H1 else D.nx σ H1
def lR{c:Expr}{tc:TT}(hp:PassesOwn 0xA X.A X.env X.xe)(hc:PT X c tc)(hb:yP X body tb):PS X (.While c body [] pos) (Jw tc tb):=by
 intro pins s σ H D I h;obtain⟨W,⟨m0,w0⟩,turn⟩:=h;refine wpAny_While (codeAny_whileLoop (fun n s'=>∃σ' H',Inv X pins σ' H' s'/\W n σ' H') ?_ m0 ⟨σ,H,I,w0⟩);rintro n s1 ⟨σ1,H1,I1,w1⟩;refine A2f hp (cN (hc pins s1 σ1 H1 _ I1 (turn n σ1 H1 w1)) fun b s2 zq=>?_);obtain⟨H2,I2,q2⟩:=zq;cases b with
 | true=>
  obtain⟨N,hN,q2⟩:=q2;rw[A0i rfl];refine A2f hp (cN (hb pins s2 σ1 H2 _ I2 q2) fun f s3 q3=>?_);cases f with
  | next=>
   obtain⟨σ3,H3,I3,n3⟩:=q3;obtain⟨m',hm,w3⟩:=hN σ3 H3 n3;exact⟨m',hm,σ3,H3,I3,w3⟩
  | cont=>
   obtain⟨σ3,H3,I3,n3⟩:=q3;obtain⟨m',hm,w3⟩:=hN σ3 H3 n3;exact⟨m',hm,σ3,H3,I3,w3⟩
  |brk=>exact q3
  |ret v=>exact q3
 | false=>
  rw[A0f A0n];exact A3X ⟨σ1,H2,I2,q2⟩
structure It where
 go:Nat->Hp->Prop
 Az:Nat->Hp->V->Hp->Prop
 stop:Nat->Hp->Prop
variable{J:It}
def jQ(X:Cx)(pins:List 0x1E)(H:Hp)(b:Addr):Prop:=
 H b=none/\b≠X.env.locals/\b∉X.fs/\(b∈X.ex\/X.s₀.heap.objs.size<=b)/\(∀x c,X.env.cells.lookup x=some c->c≠b)/\∀p∈X.pn++pins,p.1≠b
def Inv.wL(I:Inv X pins σ H s)(hb:s.heap.objs.size<=b)(hn:H' b=none):jQ X pins H' b:=by
 refine⟨hn,A2L (A0o I.lt hb),I.nofs hb,.inr (A0L I.sz hb),fun x c e z=>?_,fun p hp z=>?_⟩
 ·obtain⟨v,q⟩:=I.cell x c e;exact absurd (A0o q.lt (by rw[z];exact hb)) (A1h _)
 ·exact absurd (A0o (A0q (I.pin p hp).1) (by rw[z];exact hb)) (A1h _)
structure Turn(P:Program)(w:World)(K:PySem.W.Frag)(tg:Expr)(J:It)(fp:List Addr)(it:Addr)(tn:Nat->Heap->Prop):Prop where
 mem:it∈fp
 obj:∀i h,tn i h->∀b∈fp,∃o,h.get? b=some o/\∀v,o.data≠.cell v
 keep:∀i h h',tn i h->(∀b∈fp,∀o,h.get? b=some o->h'.get? b=some o)->tn i h'
 item:∀(X:Cx),X.prog=P->X.w=w->X.K=K->X.calm=true->∀(i:Nat)(pins:List 0x1E)(s:Shared)(σ:St)(H:Hp)(E:Value->Shared->Prop),Inv X pins σ H s->(∀b∈fp,jQ X pins H b)->tn i s.heap->J.go i H->
  wpAny (model P w) X.A (pyNext 0x4E) (fun r s1=>∃u,r=some u/\
   wpAny (model P w) X.A (letOwnedTupleGo tg 0x4E u) (fun _ s2=>∃x H',Inv X pins σ H' s2/\RelV x u/\J.Az i H x H'/\tn (i+1) s2.heap/\∀b∈fp,H' b=none) E s1) E s
 done:∀(X:Cx),X.prog=P->X.w=w->X.K=K->X.calm=true->∀(i:Nat)(pins:List 0x1E)(s:Shared)(σ:St)(H:Hp)(E:Value->Shared->Prop),Inv X pins σ H s->(∀b∈fp,jQ X pins H b)->tn i s.heap->J.stop i H->
  wpAny (model P w) X.A (pyNext 0x4E) (fun r s1=>r=none/\Inv X pins σ H s1) E s
 self:∀(A:Around)(i:Nat)(s:Shared)(Q:Value->Shared->Prop)(E:Value->Shared->Prop),tn i s.heap->Q 0x4E s->wpAny (model P w) A (pyIter 0x4E) Q E s
abbrev TI:=St->Hp->(It->Hp->Prop)->Prop
variable{wi:TI}
inductive PIE(X:Cx)(pins:List 0x1E)(σ:St)(tg:Expr)(R:It->Hp->Prop)(itv:Value)(s2:Shared):Prop
 |mk(it:Addr)(fp:List Addr)(tn:Nat->Heap->Prop)(J:It)(H':Hp)(_:itv=.ref it)(_:Inv X pins σ H' s2)(_:Turn X.prog X.w X.K tg J fp it tn)(_:tn 0 s2.heap)(_:(∀b∈fp,jQ X pins H' b))(_:R J H'):PIE X pins σ tg R itv s2
def PI(X:Cx)(tg iter:Expr)(wi:TI):Prop:=
 ∀ (pins:List 0x1E)(s:Shared)(σ:St)(H:Hp)(R:It->Hp->Prop),Inv X pins σ H s->wi σ H R->
  wpAny 0xA X.A (eval iter X.env) (fun v s1=>wpAny 0xA X.A (pyIter v) (PIE X pins σ tg R) X.xe s1) X.xe s
def Ea{M:Model}{o:Obj}{n:String}{vs:Array Value}{Q:Unit->Shared->Prop}(ho:s.heap.get? it=some o)(hc:o.cls=.type n)(hd:o.data=.fields vs)
  (hn:["enumerate","zip","dict_itemiterator","dict_reverseitemiterator","odict_iterator","itertools.zip_longest","itertools.pairwise"].contains n=false)(hQ:Q () s):wpAny M A (letOwnedTupleGo tg 0x4E u) Q E s:=by
 unfold letOwnedTupleGo;cases tg<;>first
  |exact A0d hQ
  | (cases u<;>first
    |exact A0d hQ
    | (refine A0a (A4N ho ?_)
       rw[hc,hd]
       show wpAny M A (if(["enumerate","zip","dict_itemiterator","dict_reverseitemiterator","odict_iterator","itertools.zip_longest","itertools.pairwise"].contains n&&vs[0]?==some (rawInt _))=true then _ else _) Q E s
       rw[A0f (by intro h;rw[hn,A3a]at h;cases h)];exact A0d hQ))
def UW(K:PySem.W.Frag)(a:Addr):It:=
 ⟨fun i H=>∃xs x,bF K H a xs/\xs[i]?=some x,fun i H x H'=>H'=H/\∀xs,bF K H a xs->xs[i]?=some x,fun i H=>∃xs,bF K H a xs/\xs.length<=i⟩
def V0(lo:Int)(n:Nat):It:=⟨fun i _=>i<n,fun i H x H'=>H'=H/\x=.int (lo+i),fun i _=>n<=i⟩
def GX(a it:Addr):Turn P w K tg (UW K a) [it] it (fun i h=>h.IsListIter it a i) where
 mem:=by simp
 obj:=fun i h st b hb=>by
  have e:b=it:=by simpa using hb
  subst e;obtain⟨o,e,c,d⟩:=st;exact⟨o,e,fun v z=>by rw[d]at z;cases z⟩
 keep:=fun i h h' st k=>st.at fun o e=>k it 0x8 o e
 item:=by
  intro X hP hw hK hc i pins s σ H E I hf st hg;subst hP hw hK;obtain⟨xs,x,hq,hx⟩:=hg;obtain⟨its,rv,p,hz⟩:=I.list hq;obtain⟨u,hu,ru⟩:=rv.get hx;obtain⟨f0,f1,f2,f3,f4,f5⟩:=hf it 0x8;refine wpAny_pyNext_list_item st p.isList (x:=u) (by simpa using hu) fun h' st' sb=>?_;have I1:Inv X pins σ H {s with heap:=h'}:=I.turned (t':=s.toks) (fun b o hb e=>(sb.2 b hb).trans e) f0 f1 f3 f4 f5;obtain⟨o,e,c,d⟩:=id st';exact⟨u,rfl,Ea (s:={s with heap:=h'}) e c d 0x6 ⟨x,H,I1,ru,⟨rfl,fun ys hy=>by rw[I.yR hy hq];exact hx⟩,st',fun b hb=>(hf b hb).1⟩⟩
 done:=by
  intro X hP hw hK hc i pins s σ H E I hf st hg;subst hP hw hK;obtain⟨xs,hq,hx⟩:=hg;obtain⟨its,rv,p,hz⟩:=I.list hq;obtain⟨f0,f1,f2,f3,f4,f5⟩:=hf it 0x8;have hl:=rv.length;exact wpAny_pyNext_list_end 0x95 st p.isList (by simp;lia) fun h' eb=>⟨rfl,I.turned (t':=s.toks) (fun b o hb e=>eb b o hb e) f0 f1 f3 f4 f5⟩
 self:=fun _ _ _ _ _ st h=>wpAny_pyIter_listiter st h
def Bg(it:Addr)(lo:Int)(n:Nat):Turn P w K tg (V0 lo n) [it] it (fun i h=>IsRangeIter h it (lo+(i:Nat)*1) ((n:Int)-(i:Nat)) 1) where
 mem:=by simp
 obj:=fun i h st b hb=>by
  have e:b=it:=by simpa using hb
  subst e;exact⟨_,st,fun v z=>by
   have z':Data.fields _=Data.cell v:=z;cases z'⟩
 keep:=fun i h h' st k=>k it 0x8 _ st
 item:=by
  intro X hP hw hK hc i pins s σ H E I hf st hg;subst hP hw hK;obtain⟨f0,f1,f2,f3,f4,f5⟩:=hf it 0x8;have W:=Walks.range (prog:=X.prog) (w:=X.w) 0x95 it lo 1 n;refine W.item i s _ _ hg st fun v h' tk hv st' kk=>?_;obtain⟨t,rfl⟩:=hv;have I1:Inv X pins σ H {s with heap:=h',toks:=tk}:=I.turned (fun b o hb e=>kk b o (by simpa using hb) e) f0 f1 f3 f4 f5;refine⟨_,rfl,Ea (s:={s with heap:=h',toks:=tk}) (n:="range_iterator") st' rfl rfl 0x6 ⟨.int (lo+i),H,I1,⟨t,?_⟩,⟨rfl,rfl⟩,st',fun b hb=>(hf b hb).1⟩⟩;rw[Int.mul_one]
 done:=by
  intro X hP hw hK hc i pins s σ H E I hf st hg;subst hP hw hK;obtain⟨f0,f1,f2,f3,f4,f5⟩:=hf it 0x8;exact wpAny_pyNext_range_end 0x95 st (by have:n<=i:=hg;lia) fun h' eb=>⟨rfl,I.turned (t':=s.toks) (fun b o hb e=>eb b o hb e) f0 f1 f3 f4 f5⟩
 self:=fun _ _ _ _ _ st h=>wpAny_pyIter_rangeiter st h
inductive Eb(K:W.Frag)(R:It->Hp->Prop)(x:V)(H1:Hp):Prop
 |mk(a:Addr)(_:x=.ref a)(_:(∃xs,bF K H1 a xs))(_:R (UW K a) H1):Eb K R x H1
def Yx(K:PySem.W.Frag)(tl:TE):TI:=fun σ H R=>tl σ H fun x H1=>Eb K R x H1
def eU{l:Expr}(hl:PE X l tl):PI X tg l (Yx X.K tl):=by
 intro pins s σ H R I h;refine cN (hl pins s σ H _ I h) fun v s1 zq=>?_;obtain⟨x,H1,I1,r1,q1⟩:=zq;obtain⟨a,e,⟨xs,hq⟩,q⟩:=q1;subst e;cases r1;obtain⟨its,rv,p,hz⟩:=I1.list hq;refine A2X p.isList ?_;refine⟨s1.heap.objs.size,[s1.heap.objs.size],_,_,H1,rfl,I1.kept (t':=s1.toks) fun b o e=>A0b _ e,GX a _,⟨_,A0m _ rfl,rfl,rfl⟩,fun b hb=>?_,q⟩;have e:b=s1.heap.objs.size:=by simpa using hb
 subst e;exact I1.wL 0x2F (I1.hok.fresh 0x2F)
def Jx{R:It->Hp->Prop}{lo hi:Int}{t u v:Tok}{tk:Nat}(I:Inv X pins σ H s)(h1:-(2^62)<=lo)(h2:lo<2^62)(h3:-(2^62)<=hi)(h4:hi<2^62)
  (q:R (V0 lo (hi-lo).toNat) H):wpAny 0xA X.A (pyIter 0x16) (PIE X pins σ tg R) E {s with heap:=s.heap.push {cls:=.type "range",data:=.fields #[.int lo t,.int hi u,.int 1 v]},toks:=tk}:=by
 refine wpAny_pyIter_range (IsRange.new ..) (small_one h1 h2 h3 h4) ?_;have I1:Inv X pins σ H {s with heap:=s.heap.push {cls:=.type "range",data:=.fields #[.int lo t,.int hi u,.int 1 v]},toks:=tk}:=I.kept fun b o e=>A0b _ e;refine⟨(s.heap.push {cls:=.type "range",data:=.fields #[.int lo t,.int hi u,.int 1 v]}).objs.size,[(s.heap.push {cls:=.type "range",data:=.fields #[.int lo t,.int hi u,.int 1 v]}).objs.size],_,_,H,rfl,
  I1.kept (t':=tk) fun b o e=>A0b _ e,Bg _ lo (hi-lo).toNat,?_,fun b hb=>?_,q⟩
 ·have e1:lo+((0:Nat):Int)*1=lo:=by simp
  have e2:(((hi-lo).toNat:Nat):Int)-((0:Nat):Int)=Builtin.Range.rangeSize lo hi 1:=by rw[rangeSize_one];split<;>lia
  show IsRangeIter _ _ (lo+((0:Nat):Int)*1) ((((hi-lo).toNat:Nat):Int)-((0:Nat):Int)) 1
  rw[e1,e2];exact A0m _ rfl
 ·have e:b=(s.heap.push {cls:=.type "range",data:=.fields #[.int lo t,.int hi u,.int 1 v]}).objs.size:=by simpa using hb
  subst e;exact I1.wL 0x2F (I1.hok.fresh 0x2F)
inductive Ec(R:It->Hp->Prop)(vs:List V)(H1:Hp):Prop
 |mk(j:Int)(_:vs=[.int j])(_:-(2^62)<=j)(_:j<2^62)(_:R (V0 0 j.toNat) H1):Ec R vs H1
def Yy(ta:TA):TI:=fun σ H R=>ta σ H fun vs H1=>Ec R vs H1
def cT{a:Expr}{ta:TA}{p:Pos}(hg:Gl X "range")(hm:X.mg "range"=none)(ha:PA X [a] ta)(hs:starEach [a] X.env=[(false,eval a X.env)]:=by rfl):PI X tg (.Call (.Name "range" p) [a] [] pos) (Yy ta):=by
 intro pins s σ H R I h;refine Call_ (q8 I hg hm boot_range (A1X (cN (ha pos pins s σ H _ I h) fun us s1 ⟨vs,H1,I1,r1,q1⟩=>?_) hs rfl));obtain⟨j,e,q1,q2,q⟩:=q1;subst e;cases r1 with
 | cons r rr=>
  cases rr;obtain⟨t,rfl⟩:=r;exact call_range_1 (Jx I1 0x1 0x1 q1 q2 (by simpa using q))
def tFor(wi:TI)(g:TG)(tb:TS):TS:=fun D σ H=>wi σ H fun J H1=>∃W:Nat->Nat->St->Hp->Prop,(∃m,W 0 m σ H1)/\∀i m σ H,W i m σ H->
 (J.stop i H/\D.nx σ H)\/(J.go i H/\∃N:St->Hp->Prop,(∀σ' H',N σ' H'->∃m',m'<m/\W (i+1) m' σ' H')/\∀x H',J.Az i H x H'->g x σ H' fun σ2 H2=>tb {D with nx:=N,ct:=N,bk:=D.nx} σ2 H2)
def qd(fp:List Addr)(h:Heap):List 0x1E:=fp.filterMap fun b=>(h.get? b).map fun o=>(b,o)
def iw{o:Obj}(hb:b∈fp)(e:h.get? b=some o):(b,o)∈qd fp h:=A4h.mpr ⟨b,hb,by rw[e];rfl⟩
def GZ{p:Addr×Obj}(hp:p∈qd fp h):p.1∈fp/\h.get? p.1=some p.2:=by
 obtain⟨b,hb,e⟩:=A4h.mp hp;cases q:h.get? b with
 |none=>rw[q]at e;cases e
 | some o=>
  rw[q]at e;have e':(b,o)=p:=A0O e;subst e';exact⟨hb,q⟩
def Inv.pinned(I:Inv X pins σ H s)(hf:∀b∈fp,jQ X pins H b)(ho:∀b∈fp,∃o,s.heap.get? b=some o/\∀v,o.data≠.cell v):Inv X (pins++qd fp s.heap) σ H s:=
 I.DW fun p hp=>(A0u.mp hp).elim (fun z=>I.pin p (A0H _ z)) fun z=>by
  obtain⟨hb,e⟩:=GZ z;obtain⟨f0,f1,f2,_⟩:=hf p.1 hb;obtain⟨o,e',d⟩:=ho p.1 hb;rw[e]at e';cases e';exact⟨e,f0,f1,f2,d⟩
def Inv.lU{pl:List 0x1E}(I:Inv X (pins++pl) σ H s):Inv X pins σ H s:=I.DW fun p hp=>I.pin p (A0H _ (A2Z _ hp))
def eZ(hp:PassesOwn 0xA X.A X.env X.xe)(hc:X.calm=true)(hi:PI X tg iter wi)(hg:PG X tg g)(hb:yP X body tb)
  (hs:∀x,foldedSetIterable iter X.env x=pure x:=by intro _;rfl):PS X (.For tg iter body [] pos) (tFor wi g tb):=by
 intro pins s σ H D I h;refine wpAny_For (cN (hi pins s σ H _ I h) fun v s1 h1=>cN h1 fun itv s2 h2=>?_) hs;obtain⟨it,fp,tn,J,H2,e,I2,T,st2,f2,W,⟨m0,w0⟩,turn⟩:=h2;subst e;have stat:∀{H':Hp},0x85->∀b∈fp,jQ X pins H' b:=fun hn b hb=>⟨hn b hb,(f2 b hb).2⟩;refine codeAny_forLoop_any (fun n s'=>∃i σ' H',Inv X pins σ' H' s'/\tn i s'.heap/\0x85/\W i n σ' H') ?_ m0 ⟨0,σ,H2,I2,st2,fun b hb=>(f2 b hb).1,w0⟩;rintro n s3 ⟨i,σ3,H3,I3,st3,T4,w3⟩;rcases turn i n σ3 H3 w3 with⟨stop,qn⟩|⟨go,N,hN,step⟩
 ·refine A2f hp (cN (T.done X rfl rfl rfl hc i pins s3 σ3 H3 X.xe I3 (stat T4) st3 stop) fun r s4 zq=>?_);obtain⟨hr,I4⟩:=zq;subst hr;exact A3X ⟨σ3,H3,I4,qn⟩
 ·refine A2f hp (cN (T.item X rfl rfl rfl hc i pins s3 σ3 H3 X.xe I3 (stat T4) st3 go) fun r s4 zq=>?_);obtain⟨u,hr,h4⟩:=zq;subst hr;refine A2f hp (cN h4 fun _ s5 zq=>?_);obtain⟨x,H5,I5,r5,y5,Jy,Yz⟩:=zq;have YB:=I5.pinned (stat Yz) (T.obj _ _ Jy);refine A2f hp (cN (hg _ s5 σ3 H5 x u _ YB r5 (step x H5 y5)) fun _ s6 zq=>?_);obtain⟨σ6,H6,I6,q6⟩:=zq;refine A2f hp (cN (hb _ s6 σ6 H6 _ I6 q6) fun f s7 q7=>?_);have again:∀{σ7:St}{H7:Hp},Inv X (pins++qd fp s5.heap) σ7 H7 s7->N σ7 H7->∃m,m<n/\∃i σ' H',Inv X pins σ' H' s7/\tn i s7.heap/\0x85/\W i m σ' H':=fun{σ7 H7}I7 n7=>by
   obtain⟨m',hm,w7⟩:=hN σ7 H7 n7;refine⟨m',hm,i+1,σ7,H7,I7.lU,T.keep _ _ _ Jy fun b hb o e=>(I7.pin (b,o) (A0H _ (A0H _ (iw hb e)))).1,fun b hb=>?_,w7⟩;obtain⟨o,e,d⟩:=T.obj _ _ Jy b hb;exact(I7.pin (b,o) (A0H _ (A0H _ (iw hb e)))).2.1
  cases f with
  |next=>obtain⟨σ7,H7,I7,n7⟩:=q7;exact again I7 n7
  |cont=>obtain⟨σ7,H7,I7,n7⟩:=q7;exact again I7 n7
  |brk=>obtain⟨σ7,H7,I7,q7⟩:=q7;exact⟨σ7,H7,I7.lU,q7⟩
  |ret v=>obtain⟨x7,σ7,H7,I7,r7,q7⟩:=q7;exact⟨x7,σ7,H7,I7.lU,r7,q7⟩
def lV{D:Ends}(Pv:Nat->St->Hp->Prop)(h0:Pv 0 σ H)(hl:∀i σ H,i<=xs.length->Pv i σ H->bF K H a xs)
  (hs:∀i x σ H,xs[i]?=some x->Pv i σ H->g x σ H fun σ2 H2=>tb {D with nx:=Pv (i+1),ct:=Pv (i+1),bk:=D.nx} σ2 H2)(hd:∀σ H,Pv xs.length σ H->D.nx σ H):
  ∃ W:Nat->Nat->St->Hp->Prop,(∃m,W 0 m σ H)/\∀i m σ H,W i m σ H->
   ((UW K a).stop i H/\D.nx σ H)\/((UW K a).go i H/\∃N:St->Hp->Prop,(∀σ' H',N σ' H'->∃m',m'<m/\W (i+1) m' σ' H')/\∀x H',(UW K a).Az i H x H'->g x σ H' fun σ2 H2=>tb {D with nx:=N,ct:=N,bk:=D.nx} σ2 H2):=by
 refine⟨fun i m σ H=>m=xs.length-i/\i<=xs.length/\Pv i σ H,⟨xs.length,by simp,A1i _,h0⟩,?_⟩;rintro i m σ H ⟨rfl,hi,p⟩;have q:=hl i σ H hi p
 by_cases hlt:i<xs.length
 ·refine .inr ⟨⟨xs,xs[i],q,by simp[hlt]⟩,Pv (i+1),fun σ' H' p'=>⟨xs.length-(i+1),by lia,rfl,hlt,p'⟩,fun x H' y=>?_⟩;obtain⟨e,y⟩:=y;subst e;exact hs i x σ _ (y xs q) p
 ·have e:i=xs.length:=by lia
  subst e;exact .inl ⟨⟨xs,q,A0g _⟩,hd σ H p⟩
def dH{lo:Int}{D:Ends}(Pv:Nat->St->Hp->Prop)(h0:Pv 0 σ H)
  (hs:∀i σ H,i<n->Pv i σ H->g (.int (lo+i)) σ H fun σ2 H2=>tb {D with nx:=Pv (i+1),ct:=Pv (i+1),bk:=D.nx} σ2 H2)(hd:∀σ H,Pv n σ H->D.nx σ H):
  ∃ W:Nat->Nat->St->Hp->Prop,(∃m,W 0 m σ H)/\∀i m σ H,W i m σ H->
   ((V0 lo n).stop i H/\D.nx σ H)\/((V0 lo n).go i H/\∃N:St->Hp->Prop,(∀σ' H',N σ' H'->∃m',m'<m/\W (i+1) m' σ' H')/\∀x H',(V0 lo n).Az i H x H'->g x σ H' fun σ2 H2=>tb {D with nx:=N,ct:=N,bk:=D.nx} σ2 H2):=by
 refine⟨fun i m σ H=>m=n-i/\i<=n/\Pv i σ H,⟨n,by simp,A1i _,h0⟩,?_⟩;rintro i m σ H ⟨rfl,hi,p⟩
 by_cases hlt:i<n
 ·refine .inr ⟨hlt,Pv (i+1),fun σ' H' p'=>⟨n-(i+1),by lia,rfl,hlt,p'⟩,fun x H' y=>?_⟩;obtain⟨e,y⟩:=y;subst e y;exact hs i σ _ hlt p
 ·have e:i=n:=by lia
  subst e;exact .inl ⟨A0g _,hd σ H p⟩
def yS{c:TT}{D:Ends}(Pv:St->Hp->Prop)(μ:St->Hp->Nat)(h0:Pv σ H)
  (hs:∀σ H,Pv σ H->c σ H fun b H1=>if b=true then tb {D with nx:=fun σ' H'=>Pv σ' H'/\μ σ' H'<μ σ H,ct:=fun σ' H'=>Pv σ' H'/\μ σ' H'<μ σ H,bk:=D.nx} σ H1 else D.nx σ H1)
  (mono:∀σ H Q Q',(∀b H1,Q b H1->Q' b H1)->c σ H Q->c σ H Q'):Jw c tb D σ H:=by
 refine⟨fun m σ H=>m=μ σ H/\Pv σ H,⟨_,rfl,h0⟩,?_⟩;rintro m σ H ⟨rfl,p⟩;refine mono σ H _ _ (fun b H1 q=>?_) (hs σ H p);cases b with
 |true=>exact⟨_,fun σ' H' ⟨p',l⟩=>⟨_,l,rfl,p'⟩,q⟩
 |false=>exact q
abbrev R2:=V->V->Hp->VK->Prop
def mQ(X:Cx)(f:Value->Value->Sem Value)(r:R2):Prop:=
 ∀ (pins:List 0x1E)(s:Shared)(σ:St)(H:Hp)(x y:V)(v u:Value)(Q:VK),Inv X pins σ H s->RelV x v->RelV y u->r x y H Q->
  wpAny 0xA X.A (f v u) 0x3F X.xe s
def UnR(X:Cx)(f:Value->Sem Value)(r:V->Hp->VK->Prop):Prop:=
 ∀ (pins:List 0x1E)(s:Shared)(σ:St)(H:Hp)(x:V)(v:Value)(Q:VK),Inv X pins σ H s->RelV x v->r x H Q->
  wpAny 0xA X.A (f v) 0x3F X.xe s
def gw(X:Cx)(f:Value)(r:List V->Hp->VK->Prop):Prop:=
 ∀ (pins:List 0x1E)(s:Shared)(σ:St)(H:Hp)(xs:List V)(us:List Value)(Q:VK),Inv X pins σ H s->Vals xs us->r xs H Q->
  wpAny 0xA X.A (call f us) 0x3F X.xe s
def tOp(r:R2)(ta tb:TE):TE:=fun σ H Q=>ta σ H fun x H1=>tb σ H1 fun y H2=>r x y H2 Q
def tUn(r:V->Hp->VK->Prop)(ta:TE):TE:=fun σ H Q=>ta σ H fun x H1=>r x H1 Q
inductive rI(C:Int->Int->Prop)(g:Int->Int->V)(x y:V)(H:Hp)(Q:VK):Prop
 |mk(i j:Int)(_:x=.int i)(_:y=.int j)(_:C i j)(_:Q (g i j) H):rI C g x y H Q
inductive T5(g:Int->Int->V)(x y:V)(H:Hp)(Q:VK):Prop
 |mk(i j:Int)(_:x=.int i)(_:y=.int j)(_:Q (g i j) H):T5 g x y H Q
inductive rU(g:Int->V)(x:V)(H:Hp)(Q:VK):Prop
 |mk(i:Int)(_:x=.int i)(_:Q (g i) H):rU g x H Q
section
variable{a b c:Expr}{tb tc:TE}
def V1(ha:PE X a ta)(hb:PE X b tb){R:V->V->Hp->Prop}(I:Inv X pins σ H s)
  (h:ta σ H fun x H1=>tb σ H1 fun y H2=>R x y H2){f:Value->Value->Sem Value}
  (hf:∀v u s2 x y H2,Inv X pins σ H2 s2->RelV x v->RelV y u->R x y H2->wpAny 0xA X.A (f v u) Q X.xe s2):
  wpAny 0xA X.A (eval a X.env) (fun v s₁=>wpAny 0xA X.A (eval b X.env) (fun u s₂=>wpAny 0xA X.A (f v u) Q X.xe s₂) X.xe s₁) X.xe s:=by
 refine cN 0x61 fun v s1 zq=>?_;obtain⟨x,H1,I1,r1,q1⟩:=zq;refine cN (hb pins s1 σ H1 _ I1 q1) fun u s2 zq=>?_;obtain⟨y,H2,I2,r2,q2⟩:=zq;exact hf v u s2 x y H2 I2 r1 r2 q2
def aO{op:Operator}{r:R2}(ho:mQ X (binaryOp op) r)(ha:PE X a ta)(hb:PE X b tb):PE X (.BinOp a op b pos) (tOp r ta tb):=by
 intro pins s σ H Q I h;exact wpAny_BinOp (V1 ha hb I h fun v u s2 x y H2 I2 rx ry q=>ho pins s2 σ H2 x y v u Q I2 rx ry q)
def uW{op:UnaryOp}{r:V->Hp->VK->Prop}(ho:UnR X (unaryOp op) r)(ha:PE X a ta):PE X (.UnaryOp op a pos) (tUn r ta):=by
 intro pins s σ H Q I h;exact UnaryOp_ (cN 0x61 fun v s1 ⟨x,H1,I1,r1,q1⟩=>ho pins s1 σ H1 x v Q I1 r1 q1)
def Y8{f:Value->Value->Sem Value}{C:Int->Int->Prop}{g:Int->Int->Int}
  (rule:∀(i j:Int)(t u:Tok)(s:Shared)(Q:Value->Shared->Prop)(E:Value->Shared->Prop),C i j->Q (.int (g i j) s.toks) {s with toks:=s.toks+1}->wpAny 0xA X.A (f (.int i t) (.int j u)) Q E s):
  mQ X f (rI C fun i j=>.int (g i j)):=by
 intro pins s σ H x y v u Q I rx ry h;obtain⟨i,j,rfl,rfl,hc,q⟩:=h;obtain⟨t,rfl⟩:=rx;obtain⟨t',rfl⟩:=ry;exact rule i j t t' s _ _ hc ⟨.int (g i j),H,I.tok _,⟨_,rfl⟩,q⟩
def YC{f:Value->Value->Sem Value}{g:Int->Int->Int}
  (rule:∀(i j:Int)(t u:Tok)(s:Shared)(Q:Value->Shared->Prop)(E:Value->Shared->Prop),Q (.int (g i j) s.toks) {s with toks:=s.toks+1}->wpAny 0xA X.A (f (.int i t) (.int j u)) Q E s):
  mQ X f (T5 fun i j=>.int (g i j)):=by
 intro pins s σ H x y v u Q I rx ry h;obtain⟨i,j,rfl,rfl,q⟩:=h;obtain⟨t,rfl⟩:=rx;obtain⟨t',rfl⟩:=ry;exact rule i j t t' s _ _ ⟨.int (g i j),H,I.tok _,⟨_,rfl⟩,q⟩
def V2{f:Value->Value->Sem Value}{g:Int->Int->Bool}
  (rule:∀(i j:Int)(t u:Tok)(s:Shared)(Q:Value->Shared->Prop)(E:Value->Shared->Prop),Q (.bool (g i j)) s->wpAny 0xA X.A (f (.int i t) (.int j u)) Q E s):
  mQ X f (T5 fun i j=>.bl (g i j)):=by
 intro pins s σ H x y v u Q I rx ry h;obtain⟨i,j,rfl,rfl,q⟩:=h;obtain⟨t,rfl⟩:=rx;obtain⟨t',rfl⟩:=ry;exact rule i j t t' s _ _ ⟨.bl (g i j),H,I,rfl,q⟩
def CDiv(i j:Int):Prop:=0<j/\j<1073741824
def CPow(i j:Int):Prop:=0<=j/\j<=1000000/\i.natAbs<2^64
def V3(i j:Int):Prop:=(-(2^64)<i/\i<2^64)\/(-(2^64)<j/\j<2^64)
def V3.ok{i j:Int}(h:V3 i j):IntMulOk i j:=by
 rcases h with⟨h1,h2⟩|⟨h1,h2⟩
 ·exact .of_left (intBits_le_64 h1 h2)
 ·exact .of_right (intBits_le_64 h1 h2)
def cL:mQ X (binaryOp .Add) (T5 fun i j=>.int (i+j)):=YC fun _ _ _ _ _ _ _ q=>add_int q
def nU:mQ X (binaryOp .Sub) (T5 fun i j=>.int (i-j)):=YC fun _ _ _ _ _ _ _ q=>sub_int q
def iU:mQ X (binaryOp .Mult) (rI V3 fun i j=>.int (i*j)):=Y8 fun _ _ _ _ _ _ _ hc q=>mul_int q hc.ok
def mU:mQ X (binaryOp .FloorDiv) (rI CDiv fun i j=>.int (i/j)):=Y8 fun i j _ _ _ _ _ hc q=>by
 have h1:(0:Int)<j:=hc.1;have h2:j<1073741824:=hc.2;exact floordiv_int 0x1 (by rw[Int.fdiv_eq_ediv_of_nonneg i 0x1];exact q) (.inl (PyProof.noPylong_small 0x1))
def bL:mQ X (binaryOp .Mod) (rI (fun _ j=>0<j) fun i j=>.int (i%j)):=Y8 fun i j _ _ _ _ _ hc q=>by
 have h1:(0:Int)<j:=hc;exact mod_int' 0x1 (by rw[Int.fmod_eq_emod_of_nonneg i 0x1];exact q)
def V4:mQ X (binaryOp .Pow) (rI CPow fun i j=>.int (i^j.toNat)):=Y8 fun _ _ _ _ _ _ _ hc q=>pow_int_small hc.1 hc.2.1 hc.2.2 q
def unI{f:Value->Sem Value}{g:Int->Int}
  (rule:∀(i:Int)(t:Tok)(s:Shared)(Q:Value->Shared->Prop)(E:Value->Shared->Prop),Q (.int (g i) s.toks) {s with toks:=s.toks+1}->wpAny 0xA X.A (f (.int i t)) Q E s):
  UnR X f (rU fun i=>.int (g i)):=by
 intro pins s σ H x v Q I rx h;obtain⟨i,rfl,q⟩:=h;obtain⟨t,rfl⟩:=rx;exact rule i t s _ _ ⟨.int (g i),H,I.tok _,⟨_,rfl⟩,q⟩
def qg:UnR X (unaryOp .USub) (rU fun i=>.int (-i)):=unI fun _ _ _ _ _ q=>neg_int q
def Jz:V->V->Bool
 | .non,.non=>true| .non,.int _=>true| .int _,.non=>true| .non,.bl _=>true| .bl _,.non=>true| .non,.str _=>true| .str _,.non=>true
 | .int _,.int _=>true| .bl _,.bl _=>true| .str _,.str _=>true| .DR _,.DR _=>true
 | .int _,.str _=>true| .str _,.int _=>true| .bl _,.str _=>true| .str _,.bl _=>true
 |_,_=>false
def rEq:R2:=fun x y H Q=>Jz x y=true/\Q (.bl (decide (x=y))) H
def rNe:R2:=fun x y H Q=>Jz x y=true/\Q (.bl (!decide (x=y))) H
def rC{i j:Int}:decide (V.int i=V.int j)=(i==j):=by
 rw[A2g];simp
def JB{i j:Bool}:decide (V.bl i=V.bl j)=(i==j):=by
 rw[A2g];simp
def dU{i j:Str}:decide (V.str i=V.str j)=(i==j):=by
 rw[A2g];simp
def Ed{i j:Array UInt8}:decide (V.DR i=V.DR j)=(i.toList==j.toList):=by
 rw[A2g];cases i;cases j;simp
def cA{Q:VK}{k k':Bool}(I:Inv X pins σ H s)(q:Q (.bl k) H)(e:k=k'):EP X pins σ Q (.bool k') s:=by
 subst e;exact⟨.bl k,H,I,rfl,q⟩
def cU:mQ X (compareOp .Eq) rEq:=by
 intro pins s σ H x y v u Q I rx ry h;obtain⟨hs,q⟩:=h;cases x with
 | non=>
  cases rx;cases y with
  |non=>cases ry;exact PySem.EqNone.eq_none_none 0x42
  |bl j=>cases ry;exact PySem.EqNone.eq_none_bool 0x42
  |int j=>obtain⟨t',rfl⟩:=ry;exact PySem.EqNone.eq_none_int 0x42
  |str j=>obtain⟨t',rfl⟩:=ry;exact PySem.EqNone.eq_none_str 0x42
  |_=>exact absurd 0x2B A0n
 | bl i=>
  cases rx;cases y with
  |non=>cases ry;exact PySem.EqNone.eq_bool_none 0x42
  |bl j=>cases ry;exact eq_bool (cA I q JB)
  |str j=>obtain⟨t',rfl⟩:=ry;exact PySem.EqMixed.eq_bool_str 0x42
  |_=>exact absurd 0x2B A0n
 | int i=>
  obtain⟨t,rfl⟩:=rx;cases y with
  |non=>cases ry;exact PySem.EqNone.eq_int_none 0x42
  |int j=>obtain⟨t',rfl⟩:=ry;exact eq_int (cA I q rC)
  |str j=>obtain⟨t',rfl⟩:=ry;exact PySem.EqMixed.eq_int_str 0x42
  |_=>exact absurd 0x2B A0n
 | str i=>
  obtain⟨t,rfl⟩:=rx;cases y with
  |non=>cases ry;exact PySem.EqNone.eq_str_none 0x42
  |bl j=>cases ry;exact PySem.EqMixed.eq_str_bool 0x42
  |int j=>obtain⟨t',rfl⟩:=ry;exact PySem.EqMixed.eq_str_int 0x42
  |str j=>obtain⟨t',rfl⟩:=ry;exact eq_str (cA I q dU)
  |_=>exact absurd 0x2B A0n
 | DR i=>
  obtain⟨t,rfl⟩:=rx;cases y with
  |DR j=>obtain⟨t',rfl⟩:=ry;exact PySem.W.eq_bytes (cA I q Ed)
  |_=>exact absurd 0x2B A0n
 |_=>cases y<;>exact absurd 0x2B A0n
def lD:mQ X (compareOp .NotEq) rNe:=by
 intro pins s σ H x y v u Q I rx ry h;obtain⟨hs,q⟩:=h;cases x with
 | non=>
  cases rx;cases y with
  |non=>cases ry;exact PySem.EqNone.ne_none_none 0x42
  |bl j=>cases ry;exact PySem.EqNone.ne_none_bool 0x42
  |int j=>obtain⟨t',rfl⟩:=ry;exact PySem.EqNone.ne_none_int 0x42
  |str j=>obtain⟨t',rfl⟩:=ry;exact PySem.EqNone.ne_none_str 0x42
  |_=>exact absurd 0x2B A0n
 | bl i=>
  cases rx;cases y with
  |non=>cases ry;exact PySem.EqNone.ne_bool_none 0x42
  |bl j=>cases ry;exact ne_bool (cA I q (A1r not JB))
  |str j=>obtain⟨t',rfl⟩:=ry;exact PySem.EqMixed.ne_bool_str 0x42
  |_=>exact absurd 0x2B A0n
 | int i=>
  obtain⟨t,rfl⟩:=rx;cases y with
  |non=>cases ry;exact PySem.EqNone.ne_int_none 0x42
  |int j=>obtain⟨t',rfl⟩:=ry;exact ne_int (cA I q (A1r not rC))
  |str j=>obtain⟨t',rfl⟩:=ry;exact PySem.EqMixed.ne_int_str 0x42
  |_=>exact absurd 0x2B A0n
 | str i=>
  obtain⟨t,rfl⟩:=rx;cases y with
  |non=>cases ry;exact PySem.EqNone.ne_str_none 0x42
  |bl j=>cases ry;exact PySem.EqMixed.ne_str_bool 0x42
  |int j=>obtain⟨t',rfl⟩:=ry;exact PySem.EqMixed.ne_str_int 0x42
  |str j=>obtain⟨t',rfl⟩:=ry;exact ne_str (cA I q (A1r not dU))
  |_=>exact absurd 0x2B A0n
 | DR i=>
  obtain⟨t,rfl⟩:=rx;cases y with
  |DR j=>obtain⟨t',rfl⟩:=ry;exact PySem.W.ne_bytes (cA I q (A1r not Ed))
  |_=>exact absurd 0x2B A0n
 |_=>cases y<;>exact absurd 0x2B A0n
def yU:mQ X (compareOp .Lt) (T5 fun i j=>.bl (decide (i<j))):=V2 fun _ _ _ _ _ _ _ q=>lt_int q
def T6:mQ X (compareOp .LtE) (T5 fun i j=>.bl (decide (i<=j))):=V2 fun _ _ _ _ _ _ _ q=>le_int q
def Ef:mQ X (compareOp .Gt) (T5 fun i j=>.bl (decide (j<i))):=V2 fun _ _ _ _ _ _ _ q=>gt_int q
def Eh:mQ X (compareOp .IsNot) (fun x y H Q=>y=.non/\Q (.bl (!decide (x=.non))) H):=by
 intro pins s σ H x y v u Q I rx ry h;obtain⟨rfl,q⟩:=h;cases ry;refine isnot_none_gen (cA I q ?_);cases x<;>first
  |(cases rx;rfl)
  |(obtain⟨t,rfl⟩:=rx;rfl)
def bA(b:Expr)(h:op≠.In:=by decide)(h2:op≠.NotIn:=by decide):behindInMarks op b=false:=by
 have e1:(op==CmpOp.In)=false:=by cases op<;>first|rfl|exact absurd rfl h
 have e2:(op==CmpOp.NotIn)=false:=by cases op<;>first|rfl|exact absurd rfl h2
 cases b<;>simp[behindInMarks,e1,e2]
def fW{r:R2}(ho:mQ X (compareOp op) r)(ha:PE X a ta)(hb:PE X b tb)(hm:behindInMarks op b=false):PE X (.Compare a [op] [b] pos) (tOp r ta tb):=by
 intro pins s σ H Q I h;exact wpAny_Compare1 (V1 ha hb I h fun v u s2 x y H2 I2 rx ry q=>ho pins s2 σ H2 x y v u Q I2 rx ry q) hm
inductive Ei(Q:Bool->Hp->Prop)(x:V)(H':Hp):Prop
 |mk(k:Bool)(_:x=.bl k)(_:Q k H'):Ei Q x H'
def YD(t:TE):TT:=fun σ H Q=>t σ H fun x H'=>Ei Q x H'
def aQ{r:R2}(ho:mQ X (compareOp op) r)(ha:PE X a ta)(hb:PE X b tb)(hm:behindInMarks op b=false):PT X (.Compare a [op] [b] pos) (YD (tOp r ta tb)):=by
 intro pins s σ H Q I h;refine wpAny_isTrue_Compare1 (cN 0x61 fun v s1 ⟨x,H1,I1,r1,q1⟩=>cN (hb pins s1 σ H1 _ I1 q1) fun u s2 ⟨y,H2,I2,r2,q2⟩=>
  cN (ho pins s2 σ H2 x y v u _ I2 r1 r2 q2) fun c s3 ⟨z,H3,I3,r3,k,e,q3⟩=>?_) hm
 subst e;cases r3;exact A1P ⟨H3,I3,q3⟩
inductive yV(r':R2)(tc:TE)(σ:L2.St)(Q:VK)(y z:V)(H3:Hp):Prop
 |mk(k:Bool)(_:z=.bl k)(_:(if k=true then tc σ H3 fun w' H4=>r' y w' H4 Q else Q (.bl false) H3)):yV r' tc σ Q y z H3
def V5(r r':R2)(ta tb tc:TE):TE:=fun σ H Q=>ta σ H fun x H1=>tb σ H1 fun y H2=>r x y H2 fun z H3=>yV r' tc σ Q y z H3
def JC{op':CmpOp}{r r':R2}(ho:mQ X (compareOp op) r)(ho':mQ X (compareOp op') r')(ha:PE X a ta)(hb:PE X b tb)(hc:PE X c tc)
  (hm:lastMarks [op,op'] [b,c]=false:=by with_unfolding_all rfl):PE X (.Compare a [op,op'] [b,c] pos) (V5 r r' ta tb tc):=by
 intro pins s σ H Q I h;refine Compare_chain (cN 0x61 fun v s1 ⟨x,H1,I1,r1,q1⟩=>chain_link (cN (hb pins s1 σ H1 _ I1 q1) fun u s2 ⟨y,H2,I2,r2,q2⟩=>
  cN (ho pins s2 σ H2 x y v u _ I2 r1 r2 q2) fun d s3 ⟨z,H3,I3,r3,k,e,q3⟩=>?_)) hm
 subst e;cases r3;refine A1P ?_;cases k with
 |false=>exact ite_ff ⟨.bl false,H3,I3,rfl,q3⟩
 |true=>exact ite_tt (chain_last (cN (hc pins s3 σ H3 _ I3 q3) fun w' s4 ⟨z',H4,I4,r4,q4⟩=>ho' pins s4 σ H4 y z' u w' Q I4 r2 r4 q4))
def sG:(sizeLine:Nat)<2^63:=by rw[A1H];decide
def sH:mQ X (binaryOp .Add) (fun x y H Q=>∃i j,x=.str i/\y=.str j/\i.length+j.length<=sizeLine/\Q (.str (i++j)) H):=by
 intro pins s σ H x y v u Q I rx ry h;obtain⟨i,j,rfl,rfl,hz,q⟩:=h;obtain⟨t,rfl⟩:=rx;obtain⟨t',rfl⟩:=ry;exact add_str (fun t' tk=>⟨.str (i++j),H,I.tok _,⟨_,rfl⟩,q⟩) hz
def vals1{x:V}(r:Vals [x] us):∃u,us=[u]/\RelV x u:=by
 cases r with
 |cons r1 r2=>cases r2;exact⟨_,rfl,r1⟩
def vals2{x:V}(r:Vals [x,y] us):∃u w',us=[u,w']/\RelV x u/\RelV y w':=by
 cases r with
 | cons r1 r2=>
  cases r2 with
  |cons r3 r4=>cases r4;exact⟨_,_,rfl,r1,r3⟩
def oN:gw X (.builtin "abs") (fun xs H Q=>∃i,xs=[.int i]/\Q (.int (if i<0 then -i else i)) H):=by
 intro pins s σ H xs us Q I r h;obtain⟨i,rfl,q⟩:=h;obtain⟨u,rfl,t,rfl⟩:=vals1 r;exact call_abs_int fun u tk=>⟨.int (if i<0 then -i else i),H,I.tok _,⟨_,rfl⟩,q⟩
def uX(hc:X.calm=true):gw X (.builtin "max") (fun xs H Q=>∃i j,xs=[.int i,.int j]/\Q (.int (if j>i then j else i)) H):=by
 intro pins s σ H xs us Q I r h;obtain⟨i,j,rfl,q⟩:=h;obtain⟨u,w',rfl,⟨t,rfl⟩,⟨t',rfl⟩⟩:=vals2 r;refine max_two_ints 0x95 fun h' tk k=>⟨_,H,I.kept k,?_,q⟩
 by_cases hj:j>i
 ·rw[A0i hj,A0i hj];exact⟨_,rfl⟩
 ·rw[A0f hj,A0f hj];exact⟨_,rfl⟩
def Hf(hc:X.calm=true):gw X (.builtin "min") (fun xs H Q=>∃i j,xs=[.int i,.int j]/\Q (.int (if j<i then j else i)) H):=by
 intro pins s σ H xs us Q I r h;obtain⟨i,j,rfl,q⟩:=h;obtain⟨u,w',rfl,⟨t,rfl⟩,⟨t',rfl⟩⟩:=vals2 r;refine min_two_ints 0x95 fun h' tk k=>⟨_,H,I.kept k,?_,q⟩
 by_cases hj:j<i
 ·rw[A0i hj,A0i hj];exact⟨_,rfl⟩
 ·rw[A0f hj,A0f hj];exact⟨_,rfl⟩
def uY:gw X (.type "int") (fun xs H Q=>(∃i,xs=[.int i]/\Q (.int i) H)\/∃k,xs=[.bl k]/\Q (.int (if k then 1 else 0)) H):=by
 intro pins s σ H xs us Q I r h;rcases h with⟨i,rfl,q⟩|⟨k,rfl,q⟩
 ·obtain⟨u,rfl,t,rfl⟩:=vals1 r;exact call_int_int ⟨.int i,H,I,⟨_,rfl⟩,q⟩
 ·obtain⟨u,rfl,r1⟩:=vals1 r;cases r1;exact call_int_bool ⟨.int (if k then 1 else 0),H,I.tok _,⟨_,rfl⟩,q⟩
end
structure Bh(h:Heap)(x dx C:Addr)(mA:Str->Option Value):Prop where
 obj:h.get? x=some (PySem.W.instObj C dx)
 ns:h.Ns1 dx mA
 ne:dx≠x
def Hg(n:h.Ns1 dx mA):∃od,h.get? dx=some od/\∀name,PySem.W.lookIn name od=some (mA name):=by
 obtain⟨o,es,ep,ho,hd,hk,_,hm⟩:=n;refine⟨o,ho,fun name=>?_⟩;have e:=hm name;unfold nsFind findBy at e;rw[<-Array.find?_toList]at e;unfold PySem.W.lookIn;rw[hd];dsimp only
 split
 ·rename_i y q
  rw[q]at e;exact A1r some e
 ·rename_i q
  rw [q]at e;have a:es.toList.any (·.refKey)=false:=by
   rw[List.any_eq_false];intro y hy;obtain⟨z,t,hkey⟩:=hk y (Array.mem_toList_iff.mp hy);simp[DictEntry.refKey,hkey]
  have a':¬es.toList.any (·.refKey)=true:=by rw[a];exact A0n
  rw[A0f a'];exact A1r some e
def Bh.look{x:Addr}(I:Bh h x dx C mA):∃od,PySem.W.InstAt h x (PySem.W.instObj C dx) C (some od)/\∀name,PySem.W.lookIn name od=some (mA name):=
 let⟨od,ho,hl⟩:=Hg I.ns
 ⟨od,⟨I.obj,rfl,rfl,ho⟩,hl⟩
section
variable{x:Addr}{v:Value}
def get_map{expr:Bool}(X:K.In s.heap)(I:Bh s.heap x dx C mA)(hg:PySem.W.plainGet K C name=true)(hh:PySem.W.hasDictIn K C=true)
  (ha:PySem.W.findIn K 0x8C name=some none)(hv:mA name=some v)(hv':PySem.W.handedIn v=true)(h:Q v {s with toks:=s.toks+1}):
  wpAny 0xB A (getAttr (.ref x) name expr) Q E s:=by
 obtain⟨od,J,hl⟩:=I.look;exact PySem.W.get_value X J (A4a hg).1 (PySem.W.findObj_own hh ha rfl (by rw[hl,hv])) hv' h
def JD{pl:Sem Bool}{Q:Value×List Value->Shared->Prop}(X:K.In s.heap)(I:Bh s.heap x dx C mA)(hg:PySem.W.plainGet K C name=true)
  (hf:PySem.W.findIn K 0x8C name=some (some 0x75))(ht:PySem.W.isFn K 0x75=true)(hv:mA name=none)(h:Q (.ref f,[.ref x]) s):
  wpAny 0xB A (getMethod (.ref x) name pl) Q E s:=by
 obtain⟨od,J,hl⟩:=I.look;exact PySem.W.method_fn X J (A4a hg).1 (A4a hg).2 hf (A3s.mp ht) (by show(PySem.W.lookIn name od).map (·.isSome)=some false;rw[hl,hv];rfl) h
def PB{ns:List Str}{Q:Unit->Shared->Prop}(X:K.In s.heap)(I:Bh s.heap x dx C mA)
  (hs:PySem.W.findIn K 0x8C "__setattr__"=some (some (.builtin "object.__setattr__")))(hp:PySem.W.plainOver K C=true)(ht:PySem.W.takerIn K C name=some none)(hh:PySem.W.hasDictIn K C=true)
  (hw:PySem.Within mA ns)(hsz:ns.length<=sizeLine)
  (h:∀h',Bh h' x dx C (fun y=>if y=name then some v else mA y)->Heap.SameBut dx s.heap h'->Q () {s with heap:=h',toks:=s.toks+2}):
  wpAny 0xB A (setAttr (.ref x) name v) Q E s:=by
 obtain⟨od,J,hl⟩:=I.look;refine PySem.W.set_plain X J hs (PySem.W.osa_open (s:={s with toks:=s.toks+1}) (r:=none) X J hp ht fun b=>?_);obtain⟨cd,hc,hd'⟩:=PySem.W.any_some hh;have hx:s.heap.get? x=some ⟨.ref C,some dx,.plain,#[]⟩:=I.obj;refine A0a (A0d (A0a (A0a (wpAny_loadPart hx (A0a (PySem.W.Looks.here (s:={s with toks:=s.toks+1}) (PySem.W.looks_clsIn X hc) ?_))))));rw[hd'];refine A0d (a:=some dx) (A0a (A0d (A0a ?_)));refine wpAny_nsSet1 (s:={s with toks:=s.toks+1}) I.ns fun h' hn2 hs2=>?_;obtain⟨oD,esD,epD,hoD,hdD,hcD⟩:=hn2.count (PySem.Within.cons name v hw);refine A0a (wpAny_lookBehind hoD (by rw[hdD];exact pastItsLine_dict (A0L hcD (by rw[rT];lia))) ?_);exact A0d (h _ ⟨(hs2.2 _ (A0k I.ne)).trans I.obj,hn2,I.ne⟩ hs2)
def JF{R:Result->Shared->Prop}{vs:List Value}(X:K.In s.heap)(hm:PySem.W.makesIn K C=true)
  (hi:PySem.W.findIn K 0x8C "__init__"=some (some 0x75))(hf:PySem.W.typeIn K 0x75=some (.type "function"))
  (h:codeAny 0xB (A.under (.builtin "type.__call__" ⟨.ref C::vs,kw⟩)) (.call 0x75 ⟨.ref 0x14::vs,kw⟩) (PySem.W.InitBack 0x14 R)
   {s with heap:=(0x4C).push 0x80}):
  codeAny 0xB A (.call 0x8C ⟨vs,kw⟩) R s:=by
 obtain⟨hh,g,d,t,os⟩:=s;exact PySem.W.make_core (PySem.W.makes_of X hm) (PySem.W.looks_findIn X hi) (fun self=>PySem.W.bind_fn X self hf) 0x6F h
end
def nJ(f:Str)(v:V):List (Str×V)->List (Str×V)
 |[]=>[(f,v)]
 |(g,x)::r=>if g=f then(g,v)::r else(g,x)::nJ f v r
theorem qO(f g:Str)(v:V):∀fs:List (Str×V),(nJ f v fs).lookup g=if g=f then some v else fs.lookup g
 | []=>by
  show List.lookup g [(f,v)]=_
  by_cases h:g=f
  ·have hb:(g==f)=true:=A3s.mpr h;simp only[List.lookup,hb,A0i h]
  ·have hb:(g==f)=false:=A1V.mpr h;simp only[List.lookup,hb,A0f h]
 | (k,x)::r=>by
  have ih:=qO f g v r;rw[show nJ f v ((k,x)::r)=(if k=f then(k,v)::r else(k,x)::nJ f v r)from rfl]
  by_cases hk:k=f
  ·rw[A0i hk]
   by_cases h:g=k
   ·have hb:(g==k)=true:=A3s.mpr h;simp only[List.lookup,hb,A0i (h.trans hk)]
   ·have hb:(g==k)=false:=A1V.mpr h;simp only[List.lookup,hb,A0f (fun e:g=f=>h (e.trans hk.symm))]
  ·rw[A0f hk]
   by_cases h:g=k
   ·have hb:(g==k)=true:=A3s.mpr h;simp only[List.lookup,hb,A0f (fun e:g=f=>hk (h.symm.trans e))]
   ·have hb:(g==k)=false:=A1V.mpr h;simp only[List.lookup,hb];exact ih
theorem qj(f:Str)(v:V):∀fs:List (Str×V),f∈(nJ f v fs).map (·.1)/\∀g,g∈fs.map (·.1)->g∈(nJ f v fs).map (·.1)
 |[]=>⟨by simp[nJ],fun g h=>by simp at h⟩
 | (k,x)::r=>by
  obtain⟨i1,i2⟩:=qj f v r;rw[show nJ f v ((k,x)::r)=(if k=f then(k,v)::r else(k,x)::nJ f v r)from rfl]
  by_cases hk:k=f
  ·rw[A0i hk];subst hk;exact⟨by simp,fun g h=>by simpa using h⟩
  ·rw [A0f hk];refine⟨?_,fun g h=>?_⟩
   ·rw[A0r];exact lH _ i1
   ·rw[A0r]at h ⊢;rcases A0c.mp h with e|e
    ·exact A0c.mpr (.inl e)
    ·exact lH _ (i2 g e)
theorem qP(f:Str)(v:V):∀fs:List (Str×V),(nJ f v fs).length<=fs.length+1
 |[]=>by simp[nJ]
 | (k,x)::r=>by
  have ih:=qP f v r;rw[show nJ f v ((k,x)::r)=(if k=f then(k,v)::r else(k,x)::nJ f v r)from rfl]
  by_cases hk:k=f
  ·rw[A0i hk,rT,rT];lia
  ·rw[A0f hk,rT,rT];lia
def j8.some_of{o:Option Value}(r:j8 0x8B o):∃u,o=some u/\RelV v u:=by
 cases o with
 |none=>exact(show False from r).elim
 |some u=>exact⟨u,rfl,r⟩
def j8.none_of{o:Option Value}(r:j8 none o):o=none:=by
 cases o with
 |none=>rfl
 |some u=>exact(show False from r).elim
def Hh(r:RelV v u):PySem.W.handedIn u=true:=by
 cases v with
 |non=>cases(show u=Value.none from r);rfl
 |bl b=>cases(show u=Value.bool b from r);rfl
 |int i=>obtain⟨t,e⟩:=(show ∃t,u=Value.int i t from r);cases e;rfl
 |str x=>obtain⟨t,e⟩:=(show ∃t,u=Value.str x t from r);cases e;rfl
 |DR b=>obtain⟨t,e⟩:=(show ∃t,u=Value.bytes b t from r);cases e;rfl
 |flt b=>obtain⟨t,e⟩:=(show ∃t,u=Value.float b t from r);cases e;rfl
 |ref a=>cases(show u=Value.ref a from r);rfl
 |ty n=>cases(show u=Value.type n from r);rfl
section
variable{fs fs':List (Str×V)}
def rD(hok:nP P w H h)(e:H a=some (.ins C dx fs)):∃mA,Bh h a dx C mA/\(∀f,j8 (fs.lookup f) (mA f))/\PySem.Within mA (fs.map (·.1))/\fs.length<=1000/\H dx=some (.own a):=by
 obtain⟨d,z,ne,ob,mA,n,r,q⟩:=(show cI P w H h a (.ins C dx fs)from hok a _ e)
 exact⟨mA,⟨ob,n,ne⟩,r,q,z,d⟩
end
structure Cls(K:PySem.W.Frag)(C:Addr):Prop where
 pg:PySem.W.plainGet K C Str.empty=true
 hd:PySem.W.hasDictIn K C=true
 po:PySem.W.plainOver K C=true
 sa:PySem.W.findIn K 0x8C "__setattr__"=some (some (.builtin "object.__setattr__"))
def Cls.get(c:Cls K C)(f:Str):PySem.W.plainGet K C f=true:=c.pg
def jq(K:PySem.W.Frag)(C:Addr)(f:Str):Prop:=PySem.W.findIn K 0x8C f=some none
def jq.taker{f:Str}(n:jq K C f):PySem.W.takerIn K C f=some none:=by
 unfold PySem.W.takerIn;rw[show PySem.W.findIn K 0x8C f=some none from n]
 rfl
structure Con(K:PySem.W.Frag)(C:Addr)(f:Str)(v:V)(u:Value):Prop where
 at_:PySem.W.findIn K 0x8C f=some (some u)
 rel:RelV v u
 get:PySem.W.specialIn K u "__get__"=some none
 cp:PySem.W.copiedNames.contains f=false
structure Meth(K:PySem.W.Frag)(C:Addr)(m:Str)(f:Addr):Prop where
 at_:PySem.W.findIn K 0x8C m=some (some 0x75)
 fn:PySem.W.isFn K 0x75=true
 kp:PySem.W.keepIn K 0x75=true
section
variable{fs:List (Str×V)}{f:Str}
def Bj{b:Bool}(I:Inv X pins σ H s)(e:H a=some (.ins C dx fs))(c:Cls X.K C)(n:jq X.K C f)(l:fs.lookup f=some v)
  (h:∀u s',Inv X pins σ H s'->RelV v u->Q u s'):wpAny 0xA A (getAttr 0x48 f b) Q E s:=by
 obtain⟨mA,O,r,_,_,_⟩:=rD I.hok e;obtain⟨u,hu,ru⟩:=j8.some_of (v:=v) (o:=mA f) (by rw[<-l];exact r f);exact get_map I.pZ O (c.get f) c.hd n hu (Hh ru) (h u _ (I.tok _) ru)
def sI{m:Str}{g:Addr}{pl:Sem Bool}{Q:Value×List Value->Shared->Prop}(I:Inv X pins σ H s)(e:H a=some (.ins C dx fs))(c:Cls X.K C)(k:Meth X.K C m g)(l:fs.lookup m=none)
  (h:Q (.ref g,[.ref a]) s):wpAny 0xA A (getMethod 0x48 m pl) Q E s:=by
 obtain⟨mA,O,r,_,_,_⟩:=rD I.hok e;have hn:mA m=none:=j8.none_of (by rw[<-l];exact r m);exact JD I.pZ O (c.get m) k.at_ k.fn hn h
def Bl{Q:Unit->Shared->Prop}(I:Inv X pins σ H s)(e:H a=some (.ins C dx fs))(c:Cls X.K C)(n:jq X.K C f)(hl:fs.length<1000)(ry:RelV y u)
  (h:∀s',Inv X pins σ (upd H a (.ins C dx (nJ f y fs))) s'->Q () s'):wpAny 0xA A (setAttr 0x48 f u) Q E s:=by
 obtain⟨mA,O,r,wi,_,ho⟩:=rD I.hok e;have hz:(fs.map (·.1)).length<=sizeLine:=by rw[bY,A1H];lia
 refine PB I.pZ O c.sa c.po n.taker c.hd wi hz fun h' O' sb=>h _ ?_;have hd:∃o,h'.get? dx=some o:=let⟨o,_,_,e',_⟩:=O'.ns;⟨o,e'⟩
 refine I.write (x:=a) (e:=dx) 0x76 (.inr ho) (fun b q hb z=>(sb.2 b hb).trans z) hd ?_;refine⟨by rw[ak O.ne];exact ho,?_,O.ne,O'.obj,_,O'.ns,fun g=>?_,fun g hg=>?_⟩
 ·have:=qP f y fs;lia
 ·show j8 ((nJ f y fs).lookup g) (if g=f then some u else mA g)
  rw[qO]
  by_cases q:g=f
  ·rw[A0i q,A0i q];exact ry
  ·rw[A0f q,A0f q];exact r g
 ·by_cases q:g=f
  ·rw[q];exact(qj f y fs).1
  ·refine(qj f y fs).2 g (wi g fun z=>hg ?_)
   show(if g=f then some u else mA g)=none
   rw[A0f q];exact z
def Inv.made(I:Inv X pins σ H s):Inv X pins σ (upd (upd H s.heap.objs.size (.own 0x14)) 0x14 (.ins C s.heap.objs.size []))
  {s with heap:=(0x4C).push 0x80}:=by
 have e1:(0x4C).get? s.heap.objs.size=some PySem.W.emptyDict:=A0m s.heap rfl;have e2:((0x4C).push 0x80).get? 0x14=some 0x80:=by
  have:=A0m 0x4C (o:=PySem.W.instObj C s.heap.objs.size) rfl
  rwa [A1s]at this
 have e3:(0x4C).Ns s.heap.objs.size (fun _=>none):=⟨PySem.W.emptyDict,#[],_,e1,rfl,(fun e he=>absurd he 0x8),fun _=>rfl⟩;have I1:=I.laid (a:=s.heap.objs.size) (o:=.own 0x14) (h':=s.heap.push PySem.W.emptyDict) (t':=s.toks) (fun b u q=>A0b _ q) 0x2F ⟨_,e1⟩;refine I1.laid (a:=s.heap.objs.size+1) (o:=.ins C s.heap.objs.size []) (t':=s.toks) (fun b u q=>A0b _ q) (Nat.le_of_eq (A1s _ _)) ?_;have ne:s.heap.objs.size≠s.heap.objs.size+1:=A0I (A2w _);refine⟨by rw[ak ne,ao],A1i _,ne,e2,fun _=>none,(Heap.Ns1.of_empty e3).at fun o q=>A0b _ q,fun _=>True.intro,fun y hy=>absurd rfl hy⟩
def PJ{f:Str}(hb:attributeBase e f env (eval e env)=eval e env)
  (h:wpAny 0xB A (eval e env) (fun o s₁=>wpAny 0xB A (getAttr o f true) Q E s₁) E s):wpAny 0xB A (eval (.Attribute e f pos) env) Q E s:=
 Attribute_any_ h (by rw[arm_eval_Attribute,hb])
end
inductive JG(K:W.Frag)(f:Str)(Q:VK)(x:V)(H1:Hp):Prop
 |mk(a C dx:Addr)(fs:List (Prod Str V))(v:V)(_:x=.ref a)(_:H1 a=some (.ins C dx fs))(_:Cls K C)(_:jq K C f)(_:fs.lookup f=some v)(_:Q v H1):JG K f Q x H1
def tFld(K:PySem.W.Frag)(ta:TE)(f:Str):TE:=fun σ H Q=>ta σ H fun x H1=>JG K f Q x H1
inductive wM(K:W.Frag)(f:Str)(D:Ends)(σ:L2.St)(y x:V)(H2:Hp):Prop
 |mk(a C dx:Addr)(fs:List (Prod Str V))(_:x=.ref a)(_:H2 a=some (.ins C dx fs))(_:Cls K C)(_:jq K C f)(_:fs.length<1000)(_:D.nx σ (upd H2 a (.ins C dx (nJ f y fs)))):wM K f D σ y x H2
def V6(K:PySem.W.Frag)(ta tv:TE)(f:Str):TS:=fun D σ H=>tv σ H fun y H1=>ta σ H1 fun x H2=>wM K f D σ y x H2
def V7(X:Cx)(op:Operator)(rd:V->V->Hp->VK->Prop):Prop:=
 ∀(pins:List 0x1E)(s:Shared)(σ:St)(H:Hp)(x y:V)(u v:Value)(Q:VK),Inv X pins σ H s->RelV x u->RelV y v->rd x y H Q->wpAny 0xA X.A (inplaceOp op u v) 0x3F X.xe s
section
variable{o:Expr}{f:Str}{tpos:Pos}
def bK(he:PE X e ta)(hb:attributeBase e f X.env (eval e X.env)=eval e X.env):PE X (.Attribute e f pos) (tFld X.K ta f):=by
 intro pins s σ H Q I h;refine PJ hb (cN 0x79 fun u s1 zq=>?_);obtain⟨x,H1,I1,rx,a,C,dx,fs,v,ex,ea,c,n,l,q⟩:=zq;subst ex;obtain rfl:u=Value.ref a:=rx;exact Bj I1 ea c n l fun u' s2 I2 ru=>⟨v,H1,I2,ru,q⟩
def jJ(ha:PE X o ta)(hv:PE X value tv)(hs:swapsWith value (some (.Attribute o f pos')) pos.line X.env=pure false):PS X (.Assign [.Attribute o f pos'] value pos) (V6 X.K ta tv f):=by
 intro pins s σ H D I h;refine plainObj_wpAny_Assign_Attribute (cN (hv pins s σ H _ I h) fun u s1 ⟨y,H1,I1,ry,q⟩=>cN (ha pins s1 σ H1 _ I1 q) fun ov s2 ⟨x,H2,I2,rx,a,C,dx,fs,ex,ea,c,n,l,q2⟩=>?_) hs;subst ex;obtain rfl:ov=Value.ref a:=rx;exact Bl I2 ea c n l ry fun s3 I3=>⟨σ,_,I3,q2⟩
inductive YF(x y:V)(H:Hp)(Q:VK):Prop
 |mk(i j:Int)(_:x=.int i)(_:y=.int j)(_:Q (.int (i+j)) H):YF x y H Q
inductive YG(x y:V)(H:Hp)(Q:VK):Prop
 |mk(i j:Int)(_:x=.int i)(_:y=.int j)(_:Q (.int (i-j)) H):YG x y H Q
def JH:V7 X .Add YF:=by
 rintro pins s σ H x y u v Q I rx ry ⟨i,j,rfl,rfl,q⟩;obtain⟨t,rfl⟩:=(show ∃t,u=Value.int i t from rx)
 obtain⟨t',rfl⟩:=(show ∃t',v=Value.int j t' from ry)
 exact PyProof.Rows.iadd_int ⟨.int (i+j),H,I.tok _,⟨_,rfl⟩,q⟩
def wN:V7 X .Sub YG:=by
 rintro pins s σ H x y u v Q I rx ry ⟨i,j,rfl,rfl,q⟩;obtain⟨t,rfl⟩:=(show ∃t,u=Value.int i t from rx)
 obtain⟨t',rfl⟩:=(show ∃t',v=Value.int j t' from ry)
 exact PyProof.Rows.isub_int ⟨.int (i-j),H,I.tok _,⟨_,rfl⟩,q⟩
end
section
variable{c:Value}{b:Bool}
inductive oO(K:PySem.W.Frag)(H:Hp):V->Value->Prop where
 |non:oO K H .non (.type "NoneType")
 |bl (x:Bool):oO K H (.bl x) (.type "bool")
 |int (i:Int):oO K H (.int i) (.type "int")
 |str (x:Str):oO K H (.str x) (.type "str")
 |flt (x:UInt64):oO K H (.flt x) (.type "float")
 |lst {a:Addr}{xs:List V} (e:H a=some 0x53):oO K H 0x48 (.type "list")
 |gD {a:Addr}{o:Obj}{xs:List V} (e:H a=some (.gD o 0x53)):oO K H 0x48 (.type "list")
 |tup {a:Addr}{xs:List V} (e:H a=some 0x52):oO K H 0x48 (.type "tuple")
 |dK {a:Addr}{kvs:List 0x45} (e:H a=some 0x18):oO K H 0x48 (.type "dict")
 |dT {a:Addr}{kvs:List (List Key×V)} (e:H a=some (.dT kvs)):oO K H 0x48 (.type "dict")
 | ins {a C dx:Addr}{fs:List (Str×V)} (e:H a=some (.ins C dx fs)) (cl:Cls K C) (ha:PySem.W.findIn K 0x8C "__class__"=some (some 0x6A))
   (hn:PySem.W.specialIn K 0x6A "__get__"=some (some (.builtin "getset_descriptor.__get__"))) (htk:PySem.W.takesIn K 0x6A=some true)
   (hm:PySem.W.mroIn K C (.type "object")=some true):oO K H 0x48 0x8C
def Hi{x:V}{t:Value}(I:Inv X pins σ H s)(rx:RelV x u)(ty:oO X.K H x t)(e:PySem.W.kitOne X.K t c=some b)(h:∀tk,Q (.bool b) {s with toks:=tk}):
  wpAny 0xA A (call (.builtin "isinstance") [u,c]) Q E s:=by
 cases ty with
 |non=>cases(show u=Value.none from rx);exact A1o PySem.W.kitx_none I.pZ True.intro e 0x58 h
 |bl y=>cases(show u=Value.bool y from rx);exact A1o PySem.W.kitx_bool I.pZ True.intro e 0x58 h
 |int i=>obtain⟨t,q⟩:=(show ∃t,u=Value.int i t from rx);cases q;exact A1o PySem.W.kitx_int I.pZ True.intro e 0x58 h
 |str y=>obtain⟨t,q⟩:=(show ∃t,u=Value.str y t from rx);cases q;exact A1o PySem.W.kitx_str I.pZ True.intro e 0x58 h
 |flt y=>obtain⟨t,q⟩:=(show ∃t,u=Value.float y t from rx);cases q;exact A1o PySem.W.kitx_float I.pZ True.intro e 0x58 h
 | @lst a xs ea=>
  cases 0x90
  obtain⟨_,_,n,_,h1⟩:=(show cI X.prog X.w H s.heap a 0x53 from I.hok a _ ea)
  exact A1o PySem.W.kitx_list I.pZ ⟨_,h1,rfl⟩ e 0x58 h
 | @gD a ob xs ea=>
  cases 0x90
  obtain⟨_,_,_,n,_,h1⟩:=(show cI X.prog X.w H s.heap a (.gD ob 0x53)from I.hok a _ ea)
  exact A1o PySem.W.kitx_list I.pZ ⟨_,h1,rfl⟩ e 0x58 h
 | @tup a xs ea=>
  cases 0x90
  obtain⟨_,_,_,p⟩:=(show cI X.prog X.w H s.heap a 0x52 from I.hok a _ ea)
  obtain⟨o,h1,h2,_⟩:=p;exact A1o PySem.W.kitx_tuple I.pZ ⟨o,h1,h2⟩ e 0x58 h
 | @dK a kvs ea=>
  cases 0x90
  obtain⟨_,_,vs,_,p⟩:=(show cI X.prog X.w H s.heap a 0x18 from I.hok a _ ea)
  obtain⟨o,es,ep,h1,h2,_⟩:=p;exact A1o PySem.W.kitx_dict I.pZ ⟨o,h1,h2.1⟩ e 0x58 h
 | @dT a kvs ea=>
  cases 0x90
  obtain⟨_,_,xs,_,o,es,ep,h1,h2,_⟩:=(show cI X.prog X.w H s.heap a (.dT kvs)from I.hok a _ ea)
  exact A1o PySem.W.kitx_dict I.pZ ⟨o,h1,h2.1⟩ e 0x58 h
 | @ins a C dx fs ea cl ha hn htk hm=>
  cases 0x90
  obtain⟨mA,O,_⟩:=rD I.hok ea;obtain⟨od,J,_⟩:=O.look;exact A1o (PySem.W.kitx_own (cl.get _) cl.hd ha hn htk hm) I.pZ J e 0x58 h
end
structure fK(k:Nat)(A:Around):Prop where
 hd:A.handled=none
 dp:A.depth+3*k+5<recursionLimit
 un:A.units+16*k+200<cLine
def fK.mono{k:Nat}(r:fK k A)(h:j<=k):fK j A:=⟨r.hd,by have:=r.dp;lia,by have:=r.un;lia⟩
def fK.deeper{k:Nat}(r:fK (k+1) A)(env:Env):fK k (A.deeper env):=
 ⟨r.hd,by have:=r.dp;show A.depth+1+3*k+5<_;lia,by have:=r.un;show A.units+3+16*k+200<_;lia⟩
def Bm:(A.under (.builtin "type.__call__" ⟨.ref C::us,kw⟩)).depth=A.depth+1:=by
 first|rfl|simp[Around.under,Code.weight,Code.isCreation,Code.isGuard,Code.isCaller,Code.frames,Code.isFrame,guardIds]
def Bo:(A.under (.builtin "type.__call__" ⟨.ref C::us,kw⟩)).units=A.units+1:=by
 first|rfl|simp[Around.under,Code.cUnits,Code.frames,Code.isFrame]
def fK.make{k:Nat}(r:fK (k+1) A)(C:Addr)(us:List Value)(kw:List (Str×Value)):fK k (A.under (.builtin "type.__call__" ⟨.ref C::us,kw⟩)):=
 ⟨r.hd,by have:=r.dp;rw[Bm];lia,by have:=r.un;rw[Bo];lia⟩
def fK.depth{k:Nat}(r:fK k A):A.depth<recursionLimit:=by have:=r.dp;lia
def fK.units{k:Nat}(r:fK k A):A.units+64<cLine:=by have:=r.un;lia
def fX:TA:=fun _ H Q=>Q [] H
def eG(ta:TE)(tr:TA):TA:=fun σ H Q=>ta σ H fun x H1=>tr σ H1 fun xs H2=>Q (x::xs) H2
section
variable{es:List Expr}{t:TA}
def aC:PA X [] fX:=fun _ _ _ _ H Q I h=>A4t ⟨[],H,I,.nil,h⟩
def aj(ha:PE X e te)(hr:PA X es t)(hs:starEach (e::es) X.env=0x5B::starEach es X.env:=by rfl):PA X (e::es) (eG te t):=by
 intro pos pins s σ H Q I h;rw[hs]
 show wpAny _ _ (spliced (0x5B::backTo pos 0x63)) _ _ s
 refine A3t (cN 0x61 fun u s1 zq=>?_);obtain⟨x,H1,I1,r1,q1⟩:=zq;exact cN (hr pos pins s1 σ H1 _ I1 q1) fun us s2 ⟨xs,H2,I2,r2,q2⟩=>⟨x::xs,H2,I2,.cons r1 r2,q2⟩
def uO(t:TA):TE:=fun σ H Q=>t σ H fun xs H1=>xs.length<=sizeLine/\∀p,H1 p=none->Q 0x3E (upd H1 p 0x52)
def PK(t:TA):TE:=fun σ H Q=>t σ H fun xs H1=>xs.length<=sizeLine/\∀p,H1 p=none->Q 0x3E (upd H1 p 0x53)
def cB{x1}(h:PA X es t):PE X (.Tuple es x1 pos) (uO t):=by
 intro pins s σ H Q I hq;refine wpAny_Tuple_spliced (cN (h pos pins s σ H _ I hq) fun us s1 ⟨xs,H1,I1,r,z,q⟩=>⟨by rw[<-r.length];exact z,?_⟩);have hf:H1 s1.heap.objs.size=none:=I1.hok.fresh 0x2F;refine⟨.ref s1.heap.objs.size,upd H1 s1.heap.objs.size 0x52,I1.laid (t':=s1.toks) (fun b u e=>A0b _ e) 0x2F ?_,rfl,q _ hf⟩;exact⟨z,us,r,⟨_,A0m _ rfl,rfl,_,rfl⟩⟩
def dZ(h:PA X es t):PE X (.List es pos) (PK t):=by
 intro pins s σ H Q I hq;refine wpAny_List_spliced (cN (h pos pins s σ H _ I hq) fun us s1 ⟨xs,H1,I1,r,z,q⟩=>⟨by rw[<-r.length];exact z,?_⟩);have hf:H1 s1.heap.objs.size=none:=I1.hok.fresh 0x2F;refine⟨.ref s1.heap.objs.size,upd H1 s1.heap.objs.size 0x53,I1.laid (t':=s1.toks) (fun b u e=>A0b _ e) 0x2F ?_,rfl,q _ hf⟩;exact⟨z,us,0,r,A0m _ rfl⟩
end
abbrev Sp:=List V->Hp->VK->XK->Prop
variable{sp:Sp}
abbrev Hj:=List Env->Hp->Shared->XK->Value->Shared->Prop
variable{CX:Hj}
structure Bp(P:Program)(w:World)(K:PySem.W.Frag)(mg:Str->Option Value)(base:Heap)(A:Around)(outer:List Env)(s:Shared)(H:Hp):Prop where
 frames:A.frames=some outer
 mod:Mod K mg base
 bs:∀b o,base.get? b=some o->s.heap.get? b=some o/\H b=none
 Pj:base.objs.size<=s.heap.objs.size
 qY:s.heap.FunFrames base outer
 Uw:∀b∈frs outer,H b=none
 hok:nP P w H s.heap
 bare:AllBare s.gens
inductive CE(outer:List Env)(P:Program)(w:World)(H:Hp)(s:Shared)(Q:VK)(u:Value)(s':Shared):Prop
 |mk(v:V)(H':Hp)(_:s'.os=s.os)(_:AllBare s'.gens)(_:Un (frs outer) [] H H' s.heap s'.heap)(_:nP P w H' s'.heap)(_:RelV v u)(_:Q v H'):CE outer P w H s Q u s'
def CR(CX:Hj)(outer:List Env)(P:Program)(w:World)(H:Hp)(s:Shared)(Q:VK)(E:XK)(r:Result)(s':Shared):Prop:=
 match r with
 | .ok (.ret u)=>CE outer P w H s Q u s'
 | .ok _=>False
 | .error e=>CX outer H s E e s'
structure aP(P:Program)(w:World)(K:PySem.W.Frag)(mg:Str->Option Value)(base:Heap)(CX:Hj)(k:Nat)(f:Addr)(fd:FuncData)(ps:List Str)(sp:Sp):Prop where
 len:∀vs H Q E,sp vs H Q E->vs.length=ps.length
 run:∀(A:Around)(outer:List Env)(s:Shared)(H:Hp)(args:Args)(us:List Value)(vs:List V)(Q:VK)(E:XK),fK k A->Bp P w K mg base A outer s H->BindsTo s fd args (ps.zip us)->Vals vs us->sp vs H Q E->
  codeAny (model P w) A (.call 0x75 args) (CR CX outer P w H s Q E) s
def aP.mono{k:Nat}(F:aP P w K mg base CX j f fd ps sp)(h:j<=k):
  aP P w K mg base CX k f fd ps sp:=⟨F.len,fun A outer s H args us vs Q E hr=>F.run A outer s H args us vs Q E (hr.mono h)⟩
def Bp.make(e:Bp P w K mg base A outer s H)(C:Addr)(us:List Value)(kw:List (Str×Value)):
  Bp P w K mg base (A.under (.builtin "type.__call__" ⟨.ref C::us,kw⟩)) outer s H:=⟨by first|exact e.frames|(simpa[Around.under,Code.envs,Code.isFrame,pushEnvs]using e.frames),e.mod,e.bs,e.Pj,e.qY,e.Uw,e.hok,e.bare⟩
def Inv.env0(I:Inv X pins σ H s):Bp X.prog X.w X.K X.mg X.base X.A X.stack s H:=
 ⟨I.ok.frames,I.ok.mod,I.bs,A0L I.ok.Pj I.sz,I.stack,I.wJ,I.hok,I.bare⟩
def Inv.after{Q:VK}(I:Inv X pins σ H s)(h:CE X.stack X.prog X.w H s Q u s'):EP X pins σ Q u s':=by
 obtain⟨v,H',os,bare,un,hok,r,q⟩:=h;obtain⟨hh,g,d,t,os'⟩:=s';obtain rfl:os'=s.os:=os;exact⟨v,H',I.call (h':=hh) (g':=g) (d':=d) (t':=t) (ch:=[]) un hok bare (fun b z=>absurd z 0x8),r,q⟩
def YH(sp:Sp)(qZ:List V)(E:XK)(t:TA):TE:=fun σ H Q=>t σ H fun vs H1=>sp (vs++qZ) H1 Q E
inductive Ej(C:Addr)(m:Str)(sp:Sp)(qZ:List V)(E:XK)(t:TA)(σ:L2.St)(Q:VK)(x:V)(H1:Hp):Prop
 |mk(a dx:Addr)(fs:List (Prod Str V))(_:x=.ref a)(_:H1 a=some (.ins C dx fs))(_:fs.lookup m=none)(_:t σ H1 fun vs H2=>sp (x::(vs++qZ)) H2 Q E):Ej C m sp qZ E t σ Q x H1
def Ek(C:Addr)(m:Str)(sp:Sp)(qZ:List V)(E:XK)(ta:TE)(t:TA):TE:=fun σ H Q=>ta σ H fun x H1=>Ej C m sp qZ E t σ Q x H1
def YJ(C:Addr)(sp:Sp)(qZ:List V)(E:XK)(t:TA):TE:=fun σ H Q=>t σ H fun vs H1=>∀x dx,H1 x=none->H1 dx=none->dx≠x->
 sp (.ref x::(vs++qZ)) (upd (upd H1 dx (.own x)) x (.ins C dx [])) (fun v H2=>v=.non/\Q (.ref x) H2) E
def Binds(K:PySem.W.Frag)(fd:FuncData)(ps:List Str)(ds:List Value):Prop:=
 ∀(s:Shared)(us:List Value),K.In s.heap->(us++ds).length=ps.length->BindsTo s fd ⟨us,[]⟩ (ps.zip (us++ds))
def Binds.all(h:∀us:List Value,us.length=ps.length->bindArgs fd ⟨us,[]⟩=pure (ps.zip us)):Binds K fd ps []:=fun s us _ hl=>by
 rw[A2h]at hl ⊢;exact .of_eq (h us hl)
def Passes(CX:Hj)(X:Cx)(E:XK):Prop:=∀(pins:List 0x1E)(σ:St)(H:Hp)(s:Shared)(e:Value)(s':Shared),Inv X pins σ H s->CX X.stack H s E e s'->X.xe e s'
section
variable{k:Nat}{qZ:List V}{ds:List Value}{E:XK}{m:Str}{p:Pos}{o:Expr}{es:List Expr}{t:TA}
def Bq{Q:VK}{vs:List V}(F:aP X.prog X.w X.K X.mg X.base CX k f fd ps sp)(hr:fK k X.A)(hb:Binds X.K fd ps ds)(hd:Vals qZ ds)(hx:Passes CX X E)
  (I:Inv X pins σ H s)(r:Vals vs us)(h:sp (vs++qZ) H Q E):wpAny 0xA X.A (call 0x75 us) 0x3F X.xe s:=by
 have r2:Vals (vs++qZ) (us++ds):=r.append hd;have hl:(us++ds).length=ps.length:=by rw[<-r2.length];exact F.len _ _ _ _ h
 refine wpAny_call (A3H (F.run X.A X.stack s H ⟨us,[]⟩ (us++ds) (vs++qZ) Q E hr I.env0 (hb s us I.pZ hl) r2 h) fun r s' hq=>?_);cases r with
 |error e=>exact hx pins σ H s e s' I hq
 | ok fl=>
  cases fl with
  |ret u=>exact I.after hq
  |next=>exact False.elim hq
  |brk=>exact False.elim hq
  |cont=>exact False.elim hq
def aZ(F:aP X.prog X.w X.K X.mg X.base CX k f fd ps sp)(hr:fK k X.A)(hg:Gl X x)(hm:X.mg x=some 0x75)(hk:PySem.W.keepIn X.K 0x75=true)(hb:Binds X.K fd ps ds)(hd:Vals qZ ds)(hx:Passes CX X E)
  (ha:PA X (e::es) t)(hdb:0x60=false:=by decide)(he:starEach (e::es) X.env=0x5B::starEach es X.env:=by rfl)(hpl:(backTo pos 0x63).any (·.1)=false:=by rfl):
  PE X (.Call (.Name x p) (e::es) [] pos) (YH sp qZ E t):=by
 intro pins s σ H Q I h;refine A3u (wK I hg hm ?_ hdb);refine A4i (h₀:=X.base) I.ok.mod.kin hk (cN (ha pos pins s σ H _ I h) fun us s1 ⟨vs,H1,I1,r,q⟩=>⟨I1.pZ,?_⟩) he hpl;exact Bq F hr hb hd hx I1 r q
def bG{pl:Sem Bool}(he:PE X o ta)(c:Cls X.K C)(hm:Meth X.K C m f)(F:aP X.prog X.w X.K X.mg X.base CX k f fd ps sp)(hr:fK k X.A)(hb:Binds X.K fd ps ds)(hd:Vals qZ ds)(hx:Passes CX X E)(ha:PA X (e::es) t)
  (hst:starEach (e::es) X.env=0x5B::starEach es X.env:=by rfl)(hpl:(backTo pos 0x63).any (·.1)=false:=by rfl)
  (ht:eval (.Call (.Attribute o m apos) (e::es) [] pos) X.env=(do
   let ov<-eval o X.env
   standAt apos.atName
   let(f,first)<-holding [ov] (getMethod ov m pl)
   callWith pos f first (backTo pos (starEach (e::es) X.env)) (backToKw pos (keywordEach [] X.env))):=by rfl):
  PE X (.Call (.Attribute o m apos) (e::es) [] pos) (Ek C m sp qZ E ta t):=by
 intro pins s σ H Q I h;refine PySem.W.methodCall_KW (pl:=pl) (cN 0x79 fun u s1 ⟨x,H1,I1,rx,a,dx,fs,ex,ea,l,q⟩=>?_) ht;subst ex;obtain rfl:u=Value.ref a:=rx;refine sI I1 ea c hm l ?_;refine A4i (first:=[.ref a]) (h₀:=X.base) I.ok.mod.kin hm.kp (cN (ha pos pins s1 σ H1 _ I1 q) fun us s2 ⟨vs,H2,I2,r,q2⟩=>⟨I2.pZ,?_⟩) hst hpl
 exact Bq (us:=.ref a::us) (vs:=.ref a::vs) F hr hb hd hx I2 (.cons rfl r) q2
def iK{pl:Sem Bool}(he:PE X o ta)(c:Cls X.K C)(hm:Meth X.K C m f)(F:aP X.prog X.w X.K X.mg X.base CX k f fd ps sp)(hr:fK k X.A)(hb:Binds X.K fd ps ds)(hd:Vals qZ ds)(hx:Passes CX X E)
  (ht:eval (.Call (.Attribute o m apos) [] [] pos) X.env=(do
   let ov<-eval o X.env
   standAt apos.atName
   let(f,first)<-holding [ov] (getMethod ov m pl)
   callWith pos f first (backTo pos (starEach [] X.env)) (backToKw pos (keywordEach [] X.env))):=by rfl):
  PE X (.Call (.Attribute o m apos) [] [] pos) (Ek C m sp qZ E ta fX):=by
 intro pins s σ H Q I h;refine PySem.W.methodCall_KW (pl:=pl) (cN 0x79 fun u s1 ⟨x,H1,I1,rx,a,dx,fs,ex,ea,l,q⟩=>?_) ht;subst ex;obtain rfl:u=Value.ref a:=rx;refine sI I1 ea c hm l ?_;exact PySem.W.callWith_K0 (first:=[.ref a]) I1.pZ hm.kp (Bq (us:=[.ref a]) (vs:=[.ref a]) F hr hb hd hx I1 (.cons rfl .nil) q)
structure Mk(K:PySem.W.Frag)(C f:Addr):Prop where
 makes:PySem.W.makesIn K C=true
 init:PySem.W.findIn K 0x8C "__init__"=some (some 0x75)
 fn:PySem.W.isFn K 0x75=true
 kp:PySem.W.keepIn K 0x8C=true
def JK{Q:VK}{vs:List V}(M:Mk X.K C f)(F:aP X.prog X.w X.K X.mg X.base CX k f fd ps sp)(hr:fK (k+1) X.A)(hb:Binds X.K fd ps ds)(hd:Vals qZ ds)
  (hx:Passes CX X E)(I:Inv X pins σ H s)(r:Vals vs us)
  (h:∀x dx,H x=none->H dx=none->dx≠x->sp (.ref x::(vs++qZ)) (upd (upd H dx (.own x)) x (.ins C dx [])) (fun v H2=>v=.non/\Q (.ref x) H2) E):
  wpAny 0xA X.A (call 0x8C us) 0x3F X.xe s:=by
 have hq:=h 0x14 s.heap.objs.size (I.hok.fresh (A3x _)) 0x47 (A0I (A2w _));have I2:=Inv.made (C:=C) I;have r2:Vals (V.ref 0x14::(vs++qZ)) (Value.ref 0x14::(us++ds)):=.cons rfl (r.append hd);have hl:(Value.ref 0x14::us++ds).length=ps.length:=by
  have e:=r2.length;rw[F.len _ _ _ _ hq]at e;exact e.symm
 refine wpAny_call (JF (f:=f) I.pZ M.makes M.init (A3s.mp M.fn) (A3H (F.run _ X.stack _ _ ⟨Value.ref 0x14::us,[]⟩ (Value.ref 0x14::(us++ds)) _ _ E (hr.make C us [])
  (I2.env0.make C us []) (hb _ (Value.ref 0x14::us) I2.pZ hl) r2 hq) fun r s' hq'=>?_))
 cases r with
 |error e=>exact hx pins σ _ _ e s' I2 hq'
 | ok fl=>
  cases fl with
  | ret u=>
   obtain⟨v,H',I3,rv,ev,q3⟩:=I2.after hq';subst ev;exact⟨rv,⟨V.ref 0x14,H',I3,rfl,q3⟩⟩
  |next=>exact False.elim hq'
  |brk=>exact False.elim hq'
  |cont=>exact False.elim hq'
def rE(M:Mk X.K C f)(F:aP X.prog X.w X.K X.mg X.base CX k f fd ps sp)(hr:fK (k+1) X.A)(hg:Gl X x)(hm:X.mg x=some 0x8C)(hb:Binds X.K fd ps ds)(hd:Vals qZ ds)(hx:Passes CX X E)
  (ha:PA X (e::es) t)(hdb:0x60=false:=by decide)(he:starEach (e::es) X.env=0x5B::starEach es X.env:=by rfl)(hpl:(backTo pos 0x63).any (·.1)=false:=by rfl):
  PE X (.Call (.Name x p) (e::es) [] pos) (YJ C sp qZ E t):=by
 intro pins s σ H Q I h;refine A3u (wK I hg hm ?_ hdb);refine A4i (h₀:=X.base) I.ok.mod.kin M.kp (cN (ha pos pins s σ H _ I h) fun us s1 ⟨vs,H1,I1,r,q⟩=>⟨I1.pZ,?_⟩) he hpl;exact JK M F hr hb hd hx I1 r q
end
section
variable{k:Nat}{E:XK}{m:Str}{p kpos:Pos}{o:Expr}{es:List Expr}{kws:List Keyword}{t tk:TA}{nm:Option Str}
structure KBinds(K:PySem.W.Frag)(fd:FuncData)(ps ks:List Str)(g:List Value->List Value->List Value)(gV:List V->List V->List V):Prop where
 to:∀(s:Shared)(us ws:List Value),K.In s.heap->(g us ws).length=ps.length->BindsTo s fd ⟨us,ks.zip ws⟩ (ps.zip (g us ws))
 rel:∀{vs:List V}{us:List Value}{zs:List V}{ws:List Value},Vals vs us->Vals zs ws->Vals (gV vs zs) (g us ws)
variable{g:List Value->List Value->List Value}{gV:List V->List V->List V}
end
structure aX(N P:List Str)(sc:Scope):Prop where
 kind:sc.kind=.function
 co:sc.isCoroutine=false
 gen:sc.isGenerator=false
 nd:N.Nodup
 pre:N.take P.length=P
 par:∀x∈P,sc.names.lookup x=some .local\/sc.names.lookup x=some .cell
 V8:∀y∈sc.names,y.2≠.free
theorem uZ{kindOf:Str->Option NameKind}:∀{binds:List (Str×Value)}{m:Str->Option Value},(∀v,(x,v)∉binds)->bindL kindOf binds m x=m x
 |[],_,_=>rfl
 | (n,v)::r,m,h=>by
  unfold bindL;rw[uZ fun w hw=>h w (lH _ hw)]
  split
  ·have:x≠n:=by rintro rfl;exact h v A0l
   simp[this]
  ·rfl
theorem v7{kindOf:Str->Option NameKind}:∀{binds:List (Str×Value)}{m:Str->Option Value},(∀v,(x,v)∉binds)->bindC kindOf binds m x=m x
 |[],_,_=>rfl
 | (n,v)::r,m,h=>by
  unfold bindC;rw[v7 fun w hw=>h w (lH _ hw)]
  split
  ·rfl
  ·have:x≠n:=by rintro rfl;exact h v A0l
   simp[this]
theorem v8{kindOf:Str->Option NameKind}{x:Str}{v:Value}:∀{P:List Str}{vs:List Value}{i:Nat}{m:Str->Option Value},P.Nodup->P[i]?=some x->vs[i]?=some v->kindOf x=some .local->
  bindL kindOf (P.zip vs) m x=some v
 |[],_,_,_,_,h,_,_=>by simp at h
 |_::_,[],_,_,_,_,h,_=>by simp at h
 | p::P,w::vs,0,m,nd,h1,h2,hk=>by
  simp at h1 h2;subst h1;subst h2
  show bindL kindOf ((p,w)::P.zip vs) m p=_
  unfold bindL;rw[uZ fun v hv=>(A0z.mp nd).1 (A4R hv).1,A0i hk];simp
 | p::P,w::vs,i+1,m,nd,h1,h2,hk=>by
  show bindL kindOf ((p,w)::P.zip vs) m x=_
  unfold bindL;exact v8 (i:=i) (A0z.mp nd).2 (by simpa using h1) (by simpa using h2) hk
theorem v9{kindOf:Str->Option NameKind}{x:Str}{v:Value}:∀{P:List Str}{vs:List Value}{i:Nat}{m:Str->Option Value},P.Nodup->P[i]?=some x->vs[i]?=some v->kindOf x≠some .local->
  bindC kindOf (P.zip vs) m x=some v
 |[],_,_,_,_,h,_,_=>by simp at h
 |_::_,[],_,_,_,_,h,_=>by simp at h
 | p::P,w::vs,0,m,nd,h1,h2,hk=>by
  simp at h1 h2;subst h1;subst h2
  show bindC kindOf ((p,w)::P.zip vs) m p=_
  unfold bindC;rw[v7 fun v hv=>(A0z.mp nd).1 (A4R hv).1,A0f hk];simp
 | p::P,w::vs,i+1,m,nd,h1,h2,hk=>by
  show bindC kindOf ((p,w)::P.zip vs) m x=_
  unfold bindC;exact v9 (i:=i) (A0z.mp nd).2 (by simpa using h1) (by simpa using h2) hk
def start(N:List Str)(vs:List V):St:=vs.map some++List.replicate (N.length-vs.length) none
def Hl(CX:Hj)(P:Program)(w:World)(K:PySem.W.Frag)(mg:Str->Option Value)(base:Heap)(N:List Str)(qual:Str)(scope:Scope)(f:Addr)(cd:Value)(A:Around)(outer:List Env)(s:Shared)(H:Hp)(E:XK):Cx where
 prog:=P
 w:=w
 K:=K
 mg:=mg
 base:=base
 A:=A.deeper 0x5E
 N:=N
 s₀:=s
 H₀:=H
 env:=envOfC qual scope s.heap.objs.size f cd
 outer:=outer
 stack:=envOfC qual scope s.heap.objs.size f cd::outer
 ex:=[]
 calm:=true
 fn:=fun _=>true
 pn:=[]
 xe:=fun e s'=>wpAny (model P w) (A.deeper 0x5E) (leaving 0x5E e) (fun _ s''=>CX outer H s E e s'') (fun e' s''=>CX outer H s E e' s'') s'
def yW{sc:Scope}(h:sc.names.lookup x=some .cell):∃c,(cellsFrom n sc.names []).lookup x=some c:=by
 have q:=PySem.W.cellsFrom_some sc.names n [] (.inl h);exact A2p.mp q
def Ho{cd:Value}{s1:Shared}{E:XK}{vs:List V}
  (S:aX N ps scope)(hd:A.handled=none)(e0:Bp P w K mg base A outer s H)(hl:vs.length=ps.length)(r:Vals vs us)
  (x:InCallC s s.heap.objs.size (bindL (0x5E).kindOf (ps.zip us) fun _=>none) (cellsFrom 0x14 scope.names []) (bindC (0x5E).kindOf (ps.zip us) fun _=>none) s1):
  Inv (Hl CX P w K mg base N qual scope f cd A outer s H E) [] (start N vs) H s1:=by
 have hpl:ps.length<=N.length:=by have:=A1r List.length S.pre;rw[A0T]at this;lia
 obtain⟨h1,tk,rfl,hk⟩:=x.done;have YK:∀b:Addr,b∉(Hl CX P w K mg base N qual scope f cd A outer s H E).ex:=fun b z=>absurd (show b∈([]:List Addr)from z) 0x8
 refine⟨⟨e0.mod,S.kind,rfl,rfl,A0g _,fun y z c h1 h2=>?_,fun y hy=>?_,fun y c _ h=>?_,fun _=>hd,Around.frames_deeper e0.frames,.inr ⟨rfl,rfl⟩,fun b z=>absurd z (YK b),e0.bs,e0.Pj,fun b _ _=>YK b,fun b z=>absurd z (YK b),e0.qY,e0.Uw⟩,
  rfl,e0.bare,Un.kept hk,⟨_,x.toInCall.ns,fun i y v h1 h2 h3=>?_⟩,fun y c h=>⟨_,x.cell y c h⟩,e0.hok.fresh 0x2F,fun y c h=>?_,fun p hp=>absurd (show p∈([]:List 0x1E)from hp) 0x8,e0.hok.kept hk,?_⟩
 ·exact name_of_addr x.apart (A1a h1) (A1a h2)
 ·have hy:scope.names.lookup y=some .cell\/scope.names.lookup y=some .free:=hy;rcases hy with hy|hy
  ·exact yW hy
  ·exact absurd rfl (S.V8 _ (A1a hy))
 ·exact A1O (x.above y c (A1a h))
 ·have hi:i<vs.length:=by
   unfold start at h2
   by_cases hi:i<vs.length
   ·exact hi
   ·rw[A1k (by simpa using hi)]at h2;rw[A3y]at h2
    split at h2<;>cases h2
  have ha:vs[i]?=some v:=by
   unfold start at h2;rw[A2e (by simpa using hi),lJ]at h2;cases e:vs[i]? with
   |none=>rw[e]at h2;cases h2
   |some a=>rw[e]at h2;cases h2;rfl
  obtain⟨u,hu,rv⟩:=r.get ha;have hp:ps[i]?=some y:=by
   rw[<-S.pre,List.getElem?_take_of_lt 0x1];exact h1
  have ndP:ps.Nodup:=by rw[<-S.pre];exact S.nd.sublist (A4u _ _)
  refine⟨u,rv,?_⟩;rcases S.par y (oF hp)with k|k
  ·exact .inl ⟨k,v8 ndP hp hu k⟩
  ·obtain⟨c,e⟩:=yW (n:=s.heap.objs.size+1) k;refine .inr ⟨.inl k,c,e,?_⟩;have q:=x.cell y c e;rw[v9 ndP hp hu (by show scope.names.lookup y≠_;rw[k];decide)]at q
   exact q
 ·exact e0.hok.fresh (A1O (x.above y c (A1a h)))
 ·unfold start
  show _=N.length
  rw[lG,bY,A1K];lia
def YL{k:Nat}{params:Arguments}{dV kV doc pm cdv ct oc:Value}{an od:Option Addr}
  {osl:Array (Option Value)}(lk:K.lookup f=some ⟨oc,od,.func (PySem.W.fnOf name qual params body scope dV kV doc pm an cdv ct),osl⟩)(hcd:PySem.W.codeIn K cdv qual=true)(S:aX N ps scope)
  (len:∀vs H Q E,sp vs H Q E->vs.length=ps.length)
  (hbody:∀(A:Around)(outer:List Env)(s:Shared)(H:Hp)(vs:List V)(Q:VK)(E:XK),fK k (A.deeper (envOfC qual scope s.heap.objs.size f cdv))->sp vs H Q E->
   ∃t,yP (Hl CX P w K mg base N qual scope f cdv A outer s H E) body t/\t {nx:=fun _ H'=>Q .non H',rt:=Q} (start N vs) H):
  aP P w K mg base CX (k+1) f (PySem.W.fnOf name qual params body scope dV kV doc pm an cdv ct) ps sp:=by
 refine⟨len,fun A outer s H args us vs Q E hr e0 hb r hsp=>?_⟩;have hl:=len _ _ _ _ hsp;have KX:K.In s.heap:=e0.mod.kin.keeps fun b o e=>(e0.bs b o e).1;have lim:s.heap.NoLimit:=e0.mod.nolimit.keeps fun b o e=>(e0.bs b o e).1;have hkind:∀y∈ps.zip us,scope.names.lookup y.1=some .local\/(scope.names.lookup y.1=some .cell/\((cellsFrom 0x14 scope.names []).lookup y.1).isSome=true):=fun⟨n,v⟩ hy=>by
  rcases S.par n (A4R hy).1 with q|q
  ·exact .inl q
  ·exact .inr ⟨q,PySem.W.cellsFrom_some _ _ _ (.inl q)⟩
 refine codeAny_call_function hr.depth (KX _ _ lk) rfl S.co S.gen rfl (PySem.W.codeRec_of KX hcd) (hb _ _ _ _ ?_);refine wpAny_newFunctionEnv_cells S.kind hkind fun env he s1 x=>?_;subst he;refine⟨lim.keeps x.toInCall.keep,codeAny_func ?_⟩;obtain⟨t,ht,hq⟩:=hbody A outer s H vs Q E (hr.deeper _) hsp;have I:Inv (Hl CX P w K mg base N qual scope f cdv A outer s H E) [] (start N vs) H s1:=Ho S hr.hd e0 hl r x;refine A1j (ht [] s1 (start N vs) H _ I hq) (fun fl s' hs=>?_) fun e s' hs=>hs;have fin:∀{σ':St}{H':Hp}{v:V}{u:Value},Inv (Hl CX P w K mg base N qual scope f cdv A outer s H E) [] σ' H' s'->RelV v u->Q v H'->CE outer P w H s Q u s':=
  fun{σ' H' v u}J rv q=>⟨v,H',J.os,J.bare,J.base,J.hok,rv,q⟩
 cases fl with
 | ret u=>
  obtain⟨v,σ',H',J,rv,q⟩:=hs;exact fin J rv q
 | next=>
  obtain⟨σ',H',J,q⟩:=hs;exact fin (v:=V.non) (u:=Value.none) J rfl q
 | brk=>
  obtain⟨_,_,_,q⟩:=hs;exact False.elim q
 | cont=>
  obtain⟨_,_,_,q⟩:=hs;exact False.elim q
section
variable{p:Pos}{es:List Expr}{t:TA}{id:String}{r:List V->Hp->VK->Prop}
def tCB(r:List V->Hp->VK->Prop)(t:TA):TE:=fun σ H Q=>t σ H fun vs H1=>r vs H1 Q
def aY(hc:gw X (.builtin id) r)(hg:Gl X x)(hm:X.mg x=none)(hv:bootBuiltins x=some (.builtin id))(ha:PA X (e::es) t)(hn:x≠"__name__":=by decide)(hdb:0x60=false:=by decide)
  (he:starEach (e::es) X.env=0x5B::starEach es X.env:=by rfl)(hpl:(backTo pos 0x63).any (·.1)=false:=by rfl):PE X (.Call (.Name x p) (e::es) [] pos) (tCB r t):=by
 intro pins s σ H Q I h;refine A3u (q8 I hg hm hv ?_ hn hdb);exact PyProof.Rows.callWith_builtin1 (cN (ha pos pins s σ H _ I h) fun us s1 ⟨vs,H1,I1,r1,q1⟩=>hc pins s1 σ H1 vs us Q I1 r1 q1) he hpl
def cV(hc:gw X (.type T) r)(hg:Gl X x)(hm:X.mg x=none)(hv:bootBuiltins x=some (.type T))(ha:PA X (e::es) t)(hn:x≠"__name__":=by decide)(hdb:0x60=false:=by decide)
  (he:starEach (e::es) X.env=0x5B::starEach es X.env:=by rfl)(hpl:(backTo pos 0x63).any (·.1)=false:=by rfl):PE X (.Call (.Name x p) (e::es) [] pos) (tCB r t):=by
 intro pins s σ H Q I h;refine A3u (q8 I hg hm hv ?_ hn hdb);exact A1X (cN (ha pos pins s σ H _ I h) fun us s1 ⟨vs,H1,I1,r1,q1⟩=>hc pins s1 σ H1 vs us Q I1 r1 q1) he hpl
end
end L2
variable{xs ys:List L2.V}{H H' H1 H2:L2.Hp}{o:L2.HO}{X:L2.Cx}{v y:L2.V}{σ:L2.St}{ta td te tl tv:L2.TE}{tb:L2.TS}{g:L2.TG}{du ho kvs lo ow:List (L2.Key×L2.V)}{wi:L2.TI}{CX:L2.Hj}{sp:L2.Sp}{tt:L2.TT}{J:L2.It}{Je:List (L2.TE×L2.TE)}
namespace HT
open PySem PyProof.Rows
section
open PySem.SeqAt
open PySem.AutoSeq1(wpAny_loadPart')
open PySem.MeetsSeq PySem.MeetsSeq2 PySem.MeetsSeq3
end
def PL{t:Addr}{vs ws:List Value}(ht:IsTup s.heap t vs.toArray)(hb:IsTup s.heap b ws.toArray)(hv:vs≠[])
  (h1:ws=[]->Q 0x72 s)(h2:ws≠[]->Q 0x16 {s with heap:=s.heap.push {cls:=.type "tuple",data:=.seq (vs++ws).toArray}})
  (hsz:vs.length+ws.length<=sizeLine):wpAny 0xB A (binaryOp .Add 0x72 (.ref b)) Q E s:=by
 obtain⟨⟨cls,dd,data,sl⟩,ho,hc,n,hd⟩:=id ht;obtain⟨⟨cls2,dd2,data2,sl2⟩,ho2,hc2,n2,hd2⟩:=id hb;simp only at hc hd hc2 hd2;subst hc hd hc2 hd2;have e:vs.toArray++ws.toArray=(vs++ws).toArray:=by simp
 by_cases hw:ws=[]
 ·exact concat_meets ⟨_,ho,rfl⟩ ⟨_,ho2,rfl⟩ noFill_tuple_add seq_tuple_add PySem.F.slot_tuple_add PySem.F.entry_tuple_add (PySem.F.args_tuple_add_2 _ _)
   (tuple_addW1 t b vs.toArray ws.toArray n n2 dd dd2 sl sl2 (by simpa using hv) (by simp[hw])) ⟨ho,ho2,h1 hw⟩
 ·refine concat_meets ⟨_,ho,rfl⟩ ⟨_,ho2,rfl⟩ noFill_tuple_add seq_tuple_add PySem.F.slot_tuple_add PySem.F.entry_tuple_add (PySem.F.args_tuple_add_2 _ _)
   (tuple_addW2 t b vs.toArray ws.toArray n n2 dd dd2 sl sl2 (by simpa using hv) (by simpa using hw) (by rw[A0v,A0v];exact hsz)) ⟨ho,ho2,?_⟩
  rw[e];exact h2 hw
def fY(n d:Nat):Option Int->Nat
 |none=>d
 |some v=>if v<0 then(v+(n:Int)).toNat else min v.toNat n
def jB(n d k:Nat):fY n d (some (k:Int))=min k n:=by
 show(if(k:Int)<0 then((k:Int)+(n:Int)).toNat else min (k:Int).toNat n)=min k n
 rw[A0f 0x1,A1Q]
def JL(n d:Nat)(hd:d<=n)(o:Option Int):fY n d o<=n:=by
 cases o with
 |none=>exact hd
 | some v=>
  show(if v<0 then(v+(n:Int)).toNat else min v.toNat n)<=n
  by_cases hv:v<0
  ·rw[A0i hv];lia
  ·rw[A0f hv];exact Nat.min_le_right _ _
def El(v:Int)(n d:Nat):(if v<0 then max (v+(n:Int)) 0 else min v (n:Int))=((fY n d 0x8B:Nat):Int):=by
 show(if v<0 then max (v+(n:Int)) 0 else min v (n:Int))=(((if v<0 then(v+(n:Int)).toNat else min v.toNat n):Nat):Int)
 by_cases hv:v<0
 ·simp only[A0i hv];lia
 ·simp only[A0f hv];lia
def Br(lo hi:Option Int)(n:Nat):Builtin.Slice.sliceAdjust lo hi 1 (n:Int)=(((fY n 0 lo:Nat):Int),((fY n n hi:Nat):Int)):=by
 have h1:¬((1:Int)<0):=by lia
 unfold Builtin.Slice.sliceAdjust;simp only[h1,A3b];refine Prod.ext ?_ ?_
 ·cases lo with
  |none=>rfl
  |some v=>exact El v n 0
 ·cases hi with
  |none=>rfl
  |some v=>exact El v n n
def Bs(i j:Nat):Builtin.Slice.slicePlaces (i:Int) (j:Int) 1=j-i:=by
 unfold Builtin.Slice.slicePlaces;have h1:(1:Int)>0:=by lia
 simp only[h1,A3f,Int.ediv_one]
 split<;>lia
def sO{v:Value}{o:Option Int}{Q:Option Int->Shared->Prop}(p:IsPart v o)(h:Q o s):wpAny 0xB A (Builtin.Slice.slicePartIndex v) Q E s:=by
 cases p with
 |none=>exact slicePart_none h
 |int i t=>exact slicePart_int h
def qm{sl:Addr}{vl vu:Value}{lo hi:Option Int}{Q:Int×Int×Nat->Shared->Prop}(hs:s.heap.IsSliceOf sl vl vu .none)(pl:IsPart vl lo)(pu:IsPart vu hi)
  (h:Q (((fY n 0 lo:Nat):Int),1,fY n n hi-fY n 0 lo) s):wpAny 0xB A (Builtin.Slice.sliceApplied (.ref sl) (pure (n:Int))) Q E s:=by
 obtain⟨os,hos,hcs,hds⟩:=id hs;unfold Builtin.Slice.sliceApplied Builtin.Slice.sliceFields;refine A0a (A0a (A1q hos hds (x:=vl) rfl (A0a (A1q hos hds (x:=vu) rfl (A0a (A1q hos hds (x:=.none) rfl 0x6B))))));refine A0a (slicePart_none ?_)
 show wpAny _ _ (if((1:Int)==0)=true then _ else _) _ _ s
 rw[A0f 0x6];refine A0a (sO pl (A0a (sO pu (A0a 0x6B))))
 show wpAny _ _ (match Builtin.Slice.sliceAdjust lo hi 1 (n:Int)with|(lo,hi)=>pure (lo,(1:Int),Builtin.Slice.slicePlaces lo hi 1)) _ _ s
 rw[Br lo hi n]
 show wpAny _ _ (pure (((fY n 0 lo:Nat):Int),(1:Int),Builtin.Slice.slicePlaces ((fY n 0 lo:Nat):Int) ((fY n n hi:Nat):Int) 1)) _ _ s
 rw[Bs];exact A0d h
def JM(xs:Array Value)(i k:Nat):((List.range k).filterMap fun(m:Nat)=>xs[((i:Int)+(m:Int)*1).toNat]?).toArray=((xs.toList.drop i).take k).toArray:=by
 have e:(fun(m:Nat)=>xs[((i:Int)+(m:Int)*1).toNat]?)=fun m=>xs[i+m]?:=by
  funext m
  have:((i:Int)+(m:Int)*1).toNat=i+m:=by lia
  rw[this]
 rw[e];have:=pick_run xs i k;rw[List.filterMap_map]at this;have e2:((fun x=>xs[x]?)∘fun x=>i+x)=fun m=>xs[i+m]?:=rfl;rw[e2]at this;rw[this]
def oR{t sl:Addr}{items:Array Value}{vl vu:Value}{lo hi:Option Int}(ht:IsTup s.heap t items)(hs:s.heap.IsSliceOf sl vl vu .none)(pl:IsPart vl lo)(pu:IsPart vu hi)
  (hw:¬(fY items.size 0 lo=0/\fY items.size items.size hi=items.size))
  (h:Q 0x16 {s with heap:=s.heap.push {cls:=.type "tuple",data:=.seq ((items.toList.drop (fY items.size 0 lo)).take 0x54).toArray}})
  (hsz:items.size<=sizeLine):wpAny 0xB A (getItem 0x72 (.ref sl)) Q E s:=by
 have Em:sizeOk (.seq ((items.toList.drop (fY items.size 0 lo)).take 0x54).toArray):=by
  show((items.toList.drop (fY items.size 0 lo)).take 0x54).toArray.size<=sizeLine
  rw[A0v,A0T,A1l,A0U];lia
 have hj:fY items.size items.size hi<=items.size:=JL _ _ 0x2F hi;obtain⟨os,hos,hcs,hds⟩:=id hs;have hTs:s.TypeIs (.ref sl) "slice":=⟨os,hos,hcs⟩;unfold getItem
 try with_reducible refine A2q ?_
 first|refine A0a 0x6B|skip
 refine A0a (wpAny_sequenceKey ht.typeIs 0x6 ?_);refine A0a (A0Z (name:=Str.ofString "__getitem__") ht.typeIs A2t
  (A0X A2t ht.typeIs entry_tuple_getitem ?_ (args_tuple_getitem _ _)))
 show wpAny _ _ (Builtin.Tuple.tupleItemsOf 0x72>>=_) _ _ s
 refine A0a (tupleItemsOf_ ht ?_);refine A0a (wpAny_typeOf hTs ?_);rw[A0i 0x6];refine A0a (qm hs pl pu ?_);have hno:¬((((fY items.size 0 lo:Nat):Int)==0&&(1:Int)==1&&0x54==items.size)=true):=by
  intro q;rw[A1v,A1v]at q;have q1:((fY items.size 0 lo:Nat):Int)=0:=eq_of_beq q.1.1;have q2:fY items.size items.size hi-fY items.size 0 lo=items.size:=eq_of_beq q.2;exact hw ⟨by lia,by lia⟩
 show wpAny _ _ (if(((fY items.size 0 lo:Nat):Int)==0&&(1:Int)==1&&0x54==items.size)=true then _ else _) _ _ s
 rw[A0f hno,JM]
 first
  |exact A0a (m:=Builtin.Tuple.tupleExact _) (A1g (A0d ⟨_,rfl,A0d h⟩) Em)
  |exact A0a (m:=Builtin.Tuple.tupleExact _) (A1g (A0a (A0d (A0d ⟨_,rfl,A0d h⟩))) Em)
  |exact A0a (A0a (m:=Builtin.Tuple.tupleExact _) (A1g (A0d (A0d ⟨_,rfl,A0d h⟩)) Em))
  |exact A0a (A0a (m:=Builtin.Tuple.tupleExact _) (A1g (A0d ⟨_,rfl,A0d h⟩) Em))
end HT
namespace L2
open PySem PySem.Spec PyProof.Rows
abbrev TO:=St->Hp->(Option Int->Hp->Prop)->Prop
def PO(X:Cx)(e:Option Expr)(t:TO):Prop:=
 ∀ (pins:List 0x1E)(s:Shared)(σ:St)(H:Hp)(Q:Option Int->Hp->Prop),Inv X pins σ H s->t σ H Q->
  wpAny 0xA X.A (evalPart e X.env) (fun u s'=>∃o H',Inv X pins σ H' s'/\IsPart u o/\Q o H') X.xe s
def PN:TO:=fun _ H Q=>Q none H
inductive En(Q:Option Int->Hp->Prop)(x:V)(H1:Hp):Prop
 |mk(i:Int)(_:x=.int i)(_:Q (some i) H1):En Q x H1
def YM(t:TE):TO:=fun σ H Q=>t σ H fun x H1=>En Q x H1
section
variable{lo hi:Option Expr}{tl th:TO}
def j9:PO X none PN:=by
 intro pins s σ H Q I h;rw[evalPart_none];exact A0d ⟨none,H,I,.none,h⟩
def cW(h:PE X e te):PO X (some e) (YM te):=by
 intro pins s σ H Q I hw;rw[evalPart_some];refine cN (h pins s σ H _ I hw) fun u s1 zq=>?_;obtain⟨x,H1,I1,r1,q1⟩:=zq;obtain⟨i,rfl,q⟩:=q1;obtain⟨t,rfl⟩:=r1;exact⟨some i,H1,I1,.int i t,q⟩
inductive T7(X:Cx)(pins:List (Prod Addr Obj))(s:Shared)(σ:L2.St)(v:Value)(sl:Addr)(Q:VK):Prop
 |mk(T id:String)(_:typeLookup (.type T) "__getitem__"=pure (some (.builtin id)))(_:s.TypeIs v T)(_:wpAny 0xA X.A (getItem v (.ref sl)) 0x3F X.xe s):T7 X pins s σ v sl Q
def SlR(X:Cx)(r:V->Option Int->Option Int->Hp->VK->Prop):Prop:=
 ∀ (pins:List 0x1E)(s:Shared)(σ:St)(H:Hp)(x:V)(v vl vu:Value)(lo hi:Option Int)(sl:Addr)(Q:VK),Inv X pins σ H s->RelV x v->s.heap.IsSliceOf sl vl vu .none->IsPart vl lo->IsPart vu hi->r x lo hi H Q->
  T7 X pins s σ v sl Q
def tSl(r:V->Option Int->Option Int->Hp->VK->Prop)(te:TE)(tl th:TO):TE:=fun σ H Q=>te σ H fun x H1=>tl σ H1 fun l H2=>th σ H2 fun u H3=>r x l u H3 Q
def fj{r:V->Option Int->Option Int->Hp->VK->Prop}(hr:SlR X r)(he:PE X e te)(hl:PO X lo tl)(hu:PO X hi th):PE X (.Subscript e (.Slice lo hi none p2) pos) (tSl r te tl th):=by
 intro pins s σ H Q I h;refine Subscript_ (cN 0x79 fun v s1 zq=>?_);obtain⟨x,H1,I1,r1,q1⟩:=zq;refine wpAny_Slice (cN (hl pins s1 σ H1 _ I1 q1) fun vl s2 ⟨l,H2,I2,pl,q2⟩=>cN (hu pins s2 σ H2 _ I2 q2) fun vu s3 zq=>?_);obtain⟨u,H3,I3,pu,q3⟩:=zq;rw[evalPart_none];refine A0d ?_;have I4:Inv X pins σ H3 {s3 with heap:=s3.heap.push {cls:=.type "slice",data:=.fields #[vl,vu,.none]}}:=I3.kept (t':=s3.toks) fun b ob q=>A0b _ q;obtain⟨T,id,hT,ht,hg⟩:=hr pins {s3 with heap:=s3.heap.push {cls:=.type "slice",data:=.fields #[vl,vu,.none]}} σ H3 x v vl vu l u s3.heap.objs.size Q I4 r1 (Heap.IsSliceOf.new ..) pl pu q3
 show wpAny 0xA X.A (subscriptTail e (.Slice lo hi none p2) v (.ref s3.heap.objs.size)) 0x3F X.xe {s3 with heap:=s3.heap.push {cls:=.type "slice",data:=.fields #[vl,vu,.none]}}
 exact tail_any (ops:=[.ref s3.heap.objs.size,v]) ht hT hg 0x13
def gH(xs:List V)(lo hi:Option Int):List V:=(xs.drop (HT.fY xs.length 0 lo)).take 0x7E
def jC(xs:List V)(lo hi:Option Int):(gH xs lo hi).length<=xs.length:=by
 unfold gH;rw[A0T,A1l];lia
inductive YQ(K:W.Frag)(x:V)(lo hi:Option Int)(H:Hp)(Q:VK):Prop
 |mk(a:Addr)(xs:List V)(_:x=.ref a)(_:bI K H a xs)(_:¬(HT.fY xs.length 0 lo=0/\HT.fY xs.length xs.length hi=xs.length))(_:∀p,H p=none->Q 0x3E (upd H p (.tup (gH xs lo hi)))):YQ K x lo hi H Q
def JN:SlR X (YQ X.K):=by
 intro pins s σ H x v vl vu lo hi sl Q I rx hs pl pu h;obtain⟨a,xs,rfl,hx,hw,q⟩:=h;cases rx;obtain⟨its,r,ht,hz⟩:=I.tuple hx;have hlen:its.toArray.size=xs.length:=by rw[A0v];exact r.length.symm
 refine⟨"tuple",_,A2t.lookup,ht.typeIs,?_⟩;refine HT.oR ht hs pl pu (by rw[hlen];exact hw) ?_ (by rw[hlen];exact hz);rw[hlen];refine⟨.ref s.heap.objs.size,_,I.laid (t':=s.toks) (o:=.tup (gH xs lo hi)) (fun b ob q=>A0b _ q) 0x2F ?_,rfl,q _ 0x47⟩;exact⟨A0L (jC xs lo hi) hz,_,(r.drop (HT.fY xs.length 0 lo)).take 0x7E,IsTup.new _ _⟩
inductive T8(K:W.Frag)(x y:V)(H:Hp)(Q:VK):Prop
 |mk(a b:Addr)(xs ys:List V)(_:x=.ref a)(_:y=.ref b)(_:bI K H a xs)(_:bI K H b ys)(_:xs≠[])(_:xs.length+ys.length<=sizeLine)(_:(ys=[]->Q 0x48 H))(_:(ys≠[]->∀p,H p=none->Q 0x3E (upd H p (.tup (xs++ys))))):T8 K x y H Q
def Vals.wO(r:Vals xs us):us=[]↔xs=[]:=by
 cases r with
 |nil=>simp
 |cons _ _=>simp
def wQ:mQ X (binaryOp .Add) (T8 X.K):=by
 intro pins s σ H x y v u Q I rx ry h;obtain⟨a,b,xs,ys,rfl,rfl,ha,hb,hx,hz,q1,q2⟩:=h;cases rx;cases ry;obtain⟨its,r1,p1,_⟩:=I.tuple ha;obtain⟨its2,r2,p2,_⟩:=I.tuple hb;refine HT.PL p1 p2 (fun z=>hx (r1.wO.mp z)) (fun z=>⟨.ref a,H,I,rfl,q1 (r2.wO.mp z)⟩) (fun z=>?_) (by rw[<-r1.length,<-r2.length];exact hz);refine⟨.ref s.heap.objs.size,_,I.laid (t':=s.toks) (o:=.tup (xs++ys)) (fun b ob q=>A0b _ q) 0x2F ?_,rfl,q2 (fun w=>z (r2.wO.mpr w)) _ 0x47⟩;exact⟨by rw[lG];exact hz,_,r1.append r2,IsTup.new _ _⟩
end
def T9(n:Nat)(i:Int):Option Nat:=if 0<=i then(if i<n then some i.toNat else none)else if -(n:Int)<=i then some (i+n).toNat else none
def oG{α:Type}(xs:List α)(i:Int):Option α:=(T9 xs.length i).bind fun j=>xs[j]?
def PX{i:Int}(h:T9 n i=some j):seqIndex? i n=some j/\j<n/\-(n:Int)<=i/\i<n:=by
 unfold T9 at h
 by_cases h0:0<=i
 ·rw[A0i h0]at h
  by_cases h1:i<n
  ·rw[A0i h1]at h;have e:i.toNat=j:=A0O h;exact⟨by rw[seqIndex_of h0 h1,e],by lia,by lia,h1⟩
  ·rw[A0f h1]at h;cases h
 ·rw[A0f h0]at h
  by_cases h1:-(n:Int)<=i
  ·rw[A0i h1]at h;have e:(i+n).toNat=j:=A0O h;exact⟨by rw[seqIndex_neg 0x1 h1,e],by lia,h1,by lia⟩
  ·rw[A0f h1]at h;cases h
def wR{α:Type}{xs:List α}{i:Int}{v:α}(h:oG xs i=some v):∃j,seqIndex? i xs.length=some j/\xs[j]?=some v/\j<xs.length/\-(xs.length:Int)<=i/\i<xs.length:=by
 unfold oG at h;cases e:T9 xs.length i with
 |none=>rw[e]at h;cases h
 | some j=>
  rw[e]at h;obtain⟨h1,h2,h3,h4⟩:=PX e;exact⟨j,h1,h,h2,h3,h4⟩
def aD{α:Type}{xs:List α}{v:α}(h:xs[j]?=some v):oG xs (j:Int)=some v:=by
 have hj:j<xs.length:=(A0p.mp h).1;have e:T9 xs.length (j:Int)=some j:=by
  unfold T9;rw[A0i 0x1,A0i 0x1];simp
 unfold oG;rw[e];exact h
def sS{α:Type}(xs:List α)(v:α):oG (xs++[v]) (-1)=some v:=by
 have hl:(xs++[v]).length=xs.length+1:=by simp
 have e:T9 (xs++[v]).length (-1)=some xs.length:=by
  unfold T9;rw[hl,A0f 0x6,A0i 0x1]
  congr 1
  lia
 unfold oG;rw[e]
 show(xs++[v])[xs.length]?=some v
 simp
def Q0(b:Expr):Prop:=∀o i,subscripted b false o i=operate [o,i] (getItem o i)
def Y9(X:Cx)(r:R2):Prop:=
 ∀ (value slice:Expr)(pins:List 0x1E)(s:Shared)(σ:St)(H:Hp)(x y:V)(v u:Value)(Q:VK),Inv X pins σ H s->RelV x v->RelV y u->r x y H Q->
  subscripted slice false v u=operate [v,u] (getItem v u)->wpAny 0xA X.A (subscriptTail value slice v u) 0x3F X.xe s
def MtR(X:Cx)(id:String)(r:V->List V->Hp->VK->Prop):Prop:=
 ∀ (pins:List 0x1E)(s:Shared)(σ:St)(H:Hp)(x:V)(xs:List V)(v:Value)(us:List Value)(Q:VK),Inv X pins σ H s->RelV x v->Vals xs us->r x xs H Q->
  wpAny 0xA X.A (call (.builtin id) (v::us)) 0x3F X.xe s
section
variable{a b:Expr}{tb:TE}
def aK{r:R2}(hr:Y9 X r)(ha:PE X a ta)(hb:PE X b tb)(hs:Q0 b):PE X (.Subscript a b pos) (tOp r ta tb):=by
 intro pins s σ H Q I h;exact Subscript_ (V1 ha hb I h fun v u s2 x y H2 I2 rx ry q=>hr a b pins s2 σ H2 x y v u Q I2 rx ry q (hs _ _))
inductive V9(K:W.Frag)(x y:V)(H:Hp)(Q:VK):Prop
 |mk(p:Addr)(xs:List V)(i:Int)(v:V)(_:x=.ref p)(_:y=.int i)(_:bF K H p xs)(_:oG xs i=some v)(_:Q v H):V9 K x y H Q
inductive YS(K:W.Frag)(x y:V)(H:Hp)(Q:VK):Prop
 |mk(p:Addr)(xs:List V)(i:Int)(v:V)(_:x=.ref p)(_:y=.int i)(_:bI K H p xs)(_:oG xs i=some v)(_:Q v H):YS K x y H Q
inductive YT(x y:V)(H:Hp)(Q:VK):Prop
 |mk(z:Str)(i:Int)(c:Nat)(_:x=.str z)(_:y=.int i)(_:z.length<=sizeLine)(_:oG z.cps.toList i=some c)(_:Q (.str ⟨#[c]⟩) H):YT x y H Q
def aM:Y9 X (V9 X.K):=by
 intro value slice pins s σ H x y v u Q I rx ry h hs;obtain⟨p,xs,i,z,rfl,rfl,hq,he,q⟩:=h;cases rx;obtain⟨t,rfl⟩:=ry;obtain⟨its,r,pl,hz⟩:=I.list hq;obtain⟨j,h1,h2,h3,h4,h5⟩:=wR he;obtain⟨w,ew,bU⟩:=r.get h2;have hl:=r.length;have hn:=sG;have fin:EP X pins σ Q w s:=⟨z,H,I,bU,q⟩
 by_cases h0:0<=i
 ·have hj:i.toNat=j:=by
   rw[seqIndex_of h0 h5]at h1;exact A0O h1
  exact item_listR pl.isList h0 0x1 (by rw[hj];simpa using ew) fin hs
 ·have hj:(i+(its.toArray.size:Int)).toNat=j:=by
   rw[seqIndex_neg 0x1 h4]at h1;rw[A0v,<-hl];exact A0O h1
  exact subscriptTail_builtinR (x:=w) pl.isList.typeIs A4v.lookup
   (wpAny_getItem_list_neg (Q:=fun r s'=>r=w/\EP X pins σ Q r s') pl.isList 0x1 (by rw[A0v]<;>lia) 0x1 (by rw[hj];simpa using ew) ⟨rfl,fin⟩) hs
def aR:Y9 X (YS X.K):=by
 intro value slice pins s σ H x y v u Q I rx ry h hs;obtain⟨p,xs,i,z,rfl,rfl,hq,he,q⟩:=h;cases rx;obtain⟨t,rfl⟩:=ry;obtain⟨its,r,pl,hz⟩:=I.tuple hq;obtain⟨j,h1,h2,h3,h4,h5⟩:=wR he;obtain⟨w,ew,bU⟩:=r.get h2;have hl:=r.length;have hn:=sG;have fin:EP X pins σ Q w s:=⟨z,H,I,bU,q⟩;exact subscriptTail_builtinR (x:=w) pl.typeIs slot_tuple_getitem.lookup
  (getItem_tuple (j:=j) (Q:=fun r s'=>r=w/\EP X pins σ Q r s') pl 0x1 0x1 (by rw[A0v,<-hl];exact h1) (by simpa using ew) ⟨rfl,fin⟩) hs
def JQ:Y9 X YT:=by
 intro value slice pins s σ H x y v u Q I rx ry h hs;obtain⟨z,i,c,rfl,rfl,hz,he,q⟩:=h;obtain⟨t,rfl⟩:=rx;obtain⟨t',rfl⟩:=ry;obtain⟨j,h1,h2,h3,h4,h5⟩:=wR he;have hl:z.cps.toList.length=z.length:=by simp[Str.length]
 rw [hl]at h1 h4 h5;have hn:=sG;exact tail_any (typeIs_str s z t) slot_str_getitem.lookup (getItem_str (c:=c) (by
  have e1:decide (i< -(2^63:Int))=false:=A0K 0x1;have e2:decide (i>=2^63)=false:=A0K 0x1;rw[e1,e2,Bool.or_false]) (by rw[h1];simpa using h2) ⟨.str ⟨#[c]⟩,H,I.tok _,⟨_,rfl⟩,q⟩) hs
def wU(lo hi:Option Int)(n:Nat):(sliceBounds lo hi none n).1=((HT.fY n 0 lo:Nat):Int)/\(sliceBounds lo hi none n).2.1=((HT.fY n n hi:Nat):Int)/\(sliceBounds lo hi none n).2.2=1:=by
 refine⟨?_,?_,rfl⟩
 ·cases lo with
  |none=>simp[sliceBounds,HT.fY]
  | some i=>
   simp only[sliceBounds,HT.fY,Option.getD_none,show(1:Int)>0 by decide,A3f]
   by_cases h:i<0
   ·simp only[h,A3f]<;>lia
   ·simp only[h,A3b]<;>lia
 ·cases hi with
  |none=>simp[sliceBounds,HT.fY]
  | some i=>
   simp only[sliceBounds,HT.fY,Option.getD_none,show(1:Int)>0 by decide,A3f]
   by_cases h:i<0
   ·simp only[h,A3f]<;>lia
   ·simp only[h,A3b]<;>lia
def uP(its:List Value)(lo hi:Option Int):slicePick its.toArray lo hi none=((its.drop (HT.fY its.length 0 lo)).take (HT.fY its.length its.length hi-HT.fY its.length 0 lo)).toArray:=by
 obtain⟨h1,h2,h3⟩:=wU lo hi its.toArray.size;unfold slicePick;rw[h1,h2,h3];simp only[sliceRange_one,pick_run,A0v]<;>rfl
inductive YW(K:W.Frag)(x:V)(lo hi:Option Int)(H:Hp)(Q:VK):Prop
 |mk(a:Addr)(xs:List V)(_:x=.ref a)(_:bF K H a xs)(_:∀p,H p=none->Q 0x3E (upd H p (.lst (gH xs lo hi)))):YW K x lo hi H Q
def jc:SlR X (YW X.K):=by
 intro pins s σ H x v vl vu lo hi sl Q I rx hs pl pu h;obtain⟨a,xs,rfl,hx,q⟩:=h;cases rx;obtain⟨its,r,ht,hz⟩:=I.list hx;have hlen:=r.length;refine⟨"list",_,A4v.lookup,ht.isList.typeIs,?_⟩;refine wpAny_getItem_list_slice ht.isList hs pl pu .none 0x8 ?_ (by rw[A0v]<;>lia);rw[uP,<-hlen];refine⟨.ref s.heap.objs.size,_,I.laid (t':=s.toks) (o:=.lst (gH xs lo hi)) (fun b ob q=>A0b _ q) 0x2F ?_,rfl,q _ 0x47⟩;exact⟨A0L (jC xs lo hi) hz,_,0,(r.drop (HT.fY xs.length 0 lo)).take 0x7E,A0m _ rfl⟩
def oU:V->Bool
 | .non=>true
 | .bl _=>true
 | .int _=>true
 | .str _=>true
 |_=>false
def Tc:V->V->Bool
 | .non,.non=>true
 | .bl a,.bl b=>a==b
 | .bl a,.int b=>(if a then 1 else 0)==b
 | .int a,.bl b=>a==(if b then 1 else 0)
 | .int a,.int b=>a==b
 | .str a,.str b=>a==b
 |_,_=>false
def Va{x:V}{v:Value}(ry:RelV y u)(rx:RelV x v)(fy:oU y=true)(fx:oU x=true):SeqAt.EqAt A s u v (Tc y x):=by
 cases y with
 | non=>
  cases ry;cases x with
  |non=>cases rx;exact SeqAt.EqAt.same _
  |bl b=>cases rx;exact SeqAt.EqAt.none_bool b
  |int b=>obtain⟨t,rfl⟩:=rx;exact SeqAt.EqAt.none_int b t
  |str b=>obtain⟨t,rfl⟩:=rx;exact SeqAt.EqAt.none_str b t
  |_=>exact absurd (show false=true from fx) A0n
 | bl a=>
  cases ry;cases x with
  |non=>cases rx;exact SeqAt.EqAt.bool_none a
  |bl b=>cases rx;exact SeqAt.EqAt.bool_bool a b
  |int b=>obtain⟨t,rfl⟩:=rx;exact SeqAt.EqAt.bool_int a b t
  |str b=>obtain⟨t,rfl⟩:=rx;exact SeqAt.EqAt.bool_str a b t
  |_=>exact absurd (show false=true from fx) A0n
 | int a=>
  obtain⟨t',rfl⟩:=ry;cases x with
  |non=>cases rx;exact SeqAt.EqAt.int_none a t'
  |bl b=>cases rx;exact SeqAt.EqAt.int_bool a t' b
  |int b=>obtain⟨t,rfl⟩:=rx;exact SeqAt.EqAt.int_int a t' b t
  |str b=>obtain⟨t,rfl⟩:=rx;exact SeqAt.EqAt.int_str a t' b t
  |_=>exact absurd (show false=true from fx) A0n
 | str a=>
  obtain⟨t',rfl⟩:=ry;cases x with
  |non=>cases rx;exact SeqAt.EqAt.str_none a t'
  |bl b=>cases rx;exact SeqAt.EqAt.str_bool a t' b
  |int b=>obtain⟨t,rfl⟩:=rx;exact SeqAt.EqAt.str_int a t' b t
  |str b=>obtain⟨t,rfl⟩:=rx;exact SeqAt.EqAt.str_str a t' b t
  |_=>exact absurd (show false=true from fx) A0n
 |_=>exact absurd (show false=true from fy) A0n
def Bt(x:V)(u:Value):Bool:=match u with
 | .none=>Tc .non x
 | .bool b=>Tc (.bl b) x
 | .int i _=>Tc (.int i) x
 | .str z _=>Tc (.str z) x
 |_=>false
def JR{x:V}(r:RelV y u)(f:oU y=true):Bt x u=Tc y x:=by
 cases y with
 |non=>cases r;rfl
 |bl b=>cases r;rfl
 |int i=>obtain⟨t,rfl⟩:=r;rfl
 |str z=>obtain⟨t,rfl⟩:=r;rfl
 |_=>exact absurd (show false=true from f) A0n
theorem oV{x:V}:∀{xs:List V}{us:List Value},Vals xs us->xs.all oU=true->us.any (Bt x)=xs.any fun y=>Tc y x
 |_,_,.nil,_=>rfl
 | y::xs,u::us,.cons r t,f=>by
  rw[List.all_cons,A1v]at f;rw[A2T,A2T,JR r f.1,oV t f.2]
theorem lW{x:V}{v:Value}(rx:RelV x v)(fx:oU x=true):∀{xs:List V}{us:List Value},Vals xs us->xs.all oU=true->∀u∈us,SeqAt.EqAt A s u v (Bt x u)
 |_,_,.nil,_=>fun u hu=>by cases hu
 | y::xs,u::us,.cons r t,f=>fun u' hu=>by
  rw[List.all_cons,A1v]at f;rcases A0c.mp hu with rfl|hu
  ·rw[JR r f.1];exact Va r rx f.1 fx
  ·exact lW rx fx t f.2 u' hu
def inV(x:V)(xs:List V):Bool:=xs.any fun y=>Tc y x
inductive rIn(K:W.Frag)(neg:Bool)(x y:V)(H:Hp)(Q:VK):Prop
 |mk(p:Addr)(xs:List V)(_:y=.ref p)(_:(bF K H p xs\/bI K H p xs))(_:oU x=true)(_:xs.all oU=true)(_:Q (.bl (if neg then !inV x xs else inV x xs)) H):rIn K neg x y H Q
def fQ:mQ X (compareOp .In) (rIn X.K false):=by
 intro pins s σ H x y v u Q I rx ry h;obtain⟨p,xs,rfl,hq,fx,fs,q⟩:=h;cases ry;rcases hq with hq|hq
 ·obtain⟨its,r,pl,hz⟩:=I.list hq;refine SeqAt.in_listAt (Bt x) pl.isList (fun w hw=>lW rx fx r fs w (by simpa using hw)) ⟨.bl _,H,I,rfl,?_⟩;rw[show its.toArray.any (Bt x)=its.any (Bt x) by simp,oV r fs]
  exact q
 ·obtain⟨its,r,pl,hz⟩:=I.tuple hq;refine SeqAt.in_tupleAt (Bt x) pl (fun w hw=>lW rx fx r fs w (by simpa using hw)) ⟨.bl _,H,I,rfl,?_⟩;rw[show its.toArray.any (Bt x)=its.any (Bt x) by simp,oV r fs]
  exact q
def wV:mQ X (compareOp .NotIn) (rIn X.K true):=by
 intro pins s σ H x y v u Q I rx ry h;obtain⟨p,xs,rfl,hq,fx,fs,q⟩:=h;cases ry;rcases hq with hq|hq
 ·obtain⟨its,r,pl,hz⟩:=I.list hq;refine SeqAt.notIn_listAt (Bt x) pl.isList (fun w hw=>lW rx fx r fs w (by simpa using hw)) ⟨.bl _,H,I,rfl,?_⟩;rw[show its.toArray.any (Bt x)=its.any (Bt x) by simp,oV r fs]
  exact q
 ·obtain⟨its,r,pl,hz⟩:=I.tuple hq;refine SeqAt.notIn_tupleAt (Bt x) pl (fun w hw=>lW rx fx r fs w (by simpa using hw)) ⟨.bl _,H,I,rfl,?_⟩;rw[show its.toArray.any (Bt x)=its.any (Bt x) by simp,oV r fs]
  exact q
def dh:gw X (.builtin "len") (fun xs H Q=>∃p ys,xs=[.ref p]/\(bF X.K H p ys\/bI X.K H p ys)/\Q (.int ys.length) H):=by
 intro pins s σ H xs us Q I r h;obtain⟨p,ys,rfl,hq,q⟩:=h;obtain⟨u,rfl,rx⟩:=vals1 r;cases rx;have hn:=sG;rcases hq with hq|hq
 ·obtain⟨its,r',pl,hz⟩:=I.list hq;have hlen:=r'.length;exact Calls.call_len_list pl.isList (by simp only[A0v]<;>lia) ⟨.int ys.length,H,I.tok _,⟨s.toks+1,by rw[A0v,hlen]⟩,q⟩
 ·obtain⟨its,r',pl,hz⟩:=I.tuple hq;have hlen:=r'.length;exact len_tuple pl (by simp only[A0v]<;>lia) ⟨.int ys.length,H,I.tok _,⟨s.toks+1,by rw[A0v,hlen]⟩,q⟩
def wW:gw X (.builtin "len") (fun xs H Q=>∃z,xs=[.str z]/\z.length<=sizeLine/\Q (.int z.length) H):=by
 intro pins s σ H xs us Q I r h;obtain⟨z,rfl,hz,q⟩:=h;obtain⟨u,rfl,t,rfl⟩:=vals1 r;have hn:=sG;exact len_str 0x1 ⟨.int z.length,H,I.tok _,⟨_,rfl⟩,q⟩
def wX:gw X (.type "list") (fun xs H Q=>∃p ys,xs=[.ref p]/\(bF X.K H p ys\/bI X.K H p ys)/\∀l,H l=none->Q (.ref l) (upd H l 0x57)):=by
 intro pins s σ H xs us Q I r h;obtain⟨p,ys,rfl,hq,q⟩:=h;obtain⟨u,rfl,rx⟩:=vals1 r;cases rx;have fin:∀(its:List Value),Vals ys its->ys.length<=sizeLine->∀(h':Heap)(c':Nat),(∀b o',s.heap.get? b=some o'->h'.get? b=some o')->
   h'.get? s.heap.objs.size=some {cls:=.type "list",dict:=none,data:=.seq its.toArray c',slots:=#[]}->EP X pins σ Q 0x16 {s with heap:=h'}:=fun its r' hz h' c' kp e=>
  ⟨.ref s.heap.objs.size,_,I.laid (t':=s.toks) kp 0x2F (show cI X.prog X.w _ h' _ 0x57 from⟨hz,its,c',r',e⟩),rfl,q _ 0x47⟩
 rcases hq with hq|hq
 ·obtain⟨its,r',pl,hz⟩:=I.list hq;have hlen:=r'.length;obtain⟨o,ho,hc,n,hd⟩:=pl.isList;exact call_list_seq p 0x6F ho hc hd (fun h' c' kp e=>fin its r' hz h' c' kp e) (by simp only[A0v]<;>lia)
 ·obtain⟨its,r',pl,hz⟩:=I.tuple hq;have hlen:=r'.length;obtain⟨o,ho,hc,n,hd⟩:=pl;exact call_list_seq p (.inr rfl) ho hc hd (fun h' c' kp e=>fin its r' hz h' c' kp e) (by simp only[A0v]<;>lia)
def tyV(K:PySem.W.Frag)(T:String)(x:V)(H:Hp):Prop:=match x with
 | .str _=>T="str"
 | .int _=>T="int"
 | .ref p=>(T="list"/\∃xs,bF K H p xs)\/(T="tuple"/\∃o,K.lookup p=some o/\o.cls=.type "tuple"/\o.dict=none)\/
   (T="dict"/\((∃kvs,H p=some 0x18)\/∃kvs,H p=some (.dT kvs)))\/(T="set"/\∃S n,H p=some (.set S n))
 |_=>False
def JT{x:V}{v:Value}(I:Inv X pins σ H s)(r:RelV x v)(ty:tyV X.K T x H):
  s.TypeIs v T/\∀a,v=.ref a->∃ob,s.heap.get? a=some ob/\ob.dict=none:=by
 cases x with
 | str z=>
  obtain⟨t,rfl⟩:=r;cases(show T="str" from ty)
  exact⟨typeIs_str s z t,fun _ e=>nomatch e⟩
 | int i=>
  obtain⟨t,rfl⟩:=r;cases(show T="int" from ty)
  exact⟨typeIs_int s i t,fun _ e=>nomatch e⟩
 | ref p=>
  cases r;rcases ty with⟨rfl,xs,hq⟩|⟨rfl,o,hk,hc,hd⟩|⟨rfl,hk⟩|⟨rfl,S,n,hk⟩
  ·obtain⟨its,_,pl,_⟩:=I.list hq;refine⟨pl.isList.typeIs,fun a e=>?_⟩;cases e;obtain⟨o,n,e,c,hd,_⟩:=pl;exact⟨o,e,hd⟩
  ·refine⟨⟨o,I.pZ p o hk,hc⟩,fun a e=>?_⟩;cases e;exact⟨o,I.pZ _ o hk,hd⟩
  ·have z:∃o,s.heap.get? p=some o/\o.ExactDict:=by
    rcases hk with⟨kvs,hk⟩|⟨kvs,hk⟩
    ·obtain⟨_,_,_,_,o,_,_,e,ex,_⟩:=I.hok p _ hk;exact⟨o,e,ex⟩
    ·obtain⟨_,_,_,_,o,_,_,e,ex,_⟩:=I.hok p _ hk;exact⟨o,e,ex⟩
   obtain⟨o,e,ex⟩:=z;refine⟨⟨o,e,ex.1⟩,fun a e2=>?_⟩;cases e2;exact⟨o,e,ex.2.1⟩
  ·obtain⟨o,_,_,_,e,ex,_⟩:=I.hok p _ hk;refine⟨⟨o,e,ex.1⟩,fun a e2=>?_⟩;cases e2;exact⟨o,e,ex.2.1⟩
 |_=>exact False.elim ty
def tBM0(K:PySem.W.Frag)(T:String)(r:V->List V->Hp->VK->Prop)(to:TE):TE:=fun σ H Q=>to σ H fun x H1=>tyV K T x H1/\r x [] H1 Q
def tBM(K:PySem.W.Frag)(T:String)(r:V->List V->Hp->VK->Prop)(to:TE)(t:TA):TE:=fun σ H Q=>to σ H fun x H1=>tyV K T x H1/\t σ H1 fun xs H2=>r x xs H2 Q
variable{o:Expr}{es:List Expr}{to:TE}{t:TA}{id:String}{r:V->List V->Hp->VK->Prop}
def wY(pa:PlainAttrs T)(slot:Slot T name id)(hty:typeOf (.builtin id)=pure (.type "method_descriptor"))(hm:MtR X id r)(ho:PE X o to)
  (hbase:attributeBase o name X.env (eval o X.env)=eval o X.env:=by rfl)(hline:0x69=true:=by rfl):PE X (.Call (.Attribute o name apos) [] [] cpos) (tBM0 X.K T r to):=by
 intro pins s σ H Q I h;refine A2x hbase hline (cN (ho pins s σ H _ I h) fun v s1 zq=>?_);obtain⟨x,H1,I1,r1,ty,q1⟩:=zq;obtain⟨h1,h2⟩:=JT I1 r1 ty;exact⟨T,id,pa,slot,hty,h1,h2,A1p rfl (A3k (hm pins s1 σ H1 x [] v [] Q I1 r1 .nil q1))⟩
def jD(pa:PlainAttrs T)(slot:Slot T name id)(hty:typeOf (.builtin id)=pure (.type "method_descriptor"))(hm:MtR X id r)(ho:PE X o to)(ha:PA X (e::es) t)
  (hbase:attributeBase o name X.env (eval o X.env)=eval o X.env:=by rfl)
  (hfew:((backTo cpos (starEach (e::es) X.env)).all (fun x=>!x.1)&&(backToKw cpos (keywordEach [] X.env)).all (fun x=>x.1.isSome)
   &&decide ((e::es).length+([]:List Keyword).length+(if([]:List Keyword).isEmpty then 0 else 1)<30))=true:=by rfl)
  (hline:0x69=true:=by rfl)(hs:starEach (e::es) X.env=0x5B::starEach es X.env:=by rfl)(hplain:(backTo cpos 0x63).any (·.1)=false:=by rfl):
  PE X (.Call (.Attribute o name apos) (e::es) [] cpos) (tBM X.K T r to t):=by
 intro pins s σ H Q I h;refine wpAny_Call_method_late hbase hfew hline rfl (cN (ho pins s σ H _ I h) fun v s1 zq=>?_);obtain⟨x,H1,I1,r1,ty,q1⟩:=zq;obtain⟨h1,h2⟩:=JT I1 r1 ty;refine⟨T,id,pa,slot,hty,h1,h2,?_⟩;have hA:=ha cpos pins s1 σ H1 _ I1 q1;rw[hs]at hA ⊢;refine A1p (by show(false||(backTo cpos 0x63).any (·.1))=false;rw[hplain]<;>rfl) (A3V ?_)
 exact cN hA fun us s2 ⟨vs,H2,I2,r2,q2⟩=>hm pins s2 σ H2 x vs v us Q I2 r1 r2 q2
end
def MtM(X:Cx)(id:String)(r:V->List V->Hp->VK->Prop):Prop:=
 ∀ (pins:List 0x1E)(s:Shared)(σ:St)(H:Hp)(x:V)(xs:List V)(v:Value)(us:List Value)(Q:VK),Inv X pins σ H s->RelV x v->Vals xs us->r x xs H Q->
  wpAny 0xA X.A (call (.builtin id) (v::us)) 0x3F X.xe s
theorem Vals.one:∀{x:V}{us:List Value},Vals [x] us->∃u,us=[u]/\RelV x u
 |_,_,.cons r .nil=>⟨_,rfl,r⟩
theorem Vals.zero:∀{us:List Value},Vals [] us->us=[]
 |_,.nil=>rfl
theorem Vals.rep(h:Vals xs us):∀k:Nat,Vals (List.replicate k xs).flatten (List.replicate k us).flatten
 |0=>.nil
 | k+1=>by
  rw[A1n,A1n,A2i,A2i];exact Vals.append h (Vals.rep h k)
theorem foldl_rep(its:List Value):∀(k:Nat)(acc:List Value),
  List.foldl (fun x1 x2=>x1++x2) acc.toArray (List.replicate k its.toArray)=(acc++(List.replicate k its).flatten).toArray
 |0,acc=>by simp
 | k+1,acc=>by
  have e:acc.toArray++its.toArray=(acc++its).toArray:=by simp
  have e2:(acc++its)++(List.replicate k its).flatten=acc++(List.replicate (k+1) its).flatten:=by
   rw[A1n,A2i,A4w]
  rw[<-e2,<-foldl_rep its k (acc++its),<-e,A1n,A1f]
section
variable{l:Addr}{zs:List V}
def Inv.YX{its':List Value}{f:Array Value->Array Value}(I:Inv X pins σ H s)(hH:H l=some 0x53)
  (e:s.heap.get? l=some {cls:=.type "list",data:=.seq its.toArray n})(hf:f its.toArray=its'.toArray)(hv:Vals ys its')(hz:ys.length<=sizeLine):
  Inv X pins σ (upd H l 0x57) {s with heap:=s.heap.update l (Obj.mapSeq f),toks:=t'}:=by
 have q:=PySem.IsL.update e f;rw[hf]at q;refine I.write (x:=l) (e:=l) (by rw[hH];exact trivial) 0x6F (fun b' u hb hu=>(A3I s.heap (Obj.mapSeq f) (A0k hb)).trans hu) ⟨_,q⟩ ?_;exact⟨hz,its',_,hv,q⟩
def Inv.YZ(I:Inv X pins σ H s)(hv:Vals ys its)(hz:ys.length<=sizeLine):
  Inv X pins σ (upd H s.heap.objs.size 0x57) {s with heap:=s.heap.push {cls:=.type "list",data:=.seq its.toArray},toks:=t'}:=
 I.laid (fun _ _ q=>A0b _ q) 0x2F ⟨hz,its,0,hv,A0m _ rfl⟩
def Inv.fresh(I:Inv X pins σ H s):H s.heap.objs.size=none:=I.hok.fresh 0x2F
def Inv.JV(I:Inv X pins σ H s)(hH:H l=some 0x53):xs.length<=sizeLine/\∃(its:List Value)(n:Nat),Vals xs its/\xs.length=its.length/\s.heap.get? l=some {cls:=.type "list",data:=.seq its.toArray n}:=by
 obtain⟨z,its,n,r,e⟩:=I.hok l _ hH;exact⟨z,its,n,r,r.length,e⟩
def JW(h:n<=sizeLine):Builtin.List.listTooLong n=false:=by
 unfold Builtin.List.listTooLong;exact A0K 0x1
end
inductive wZ(x:V)(vs:List V)(H:Hp)(Q:VK):Prop
 |mk(l:Addr)(xs:List V)(y:V)(_:x=.ref l)(_:vs=[y])(_:H l=some 0x53)(_:xs.length<sizeLine)(_:Q .non (upd H l (.lst (xs++[y])))):wZ x vs H Q
def cX:MtM X "list.append" wZ:=by
 intro pins s σ H x vs v us Q I rx rv h;obtain⟨l,xs,y,rfl,rfl,hH,hz,q⟩:=h;cases rx;obtain⟨u,rfl,ru⟩:=rv.one;obtain⟨z,its,n,r,hl,e⟩:=I.JV hH;refine call_meets F.slot_list_append ⟨_,e,rfl⟩ F.entry_list_append (F.args_list_append_2 _ _) (PySem.list_append l its.toArray n u (by rw[A0v];lia)) ⟨e,?_⟩;refine⟨.non,_,I.YX (its':=its++[u]) hH e 0x8 (r.append (.cons ru .nil)) ?_,rfl,q⟩;rw[lG,A0w];lia
inductive JX(x:V)(vs:List V)(H:Hp)(Q:VK):Prop
 |mk(l:Addr)(xs:List V)(_:x=.ref l)(_:vs=[])(_:H l=some 0x53)(_:Q .non (upd H l 0x6D)):JX x vs H Q
def oW:MtM X "list.clear" JX:=by
 intro pins s σ H x vs v us Q I rx rv h;obtain⟨l,xs,rfl,rfl,hH,q⟩:=h;cases rx;have hus:=rv.zero;subst hus;obtain⟨z,its,n,r,hl,e⟩:=I.JV hH;refine call_meets F.slot_list_clear ⟨_,e,rfl⟩ F.entry_list_clear (F.args_list_clear_1 _) (AutoSeq1.list_clear_list_0 l its.toArray n (by rw[A0v];lia)) ⟨e,?_⟩;exact⟨.non,_,I.YX (its':=[]) (ys:=[]) hH e rfl .nil (A1i _),rfl,q⟩
inductive Z0(x y:V)(H:Hp)(Q:VK):Prop
 |mk(l b:Addr)(xs zs:List V)(_:x=.ref l)(_:y=.ref b)(_:H l=some 0x53)(_:H b=some (.lst zs))(_:xs.length+zs.length<=sizeLine)(_:∀p,H p=none->Q 0x3E (upd H p (.lst (xs++zs)))):Z0 x y H Q
def nW:mQ X (binaryOp .Add) Z0:=by
 intro pins s σ H x y v u Q I rx ry h;obtain⟨l,b,xs,zs,rfl,rfl,hH,hB,hz,q⟩:=h;cases rx;cases ry;obtain⟨z,its,n,r,hl,e⟩:=I.JV hH;obtain⟨z2,its2,n2,r2,hl2,e2⟩:=I.JV hB;refine PySem.P.add_list e e2 ?_ (by rw[A0v,A0v];lia);have ea:its.toArray++its2.toArray=(its++its2).toArray:=by simp
 rw[ea];exact⟨.ref _,_,I.YZ (t':=s.toks) (r.append r2) (by rw[lG];lia),rfl,q _ I.fresh⟩
inductive Z1(x y:V)(H:Hp)(Q:VK):Prop
 |mk(l:Addr)(k:Int)(xs:List V)(_:x=.ref l)(_:y=.int k)(_:H l=some 0x53)(_:-(2^63)<=k)(_:k<2^63)(_:xs.length*k.toNat<=sizeLine)(_:∀p,H p=none->Q 0x3E (upd H p (.lst (List.replicate k.toNat xs).flatten))):Z1 x y H Q
def len_rep{α:Type}(xs:List α)(k:Nat):(List.replicate k xs).flatten.length=k*xs.length:=by
 induction k with
 |zero=>simp
 |succ k ih=>rw[A1n,A2i,lG,ih,Nat.succ_mul,Nat.add_comm]
def Vb:mQ X (binaryOp .Mult) Z1:=by
 intro pins s σ H x y v u Q I rx ry h;obtain⟨l,k,xs,rfl,rfl,hH,h1,h2,hz,q⟩:=h;cases rx;obtain⟨t,rfl⟩:=ry;obtain⟨z,its,n,r,hl,e⟩:=I.JV hH;have hlen:its.toArray.size*k.toNat<=sizeLine:=by rw[A0v,<-hl];exact hz
 have hcap:¬its.toArray.size*k.toNat>(2^63-1)/8:=by
  have:(sizeLine:Nat)<=(2^63-1)/8:=by decide
  lia
 have hfit:¬(!Builtin.List.listFitsIndex k)=true:=by
  rw[fitsIndex_both h1 h2];exact A0n
 have Z2:¬Builtin.List.listTooLong (its.toArray.size*k.toNat)=true:=by
  rw[JW hlen];exact A0n
 have hnew:List.foldl (fun x1 x2=>x1++x2) #[] (List.replicate (if its.toArray.isEmpty=true then 0 else k.toNat) its.toArray)=(List.replicate k.toNat its).flatten.toArray:=by
  have f0:∀m:Nat,List.foldl (fun x1 x2=>x1++x2) #[] (List.replicate m its.toArray)=(List.replicate m its).flatten.toArray:=fun m=>by
   have:=foldl_rep its m [];rw[List.nil_append]at this;exact this
  rw[f0];cases its with
  |nil=>simp
  |cons a r'=>rw[A0f 0x8]
 refine wpAny_binaryOp_repeat_ref (T:="list") (U:="int") 0x6 ⟨_,e,rfl⟩ (fun s'=>typeIs_int s' k t) noFill_list_mul F.fills_int_mul F.slot_int_rmul repeat_list F.slot_int_index.lookup
  (call_meets F.slot_int_rmul (typeIs_int s k t) F.entry_int_rmul (F.args_int_rmul_2 _ _) (int___rmul___int_list k t l its.toArray n)
   ⟨e,rfl,⟨_,e,rfl⟩,call_meets F.slot_list_mul ⟨_,e,rfl⟩ F.entry_list_mul (F.args_list_mul_2 _ _) (AutoListH.list___mul___list_int_3 l its.toArray n k t hfit hcap Z2) ⟨e,?_⟩⟩)
 rw[hnew];exact⟨.ref _,_,I.YZ (t':=s.toks) (r.rep k.toNat) (by rw[len_rep,Nat.mul_comm];exact hz),rfl,q _ I.fresh⟩
end L2
namespace Att
open PySem PySem.W PySem.Calls PyProof.Rows
def rm{P:Params}:∀(ns:List Int)(vs:List Value),WellAll P h vs (ns.map WData.int)->IntsAre vs ns:=by
 intro ns
 induction ns with
 | nil=>
  intro vs w;rw[A4b]at w;cases w;exact .nil
 | cons n ns ih=>
  intro vs w;rw[A0r]at w;cases w with
  | cons a b=>
   cases a;exact .cons _ _ (ih _ b)
def Hr{l:OpenLaw}(hn:l.most=some n){P:Params}{args:List WData}{vals:List Value}
  (hpre:l.row.toRowW.claim.pre args=true)(hwl:WellAll P h vals args):
  ∃a vs ns,vals=[Value.ref a]/\args=[WData.list (ns.map WData.int)]/\h.get? a=some {cls:=.type "list",data:=.seq vs.toArray}/\IntsAre vs ns/\ns.length<=n:=by
 have hsh:WShape.hasAll [] args [.list .int]=true:=(pre_splitW hpre).1;have hc:l.pre.holds [] {args:=args}=true:=(pre_splitW hpre).2;obtain⟨d,r,rfl,h1,h2⟩:=hasAllW_cons hsh;obtain rfl:=hasAllW_nil h2;obtain⟨xs,rfl,h3⟩:=hasW_list h1;obtain⟨ns,rfl⟩:=items_int h3;have hlen:ns.length<=n:=by
  unfold OpenLaw.pre at hc;have h4:(WTm.not (.lt (.lit (.int (n:Int))) (.len (.arg 0)))).holds [] {args:=[.list (ns.map .int)]}=true:=by
   have h4:=(holds_andW hc).1;rw[hn]at h4;exact h4
  have h5:=condW_of h4 (w_not (w_lt w_lit (w_len_list (w_arg rfl))));rw[bY]at h5;refine Nat.le_of_not_lt fun q=>?_;have q':(n:Int)<((ns.length:Nat):Int):=by lia
  first
   |(rw[A0t q']at h5;exact absurd h5 0x6)
   |(simp at h5;lia)
 cases hwl with
 | cons w1 w2=>
  cases w2;cases w1 with
  |list ho hall=>exact⟨_,_,ns,rfl,rfl,ho,rm ns _ hall,hlen⟩
def HD(l:OpenLaw)(args:List WData):l.row.toRowW.claim.post args (.bool true) args=true:=
 postW_of (r:=l.row.toRowW) (X:=(true==true))
  (show WShape.has [] (.bool true) .bool=true by first|rfl|decide|simp[WShape.has,WShape.arms,WShape.armsAll])
  (show(WTm.eq .res (.lit (.bool true))).value [] {args:=args,res:=some (.bool true),after:=args}=some (.bool (true==true))from w_eq_bool (w_res rfl) w_lit) rfl
def yX{l:OpenLaw}{q:Program}{d:DefRec}
  (hn:l.most=some n)(hdf:d.params.defaults=[])
  (call:∀(w:World)(s₀ s₁:Shared)(mg mb:Str->Option Value)(fa:Addr)(o:Obj)(pm cd doc:Value)(a:Addr)(vs:List Value)(ns:List Int),
   Ground q loose [] XP w s₀ mg mb s₁.heap->YP w s₁.heap->
   s₁.heap.get? fa=some o->o.data=.func (docDef d.name d.params d.body d.scope pm cd doc)->s₁.heap.CodeRec cd d.name->mg d.name=some (.ref fa)->
   s₁.heap.get? a=some {cls:=.type "list",data:=.seq vs.toArray}->IntsAre vs ns->ns.length<=n->s₁.gens=#[]->
   codeAny (model l.prog w) callerA (.call (.ref fa) ⟨[.ref a],[]⟩) (fun r s'=>r=.ok (.ret (.bool true))/\OldK s₁.heap s'.heap/\s'.os=s₁.os/\AllBare s'.gens) s₁):
  WalkO q loose XP YP l.row.toRowW d [] (fun f vs=>PySem.call f vs):=by
 intro w s₀ s₁ mg mb G Y fa o pm cd doc dV kV ho hd hcd hD hmg hg args vals as hpre hlay hrd hwl hlo;obtain rfl:dV=.none:=Dflts.none hD hdf;obtain rfl:kV=.none:=Dflts.noKw hD;obtain⟨a,vs,ns,rfl,rfl,hobj,hints,hlen⟩:=Hr hn hpre hwl;refine enter_call (A3H (call w s₀ s₁ mg mb fa o pm cd doc a vs ns G Y ho (fd_plain hd) hcd hmg hobj hints hlen hg) fun r s' hq=>?_);obtain⟨rfl,h2,h3,h4⟩:=hq;exact⟨.inl ⟨.bool true,.bool true,[],rfl,fun _=>rfl,.bool true,HD l _,fun _=>⟨List.Pairwise.nil,fun _ hm=>(nomatch hm)⟩⟩,h2,h3,h4⟩
end Att
namespace L2
open PySem PySem.Spec PyProof.Rows
theorem vf:∀{vs:List Value}{ns:List Int},IntsAre vs ns->Vals 0x43 vs
 |_,_,.nil=>.nil
 |_,_,.cons n t h=>.cons ⟨t,rfl⟩ (vf h)
def Only(H:Hp):Prop:=∀b,H b=none\/∃o xs,H b=some (.gD o 0x53)
def JZ{mb:Str->Option Value}{k:Nat}{s₁:Shared}{vs:List Value}{ns:List Int}
  (KX:K.In s₁.heap)(hns:s₁.heap.Ns mainGlobals mg)(hb:s₁.heap.Ns builtinsNs mb)(hbb:∀x:Str,x≠"__name__"->mb x=bootBuiltins x)(hlim:s₁.heap.NoLimit)(hg:s₁.gens=#[])
  (ha:s₁.heap.get? a=some {cls:=.type "list",data:=.seq vs.toArray})(hi:IntsAre vs ns)(hl:ns.length<=sizeLine)(hr:fK k callerA)
  (F:∀base:Heap,K.In base->base.Ns mainGlobals mg->aP P w K mg base CX k fa fd [x] sp)(hbind:∀(s:Shared)(u:Value),BindsTo s fd ⟨[u],[]⟩ [(x,u)])
  (hsp:∀H:Hp,Only H->bF K H a 0x43->sp [.ref a] H (fun v _=>v=.bl true) fun _ _ _=>False)
  (hCX:∀H e s',CX [] H s₁ (fun _ _ _=>False) e s'->False):
  codeAny (model P w) callerA (.call (.ref fa) ⟨[.ref a],[]⟩) (fun r s'=>r=.ok (.ret (.bool true))/\OldK s₁.heap s'.heap/\s'.os=s₁.os/\AllBare s'.gens) s₁:=by
 have rv:=vf hi;have lenV:=hi.length;have core:∀H:Hp,Only H->bF K H a 0x43->nP P w H s₁.heap->(∀b,H b≠none->b=a)->(H a≠none->K.lookup a=none)->
   codeAny (model P w) callerA (.call (.ref fa) ⟨[.ref a],[]⟩) (fun r s'=>r=.ok (.ret (.bool true))/\OldK s₁.heap s'.heap/\s'.os=s₁.os/\AllBare s'.gens) s₁:=by
  intro H hO hS hok hA hK;have Eo:∀{b:Addr}{o:Obj},s₁.heap.get? b=some o->H b=none->(wH s₁.heap H).get? b=some o:=fun e n=>Jk e n;have YK:∀{b:Addr}{o:Obj}{es:Array DictEntry}{ep:Nat},s₁.heap.get? b=some o->o.data=.dict es ep->H b=none:=fun{b o es ep}e d=>by
   cases q:H b with
   |none=>rfl
   | some u=>
    have e':b=a:=hA b (by rw[q];simp);subst e';rw[ha]at e;cases e;have d':Data.seq vs.toArray _=Data.dict es ep:=d;cases d'
  have nsK:∀{b:Addr}{m:Str->Option Value},s₁.heap.Ns b m->(wH s₁.heap H).Ns b m:=fun{b m} ⟨o,es,ep,e,d,r⟩=>⟨o,es,ep,Eo e (YK e d),d,r⟩;have hKb:K.In (wH s₁.heap H):=fun b o e=>Eo (KX b o e) (by
   cases q:H b with
   |none=>rfl
   | some u=>
    have e':b=a:=hA b (by rw[q];simp);subst e';rw[hK (by rw[q];simp)]at e;cases e)
  have hM:Mod K mg (wH s₁.heap H):=⟨hKb,nsK hns,⟨mb,nsK hb,hbb⟩,let⟨mc,h1,h2⟩:=hlim;⟨mc,nsK h1,h2⟩⟩
  have e0:Bp P w K mg (wH s₁.heap H) callerA [] s₁ H:=⟨rfl,hM,fun b o e=>Px e,Nat.le_of_eq (GK _ _),trivial,fun b hb=>absurd (show b∈([]:List Addr)from hb) 0x8,hok,.of_eq hg⟩
  refine A3H ((F _ hKb (nsK hns)).run callerA [] s₁ H ⟨[.ref a],[]⟩ [.ref a] [.ref a] _ _ hr e0 (hbind s₁ 0x48) (.cons rfl .nil) (hsp H hO hS)) fun r s' h=>?_;cases r with
  |error e=>exact(hCX H e s' h).elim
  | ok fl=>
   cases fl with
   |next=>exact False.elim h
   |brk=>exact False.elim h
   |cont=>exact False.elim h
   | ret u=>
    obtain⟨v,H',os,bare,un,hok',r',q⟩:=h;have q':v=.bl true:=q;subst q';obtain rfl:u=Value.bool true:=r';refine⟨rfl,OldK.of_keep fun b o e=>?_,os,bare⟩;cases q:H b with
    |none=>exact un.keep b o e q (by intro z;exact absurd (show b∈([]:List Addr)from z) 0x8) 0x8
    | some u=>
     rcases hO b with z|⟨ob,xs,z⟩
     ·rw[q]at z;cases z
     ·have z2:=un.rY b ob _ z;obtain⟨e1,_⟩:=hok b _ z;obtain⟨e2,_⟩:=hok' b _ z2;rw[e]at e1;cases e1;exact e2
 cases hk:K.lookup a with
 | some o=>
  have e:=KX a o hk;rw[ha]at e;cases e;refine core (fun _=>none) (fun _=>.inl rfl) (.inr ⟨_,vs.toArray,_,hk,rfl,rfl,rfl,by rw[A0v,lenV];exact hl,by simpa using rv⟩) (fun b u z=>by have z':(none:Option HO)=some u:=z;cases z') (fun b z=>absurd rfl z) fun z=>absurd rfl z
 | none=>
  refine core (fun b=>if b=a then some (.gD {cls:=.type "list",data:=.seq vs.toArray} (.lst 0x43))else none) (fun b=>?_) (.inl (.inr ⟨{cls:=.type "list",data:=.seq vs.toArray},A0i rfl⟩)) (fun b u z=>?_) (fun b z=>?_) fun _=>hk
  ·by_cases hb:b=a
   ·exact .inr ⟨_,_,A0i hb⟩
   ·exact .inl (A0f hb)
  ·by_cases hb:b=a
   ·have z':=(A0i hb).symm.trans z;cases z';subst hb;exact⟨ha,by rw[bY];exact hl,vs,_,rv,ha⟩
   ·have z':=(A0f hb).symm.trans z;cases z'
  ·by_cases hb:b=a
   ·exact hb
   ·exact absurd (A0f hb) z
def Q6{l:PySem.W.OpenLaw}{k:Nat}{q:Program}{d:DefRec}{K:Params->PySem.W.Frag}{CX:World->Hj}{sp:World->Sp}
  (hn:l.most=some n)(hn2:n<=sizeLine)(hdf:d.params.defaults=[])(hr:fK k callerA)
  (hY:∀(w:World)(h:Heap),YP w h->(K w.params).In h)
  (F:∀(w:World)(mg:Str->Option Value)(fa:Addr)(h:Heap),(K w.params).In h->h.Ns mainGlobals mg->mg d.name=some (.ref fa)->
   ∃ fd:FuncData,(∀(s:Shared)(u:Value),BindsTo s fd ⟨[u],[]⟩ [(x,u)])/\
    ∀base:Heap,(K w.params).In base->base.Ns mainGlobals mg->aP l.prog w (K w.params) mg base (CX w) k fa fd [x] (sp w))
  (hsp:∀(w:World)(H:Hp)(a:Addr)(ns:List Int),ns.length<=n->Only H->bF (K w.params) H a 0x43->sp w [.ref a] H (fun v _=>v=.bl true) fun _ _ _=>False)
  (hCX:∀(w:World)(H:Hp)(s:Shared)(e:Value)(s':Shared),CX w [] H s (fun _ _ _=>False) e s'->False):
  PySem.W.WalkO q loose XP YP l.row.toRowW d [] (fun f vs=>PySem.call f vs):=by
 refine Att.yX hn hdf fun w s₀ s₁ mg mb fa o pm cd doc a vs ns G Y ho hd hcd hmg hobj hints hlen hg=>?_;have KX:=hY w _ Y;obtain⟨fd,hb,hF⟩:=F w mg fa _ KX G.T.g hmg;exact JZ KX G.T.g G.T.b G.T.builtins G.T.nolimit hg hobj hints (A0L hlen hn2) hr hF hb (fun H hO hS=>hsp w H a ns hlen hO hS) fun H e s'=>hCX w H s₁ e s'
def inClass(s:Stmt)(j:Nat):Stmt:=match s with
 | .ClassDef _ _ _ body _ _ _ _ _ _ _=>body.getD j (.Pass ⟨0,0,0,0⟩)
 |_=>.Pass ⟨0,0,0,0⟩
def kE(s:Stmt):Arguments:=match s with
 | .FunctionDef _ a _ _ _ _ _ _ _ _=>a
 |_=>{posonlyargs:=[],args:=[],vararg:=none,kwonlyargs:=[],kw_defaults:=[],kwarg:=none,defaults:=[]}
def eV(s:Stmt):List Stmt:=match s with
 | .FunctionDef _ _ b _ _ _ _ _ _ _=>b
 |_=>[]
def aH(s:Stmt):Scope:=match s with
 | .FunctionDef _ _ _ _ _ _ sc _ _ _=>sc
 |_=>{kind:=.function,names:=[],isGenerator:=false,isCoroutine:=false}
abbrev bV:Hj:=fun _ _ _ _ _ _=>False
abbrev E0:XK:=fun _ _ _=>False
def aU:Passes bV X E0:=fun _ _ _ _ _ _ _ h=>h.elim
structure gF(K:PySem.W.Frag)(x qual:Str)(st:Stmt)(f:Addr)(fd:FuncData):Prop where
 ex:∃(oc:Value)(od:Option Addr)(kV doc pm:Value)(an:Option Addr)(cdv ct:Value)(osl:Array (Option Value)),
  fd=PySem.W.fnOf x qual (kE st) (eV st) (aH st) .none kV doc pm an cdv ct/\K.lookup f=some ⟨oc,od,.func fd,osl⟩/\PySem.W.codeIn K cdv qual=true
 kp:PySem.W.keepIn K 0x75=true
def gF.ok{k:Nat}(F:gF K x qual st f fd)(S:aX N ps (aH st))(len:∀vs H Q E,sp vs H Q E->vs.length=ps.length)
  (hbody:∀(cdv:Value)(A:Around)(outer:List Env)(s:Shared)(H:Hp)(vs:List V)(Q:VK)(E:XK),fK k (A.deeper (envOfC qual (aH st) s.heap.objs.size f cdv))->sp vs H Q E->
   ∃t,yP (Hl bV P w K mg base N qual (aH st) f cdv A outer s H E).nox (eV st) t/\t {nx:=fun _ H'=>Q .non H',rt:=Q} (start N vs) H):aP P w K mg base bV (k+1) f fd ps sp:=by
 obtain⟨oc,od,kV,doc,pm,an,cdv,ct,osl,rfl,lk,hcd⟩:=F.ex;refine YL lk hcd S len fun A outer s H vs Q E hr hsp=>?_;obtain⟨t,h,q⟩:=hbody cdv A outer s H vs Q E hr hsp;exact⟨t,h.nox,q⟩
def gF.binds(F:gF K x qual st f fd)
  (h:∀(kV doc pm:Value)(an:Option Addr)(cdv ct:Value)(us:List Value),us.length=ps.length->bindArgs (PySem.W.fnOf x qual (kE st) (eV st) (aH st) .none kV doc pm an cdv ct) ⟨us,[]⟩=pure (ps.zip us)):Binds K fd ps []:=by
 obtain⟨oc,od,kV,doc,pm,an,cdv,ct,osl,rfl,lk,hcd⟩:=F.ex;exact .all (h kV doc pm an cdv ct)
def K1{oc:Value}{od an:Option Addr}{osl:Array (Option Value)}{kV doc pm cdv ct:Value}(l:K.lookup f=some ⟨oc,od,.func (PySem.W.fnOf x qual (kE st) (eV st) (aH st) .none kV doc pm an cdv ct),osl⟩)
  (c:PySem.W.codeIn K cdv qual=true)(k:PySem.W.keepIn K 0x75=true):gF K x qual st f (PySem.W.fnOf x qual (kE st) (eV st) (aH st) .none kV doc pm an cdv ct):=⟨⟨oc,od,kV,doc,pm,an,cdv,ct,osl,rfl,l,c⟩,k⟩
def vg(h:n<=1000):n<sizeLine:=A0Q h 0x6
def pv(i:Nat)(hN:X.N[i]?=some x:=by rfl)(hv:Vis X.env.scope x:=by first|exact Or.inl rfl|exact Or.inr 0x9|exact Or.inr (Or.inr rfl))(hd:0x60=false:=by decide)
  (hcd:(x==("__classdict__":Str))=false:=by decide):PE X (.Name x pos) (uN i):=Uy hN hv hd hcd
def bZ{A:Prop}(h:B):if false=true then A else B:=by
 rw[A0f A0n];exact h
def dJ{A:Prop}(h:A):if true=true then A else B:=by
 rw[A0i rfl];exact h
def gA{c A:Prop}[Decidable c](h1:c->A)(h2:¬c->B):if c then A else B:=by
 by_cases h:c
 ·rw[A0i h];exact h1 h
 ·rw[A0f h];exact h2 h
def Ep{c A:Prop}[Decidable c](hc:c)(h:B):if(!decide c)=true then A else B:=by
 rw[A0t hc];exact bZ h
def Same(H H':Hp):Prop:=∀b o,H b=some o->H' b=some o
def Same.refl(H:Hp):Same H H:=fun _ _ h=>h
def Same.trans(a:Same H H1)(b:Same H1 H2):Same H H2:=fun c o h=>b c o (a c o h)
def Same.free(e:Same H H'){l:Addr}(h:H' l=Option.none):H l=Option.none:=by
 cases q:H l with
 |none=>rfl
 | some o=>
  rw[e l o q]at h;cases h
def Same.seq(e:Same H H')(h:bF K H a xs):bF K H' a xs:=by
 rcases h with(h|⟨o,h⟩)|h
 ·exact .inl (.inl (e _ _ h))
 ·exact .inl (.inr ⟨o,e _ _ h⟩)
 ·exact .inr h
def gG(env:Env):List (Str×NameKind)->List (Str×Addr)->List (Str×Addr)
 |[],cs=>cs
 |(n,k)::r,cs=>gG env r (if k==.free then(n,(env.cells.lookup n).getD 0)::cs else cs)
theorem vm:∀(l:List (Str×NameKind))(cs:List (Str×Addr))(p:Str×Addr),p∈gG env l cs->p∈cs\/((p.1,NameKind.free)∈l/\p.2=(env.cells.lookup p.1).getD 0)
 |[],_,_,h=>.inl h
 | (n,k)::r,cs,p,h=>by
  rcases vm r _ p h with q|⟨q,e⟩
  ·by_cases hk:k=.free
   ·subst hk;rw[A0i (by rfl)]at q;rcases A0c.mp q with z|z
    ·subst z;exact .inr ⟨A0l,rfl⟩
    ·exact .inl z
   ·rw[A0f (by simpa using hk)]at q;exact .inl q
  ·exact .inr ⟨lH _ q,e⟩
theorem vq:∀(l:List (Str×NameKind))(cs:List (Str×Addr))(p:Str×Addr),p∈cs->p∈gG env l cs
 |[],_,_,h=>h
 | (n,k)::r,cs,p,h=>by
  refine vq r _ p ?_
  split
  ·exact lH _ h
  ·exact h
theorem qp:∀(l:List (Str×NameKind))(cs:List (Str×Addr)),(x,NameKind.free)∈l->∃c,(x,c)∈gG env l cs
 |[],_,h=>nomatch h
 | (n,k)::r,cs,h=>by
  rcases A0c.mp h with z|z
  ·cases z;exact⟨_,vq r _ _ (by rw[A0i (by rfl)];exact A0l)⟩
  ·exact qp r _ z
theorem jK{α:Type}:∀{l:List (Str×α)}{c:α},(x,c)∈l->∃c',l.lookup x=some c'
 |[],_,h=>nomatch h
 | (n,d)::r,c,h=>by
  by_cases e:x=n
  ·subst e;exact⟨d,by simp[A0Y]⟩
  ·have:(x==n)=false:=by simpa using e
   simp only[A0Y,this];rcases A0c.mp h with z|z
   ·cases z;exact absurd rfl e
   ·exact jK z
theorem sU:∀(l:List (Str×NameKind))(cs:List (Str×Addr)),(∀x∈l,x.2=.free->(env.cells.lookup x.1).isSome=true)->
  (forIn l cs fun(x:Str×NameKind)(r:List (Str×Addr))=>(match x with
   |(name,kind)=>if(kind==NameKind.free)=true then do let a<-cellOf env name;pure (ForInStep.yield ((name,a)::r))else pure (ForInStep.yield r):Sem (ForInStep (List (Str×Addr)))))=pure (gG env l cs)
 |[],cs,_=>rfl
 | (n,k)::r,cs,h=>by
  rw[A4S];have ih:=fun cs'=>sU r cs' fun x hx=>h x (lH _ hx)
  by_cases hk:k=.free
  ·subst hk;obtain⟨a,ha⟩:=A2p.mp (h (n,.free) A0l rfl);have hca:cellOf env n=pure a:=by unfold cellOf;rw[ha]
   have hn:gG env ((n,.free)::r) cs=gG env r ((n,a)::cs):=by
    show gG env r (if(NameKind.free==NameKind.free)=true then(n,(env.cells.lookup n).getD 0)::cs else cs)=_
    rw[A0i (by rfl),ha];rfl
   rw[hn];simp only[A2y,A3f,hca,pure_bind];exact ih _
  ·have hb:(k==NameKind.free)=false:=by simpa using hk
   have hn:gG env ((n,k)::r) cs=gG env r cs:=by
    show gG env r (if(k==NameKind.free)=true then(n,(env.cells.lookup n).getD 0)::cs else cs)=_
    rw[A0f (by simp[hb])]
   rw[hn];simp only[hb,A1t,A3b,pure_bind];exact ih _
def lE(h:∀x∈scope.names,x.2=.free->(env.cells.lookup x.1).isSome=true):closureFor scope env=pure (gG env scope.names []):=by
 simp only[closureFor];have:=sU (env:=env) scope.names [] h
 first
  |(rw[this];rfl)
  |(erw [this];rfl)
  |(exact(A1r (·>>=pure) this))
def bW{l:List (Str×NameKind)}(h:∀x∈l,x.2=.free->(env.cells.lookup x.1).isSome=true)(e:(gG env l []).lookup x=some c):env.cells.lookup x=some c:=by
 rcases vm l [] (x,c) (A1a e)with q|⟨q,e'⟩
 ·exact nomatch q
 ·obtain⟨a,ha⟩:=A2p.mp (h _ q rfl);have ha':env.cells.lookup x=some a:=ha;have e2:c=(env.cells.lookup x).getD 0:=e';rw[ha']at e2;rw[ha',e2];rfl
def gM{k':NameKind}(h:(relabel scope env).names.lookup x=some k'):∃k,scope.names.lookup x=some k/\(k'=k\/(k=.free/\k'=.cell)):=by
 unfold relabel at h;dsimp only at h;generalize scope.names=l at h ⊢
 induction l with
 |nil=>simp at h
 | cons p r ih=>
  obtain⟨n,k⟩:=p;rw[A0r]at h
  by_cases e:x=n
  ·subst e;refine⟨k,by simp[A0Y],?_⟩
   by_cases hc:(k==NameKind.free&&env.scope.kind==.function&&env.kindOf x==some .cell)=true
   ·simp only[hc,A3f,A0Y,A2y]at h;have hk:k=.free:=by
     have:=(Bool.and_eq_true_iff.mp (Bool.and_eq_true_iff.mp hc).1).1
     simpa using this
    exact .inr ⟨hk,(A0O h).symm⟩
   ·simp only[hc,A3b,A0Y,A2y,A1t]at h;exact .inl (A0O h).symm
  ·have hb:(x==n)=false:=by simpa using e
   have h':List.lookup x (List.map (fun x=>match x with|(n,k)=>if(k==NameKind.free&&env.scope.kind==ScopeKind.function&&env.kindOf n==some NameKind.cell)=true then(n,NameKind.cell)else(n,k)) r)=some k':=by
    by_cases hc:(k==NameKind.free&&env.scope.kind==.function&&env.kindOf n==some .cell)=true
    ·simpa only[hc,A3f,A0Y,hb]using h
    ·simpa only[hc,A3b,A0Y,hb,A1t]using h
   obtain⟨k0,e0,q⟩:=ih h';exact⟨k0,by simp only[A0Y,hb];exact e0,q⟩
def oX(h:scope.names.lookup x=some .free):(relabel scope env).names.lookup x=some .cell\/(relabel scope env).names.lookup x=some .free:=by
 unfold relabel;dsimp only;generalize scope.names=l at h ⊢
 induction l with
 |nil=>simp at h
 | cons p r ih=>
  obtain⟨n,k⟩:=p;rw[A0r]
  by_cases e:x=n
  ·subst e;simp only[A0Y,A2y]at h;cases h;generalize List.map _ r=r'
   show List.lookup x ((if(NameKind.free==NameKind.free&&env.scope.kind==.function&&env.kindOf x==some .cell)=true then(x,NameKind.cell)else(x,NameKind.free))::r')=_\/List.lookup x ((if(NameKind.free==NameKind.free&&env.scope.kind==.function&&env.kindOf x==some .cell)=true then(x,NameKind.cell)else(x,NameKind.free))::r')=_
   by_cases hc:(NameKind.free==NameKind.free&&env.scope.kind==.function&&env.kindOf x==some .cell)=true
   ·rw[A0i hc];exact .inl (by simp[A0Y])
   ·rw[A0f hc];exact .inr (by simp[A0Y])
  ·have hb:(x==n)=false:=by simpa using e
   simp only[A0Y,hb]at h
   by_cases hc:(k==NameKind.free&&env.scope.kind==.function&&env.kindOf n==some .cell)=true
   ·simp only[hc,A3f,A0Y,hb];exact ih h
   ·simp only[hc,A3b,A0Y,hb,A1t];exact ih h
def yJ(X:Cx)(N':List Str)(scope:Scope)(s:Shared)(H:Hp)(fp:List Addr)(C:Addr):Cx where
 prog:=X.prog
 w:=X.w
 K:=X.K
 mg:=X.mg
 base:=X.base
 A:=X.A
 N:=N'
 s₀:=s
 H₀:=H
 env:=compEnvC scope 0x71 C X.env
 outer:=X.stack
 stack:=X.stack
 ex:=fp
 fn:=fun _=>false
 calm:=X.calm
 pn:=[]
 xe:=fun _ _=>False
structure cM(N:List Str)(sc scope:Scope)(ts fr:List Str)(ix:List Nat):Prop where
 kind:scope.kind=.function
 xg:∀y∈scope.names,y.2≠.cell
 nms:∀y∈scope.names,y.2=.local->scope.names.lookup y.1=some .local
 frs:∀y∈scope.names,y.2=.free->sc.names.lookup y.1=some .cell\/sc.names.lookup y.1=some .free
 cap:fr.map some=ix.map fun i=>N[i]?
 Z4:∀x∈fr,scope.names.lookup x=some .free
def jd(σ:St)(k:Nat)(ix:List Nat):St:=List.replicate k none++ix.map fun i=>(σ[i]?).join
def Kp(σ σ':St):Prop:=∀(j:Nat)(v:V),σ[j]?=some 0x8B->σ'[j]?=some 0x8B
def Kp.refl(σ:St):Kp σ σ:=fun _ _ h=>h
def Kp.set{σ1:St}{x:Option V}(h:σ[i]?=some none)(q:Kp σ σ1):Kp σ (σ1.set i x):=fun j v e=>by
 by_cases hj:j=i
 ·subst hj;rw[h]at e;cases e
 ·rw[A3U (A0k hj)];exact q j v e
def Yb(X:Cx)(ifs:List Expr)(t:TT):Prop:=
 ∀ (pins:List 0x1E)(s:Shared)(σ:St)(H:Hp)(Q:Bool->Hp->Prop),Inv X pins σ H s->t σ H Q->
  wpAny 0xA X.A (forIn ifs true fun c r=>if r=true then do let ok<-isTrue c X.env (eval c X.env);pure (ForInStep.yield ok)else pure (ForInStep.yield r)) (TP X pins σ Q) X.xe s
def Td:TT:=fun _ H Q=>Q true H
def iM{A B:Hp->Prop}(h:A H):Td σ H (fun b H5=>if b=true then A H5 else B H5):=by
 show if true=true then A H else B H
 rw[A0i rfl];exact h
def jE:Yb X [] Td:=fun _ _ _ H _ I h=>wpAny_tests_nil ⟨H,I,h⟩
def fM{c:Expr}{t:TT}(h:PT X c t):Yb X [c] t:=fun pins s σ H Q I q=>wpAny_tests_one (h pins s σ H Q I q)
def nY(J:It)(D:Addr)(σ:St)(k:Nat)(ix:List Nat)(g:TG)(tt:TT)(te:TE)(Q:VK)(H1:Hp):Prop:=∃W:Nat->Nat->List V->Hp->Prop,(∃m,W 0 m [] (upd H1 D 0x6D))/\
 ∀ i m ys H2,W i m ys H2->H2 D=some 0x57/\((J.stop i H2/\Q 0x86 H2)\/(J.go i H2/\∃N:List V->Hp->Prop,(∀zs H',N zs H'->∃m',m'<m/\W (i+1) m' zs H')/\∀x H3,J.Az i H2 x H3->g x 0x89 H3 fun σ2 H4=>Kp 0x89 σ2/\
  tt σ2 H4 fun b H5=>if b=true then te σ2 H5 fun y H6=>H6 D=some 0x57/\ys.length<sizeLine/\N (ys++[y]) (upd H6 D (.lst (ys++[y])))else N ys H5))
def Er(k:Nat)(ix:List Nat)(wi:TI)(g:TG)(tt:TT)(te:TE):TE:=fun σ H Q=>wi σ H fun J H1=>∀D,H1 D=none->nY J D σ k ix g tt te Q H1
section
variable{elt:Expr}{ifs:List Expr}{fr:List Str}
def yZ{k:Nat}(h:0x89[j]?=some 0x8B):∃a i,j=k+a/\ix[a]?=some i/\σ[i]?=some 0x8B:=by
 unfold jd at h
 by_cases hj:j<k
 ·rw[A2e (by simpa using hj),A3y,A0i hj]at h;cases h
 ·rw [A1k (by simpa using hj),A1K,lJ]at h;cases e:ix[j-k]? with
  |none=>rw[e]at h;cases h
  | some i=>
   rw[e]at h;refine⟨j-k,i,by lia,e,?_⟩;have h':(σ[i]?).join=some v:=A0O h;cases e2:σ[i]? with
   |none=>rw[e2]at h';cases h'
   |some o=>rw[e2]at h';exact A1r some h'
def qQ{k:Nat}:(0x89).length=k+ix.length:=by unfold jd;simp
def K3{tk:Nat}(S:cM X.N X.env.scope scope ts fr ix)(I:Inv X pins σ H s)(hf:∀b∈fp,jQ X pins H b)(hfp:∀b∈fp,b<s.heap.objs.size)
  (hD:s.heap.objs.size<=D)(hC:s.heap.objs.size<=C)(hDC:D≠C)(hk:∀b o,s.heap.get? b=some o->h1.get? b=some o)(ho:h1.get? D=some {cls:=.type "list",data:=.seq #[]}){m0:Str->Option Value}(hn:h1.Ns C m0):
  Inv 0x22 [] 0x77 (upd H D 0x6D) {s with heap:=h1,toks:=tk}:=by
 have hcl:∀x∈scope.names,x.2=.free->(X.env.cells.lookup x.1).isSome=true:=fun x hx hfx=>by
  obtain⟨c,hc⟩:=I.ok.has x.1 (S.frs x hx hfx);rw[hc];rfl
 have K4:∀b,s.heap.objs.size<=b->∀x c,X.env.cells.lookup x=some c->c≠b:=fun b hb x c e z=>by
  obtain⟨v,q⟩:=I.cell x c e;exact absurd (A0o q.lt (by rw[z];exact hb)) (A1h _)
 have K5:∀x,scope.names.lookup x=some .free->∃c,(0x71).lookup x=some c/\X.env.cells.lookup x=some c:=fun x hx=>by
  obtain⟨c,hc⟩:=qp (env:=X.env) scope.names [] (A1a hx);obtain⟨c',hc'⟩:=jK hc;exact⟨c',hc',bW hcl hc'⟩
 have Vc:∀b∈fp,b∉frs X.stack:=fun b hb z=>by
  obtain⟨_,f1,f2,_⟩:=hf b hb;rcases A0c.mp (I.wI b z)with e|e
  ·exact f1 e
  ·exact f2 e
 have hCn:H C=none:=I.hok.fresh hC;have hDn:H D=none:=I.hok.fresh hD;refine⟨⟨I.ok.mod,?_,I.ok.glob,I.ok.blt,hC,fun x y c h1 h2=>?_,fun x hx=>?_,fun x c hfx=>?_,I.ok.hd,I.ok.frames,.inl rfl,fun b hb=>⟨?_,fun x c e=>?_⟩,I.bs,A0L I.ok.Pj I.sz,fun b o e hb=>?_,Vc,I.stack,I.wJ⟩,
  rfl,I.bare,Un.laid hk hD hDn,⟨m0,hn,fun i x v e1 e2 e3=>?_⟩,fun x c e=>?_,?_,fun x c e=>?_,fun p hp=>?_,I.hok.laid hk hD ⟨?_,[],0,.nil,ho⟩,?_⟩
 ·show(0x97).kind=_
  exact S.kind
 ·exact I.ok.inj x y c (bW hcl h1) (bW hcl h2)
 ·have hx':(0x97).names.lookup x=some .cell\/(0x97).names.lookup x=some .free:=hx;have hfree:scope.names.lookup x=some .free:=by
   rcases hx' with q|q
   ·obtain⟨k,e,z⟩:=gM q;rcases z with z|⟨z,_⟩
    ·subst z;exact absurd rfl (S.xg _ (A1a e))
    ·rw[e,z]
   ·obtain⟨k,e,z⟩:=gM q;rcases z with z|⟨_,z⟩
    ·rw[e,<-z]
    ·cases z
  obtain⟨c,hc,_⟩:=K5 x hfree;exact⟨c,hc⟩
 ·exact absurd (show false=true from hfx) 0x6
 ·exact A0I (A0o (hfp b hb) hC)
 ·exact(hf b hb).2.2.2.2.1 x c (bW hcl e)
 ·have f:=hf b hb;rcases f.2.2.2.1 with z|z
  ·exact I.ok.Bf b o e z
  ·exact absurd (A0o (A0q (I.ok.bs b o e).1) z) (A1h _)
 ·obtain⟨a,i',hj,hi,hσ⟩:=yZ e2;subst hj;have e1':(ts++fr)[ts.length+a]?=some x:=e1;rw[A1k 0x1,Nat.add_sub_cancel_left]at e1';have hN:X.N[i']?=some x:=by
   have q:=A1r (fun l=>l[a]?) S.cap;simp only[lJ,e1',hi]at q;exact(A0O q).symm
  have hfree:=S.Z4 x (oF e1');have hk':=S.frs (x,.free) (A1a hfree) rfl;obtain⟨m,hnm,hl⟩:=I.loc;obtain⟨u,r,lk⟩:=hl i' x v hN hσ (.inr hk');refine⟨u,r,?_⟩;obtain⟨c,hc,hc'⟩:=K5 x hfree;rcases lk with⟨z,_⟩|⟨_,c2,e4,z⟩
  ·have z':X.env.scope.names.lookup x=some .local:=z;rcases hk' with y|y
   ·have y':X.env.scope.names.lookup x=some .cell:=y;rw[z']at y';cases y'
   ·have y':X.env.scope.names.lookup x=some .free:=y;rw[z']at y';cases y'
  ·have hcc:c2=c:=A0O (e4.symm.trans hc');rw[hcc]at z;obtain⟨o,ho2,hd2⟩:=z;exact .inr ⟨oX hfree,c,hc,o,hk _ _ ho2,hd2⟩
 ·obtain⟨v,o,ho2,hd2⟩:=I.cell x c (bW hcl e);exact⟨v,o,hk _ _ ho2,hd2⟩
 ·show upd H D 0x6D C=none
  rw[ak (A0k hDC)];exact hCn
 ·show upd H D 0x6D c=none
  rw[ak (K4 D hD x c (bW hcl e))];exact I.jA x c (bW hcl e)
 ·exact absurd (show p∈([]:List 0x1E)from hp) 0x8
 ·exact A1i _
 ·have e:=A1r List.length S.cap;simp only[bY]at e;rw[qQ]
  show _=(ts++fr).length
  rw[lG,e]
def vA{Q:VK}{use:Option (Value->Sem Unit)}{Qv:Value->Shared->Prop}(hc:X.calm=true)(S:cM X.N X.env.scope scope ts fr ix)(hi:PI X tg iter wi)
  (hb:∀s H fp C,PG 0x22 tg g/\Yb 0x22 ifs tt/\PE 0x22 elt te)
  (hs:∀x,foldedSetIterable iter X.env x=pure x)(I:Inv X pins σ H s)(h:Er ts.length ix wi g tt te σ H Q)
  (fin:∀(D C:Addr)(H':Hp)(s':Shared),Inv X pins σ H' s'->jQ X pins H' C->(∃m,s'.heap.Ns C m)->Q 0x86 H'->compPost 0xA X.A X.xe use Qv 0x86 C (.ok .next) s'):
  wpAny 0xA X.A (comprehension 0x3D scope X.env (firstIterPos [⟨tg,iter,ifs,0⟩] pos) (newList []) false (eval iter X.env) use) Qv X.xe s:=by
 have hcl:∀x∈scope.names,x.2=.free->(X.env.cells.lookup x.1).isSome=true:=fun x hx hfx=>by
  obtain⟨c,hc⟩:=I.ok.has x.1 (S.frs x hx hfx);rw[hc];rfl
 refine wpAny_comprehension_free (use:=use) rfl hs (lE hcl) S.kind S.nms (cN (hi pins s σ H _ I h) fun v s1 h1=>cN h1 fun itv s2 h2=>?_);obtain⟨it,fp,tn,J,H2,rfl,I2,T,st2,f2,hW⟩:=h2;refine A1g (wpAny_newFunctionEnv S.xg (by intro y hy;simp at hy) (fun h₁ hns₁ hsb₁=>?_) S.kind);dsimp only at hns₁ hsb₁ ⊢;generalize hH2:s2.heap.push {cls:=.type "list",dict:=none,data:=.seq ([]:List Value).toArray}=G2 at hns₁ hsb₁ ⊢;have Vd:G2.objs.size=s2.heap.objs.size+1:=by rw[<-hH2,A1s]
 have hDC:s2.heap.objs.size≠G2.objs.size:=by rw[Vd];exact A0I (A2w _)
 have hCle:s2.heap.objs.size<=G2.objs.size:=by rw[Vd];exact A3x _
 have old:∀b o,s2.heap.get? b=some o->h₁.get? b=some o:=fun b o e=>hsb₁.extBut b o (by rw[Vd];exact A0I (A2Y (A0q e))) (A0b _ (hH2▸ A0b _ e));have hacc:h₁.get? s2.heap.objs.size=some {cls:=.type "list",data:=.seq #[]}:=hsb₁.extBut _ _ hDC (A0b _ (hH2▸ A0m _ rfl));have hfp:∀b∈fp,b<s2.heap.objs.size:=fun b hb'=>by
  obtain⟨o,e,_⟩:=T.obj _ _ st2 b hb';exact A0q e
 have IC:Inv (yJ X (ts++fr) scope s2 H2 fp G2.objs.size) [] 0x77 (upd H2 s2.heap.objs.size 0x6D) {s2 with heap:=h₁,toks:=s2.toks+([]:List (Str×Value)).length}:=
  K3 S I2 f2 hfp 0x2F hCle hDC old hacc hns₁
 have st1:tn 0 h₁:=T.keep _ _ _ st2 fun b hb' o e=>old b o e;obtain⟨W,⟨m0,w0⟩,turn⟩:=hW s2.heap.objs.size I2.fresh;obtain⟨bg,bt,be⟩:=hb s2 H2 fp G2.objs.size;generalize hX:yJ X (ts++fr) scope s2 H2 fp G2.objs.size=Y at IC bg bt be;have eP:Y.prog=X.prog:=by rw[<-hX];rfl
 have eW:Y.w=X.w:=by rw[<-hX];rfl
 have eK:Y.K=X.K:=by rw[<-hX];rfl
 have eC:Y.calm=true:=by rw[<-hX];exact hc
 have eA:Y.A=X.A:=by rw[<-hX];rfl
 have eE:Y.env=compEnvC scope 0x71 G2.objs.size X.env:=by rw[<-hX];rfl
 have eX:Y.xe=fun _ _=>False:=by rw[<-hX];rfl
 have stat:∀{H':Hp},0x85->∀b∈fp,jQ Y [] H' b:=fun hn b hb'=>by
  rw[<-hX];have z:=IC.ok;rw[<-hX]at z;refine⟨hn b hb',(z.Y5 b hb').1,z.GP b hb',.inl hb',(z.Y5 b hb').2,fun p hp=>absurd (show p∈([]:List 0x1E)from hp) 0x8⟩
 have fr0:∀b∈fp,upd H2 s2.heap.objs.size 0x6D b=none:=fun b hb'=>by rw[ak (A0I (hfp b hb'))];exact(f2 b hb').1
 have bot:∀{α:Type}{t:Sem α}{R:α->Shared->Prop}{E:Value->Shared->Prop}{z:Shared},wpAny (model Y.prog Y.w) Y.A t R Y.xe z->wpAny 0xA X.A t R E z:=fun{α t R E z}q=>by
  rw[eP,eW,eA,eX]at q;exact A1j q (fun _ _ y=>y) fun _ _ y=>y.elim
 have loop:codeAny 0xA X.A (.compLoop 0x3D 0 0x4E 0x34 (compEnvC scope 0x71 G2.objs.size X.env))
   (compPost 0xA X.A X.xe use Qv 0x34 G2.objs.size) {s2 with heap:=h₁,toks:=s2.toks+([]:List (Str×Value)).length}:=by
  rw[<-eE];refine codeAny_loop rfl (fun n s'=>∃i ys H',Inv Y [] 0x77 H' s'/\tn i s'.heap/\0x85/\W i n ys H') (fun n s3 hI=>?_) m0 ⟨0,[],_,IC,st1,fr0,w0⟩;obtain⟨i,ys,H3,I3,st3,T4,w3⟩:=hI
  show wpAny _ _ ((compTurn 0x3D 0 0x4E 0x34 Y.env).onRaise (fun x=>do noteFrame x Y.env;theTreesLotGoes x)) _ _ s3
  refine wpAny_noted ?_;rw[compTurn_list];obtain⟨hD3,hcase⟩:=turn i n ys H3 w3;rcases hcase with⟨stop,qn⟩|⟨go,N,hN,step⟩
  ·have q:=T.done Y eP eW eK eC i [] s3 _ H3 (fun _ _=>False) I3 (stat T4) st3 stop;rw[eA]at q;refine A0a (A1Y (A0a (A1j q (fun r s4 ⟨hr,I4⟩=>?_) fun _ _ y=>y.elim)));subst hr;refine A0d ?_;have b4:Un (frs X.stack) fp H2 H3 s2.heap s4.heap:=by have z:=I4.base;rw[<-hX]at z;exact z
   have ok4:nP X.prog X.w H3 s4.heap:=by have z:=I4.hok;rw[eP,eW]at z;exact z
   have os4:s4.os=s2.os:=by have z:=I4.os;rw[<-hX]at z;exact z
   have I5:Inv X pins σ H3 s4:=I2.call' os4 b4 ok4 I4.bare fun b hb'=>⟨(f2 b hb').2.2.2.1,(f2 b hb').2.1,(f2 b hb').2.2.2.2.1,(f2 b hb').2.2.2.2.2⟩;have fC:H3 G2.objs.size=none:=by have z:=I4.free;rw[eE]at z;exact z
   have nC:∃m,s4.heap.Ns G2.objs.size m:=by obtain⟨m,z,_⟩:=I4.loc;rw[eE]at z;exact⟨m,z⟩
   exact fin _ _ H3 s4 I5 (I2.wL hCle fC) nC qn
  ·have q:=T.item Y eP eW eK eC i [] s3 _ H3 (fun _ _=>False) I3 (stat T4) st3 go;rw[eA]at q;refine A0a (A1Y (A0a (A1j q (fun r s4 ⟨u,hr,h4⟩=>?_) fun _ _ y=>y.elim)));subst hr;refine A0a (A1j h4 (fun _ s5 ⟨x,H5,I5,r5,y5,Jy,Yz⟩=>?_) fun _ _ y=>y.elim);have YB:=I5.pinned (stat Yz) (T.obj _ _ Jy);refine A0a (bot (cN (bg _ s5 _ H5 x u _ YB r5 (step x H5 y5)) fun _ s6 zq=>?_));obtain⟨σ6,H6,I6,kp6,q6⟩:=zq;refine A0a (bot (cN (bt _ s6 σ6 H6 _ I6 q6) fun ok s7 zq=>?_));obtain⟨H7,I7,q7⟩:=zq;have again:∀{H8:Hp}{s8:Shared}{zs:List V}{m':Nat},Inv Y ([]++qd fp s5.heap) σ6 H8 s8->m'<n->W (i+1) m' zs H8->∃m,m<n/\∃i ys H',Inv Y [] 0x77 H' s8/\tn i s8.heap/\0x85/\W i m ys H':=fun{H8 s8 zs m'}I8 hm w8=>by
    refine⟨m',hm,i+1,zs,H8,(I8.lU).weak ?_ kp6,T.keep _ _ _ Jy fun b hb' o e=>(I8.pin (b,o) (A0H _ (A0H _ (iw hb' e)))).1,fun b hb'=>?_,w8⟩
    ·rw[I8.len,I3.len]
    ·obtain⟨o,e,d⟩:=T.obj _ _ Jy b hb';exact(I8.pin (b,o) (A0H _ (A0H _ (iw hb' e)))).2.1
   cases ok with
   | false=>
    rw[A0f 0x6]at q7;obtain⟨m',hm,w8⟩:=hN _ _ q7;exact A0d ⟨rfl,again I7 hm w8⟩
   | true=>
    rw[A0i rfl]at q7;refine A0a (A0a (bot (cN (be _ s7 σ6 H7 _ I7 q7) fun u8 s8 zq=>?_)));obtain⟨y8,H8,I8,r8,hD8,hz,n8⟩:=zq;obtain⟨m',hm,w8⟩:=hN _ _ n8;refine A0a (bot (cN (cX _ s8 σ6 H8 0x34 [y8] _ [u8] (fun _ H9=>H9=upd H8 s2.heap.objs.size (.lst (ys++[y8]))) I8 rfl (.cons r8 .nil) ⟨_,ys,y8,rfl,rfl,hD8,hz,rfl⟩) fun _ s9 zq=>?_));obtain⟨_,H9,I9,_,e9⟩:=zq;subst e9;exact A0d (A0d ⟨rfl,again I9 hm w8⟩)
 exact codeAny_compStart_list loop (T.self _ 0 _ _ _ st1 loop)
def gj(hc:X.calm=true)(S:cM X.N X.env.scope scope ts fr ix)(hi:PI X tg iter wi)
  (hb:∀s H fp C,PG 0x22 tg g/\Yb 0x22 ifs tt/\PE 0x22 elt te)
  (hs:∀x,foldedSetIterable iter X.env x=pure x:=by intro _;rfl):PE X 0x3D (Er ts.length ix wi g tt te):=by
 intro pins s σ H Q I h;rw[eval_ListComp];refine vA (use:=none) (Qv:=EP X pins σ Q) hc S hi hb hs I h fun D C H' s' I' f' n' q'=>?_;obtain⟨m,hm⟩:=n';refine⟨m,hm,fun h' sb=>⟨.ref D,H',?_,rfl,q'⟩⟩;exact I'.turned (t':=s'.toks) (fun b o hb' e=>(sb.2 b hb').trans e) f'.1 f'.2.1 f'.2.2.2.1 f'.2.2.2.2.1 f'.2.2.2.2.2
def je{pos2:Pos}(hc:X.calm=true)(S:cM X.N X.env.scope scope ts fr ix)(hi:PI X tg iter wi)
  (hb:∀s H fp C,PG 0x22 tg g/\Yb 0x22 ifs tt/\PE 0x22 elt te)
  (hN:X.N.Nodup)(hix:X.N[i]?=some x)(hx:Loc X.env.scope x)
  (hw:swapsWith 0x3D (some (.Name x pos')) pos2.line X.env=pure true:=by rfl)
  (hf:X.fn x=true\/X.env.scope.names.lookup x=some .local:=by first|exact .inl rfl|exact .inr rfl|assumption)
  (hs:∀x,foldedSetIterable iter X.env x=pure x:=by intro _;rfl):
  PS X (.Assign [.Name x pos'] 0x3D pos2) (fun D σ H=>Er ts.length ix wi g tt te σ H fun v H'=>D.nx (σ.set i 0x8B) H'):=by
 intro pins s σ H D I h;rw[exec_Assign_Name_used _ _ _ _ hw];refine A0a (A1Y (A0a ?_))
 show wpAny _ X.A (do let _<-comprehension 0x3D scope X.env _ (newList []) false (eval iter X.env) (some (assign (.Name x pos') X.env))) _ _ s
 refine A0a (A1j (vA (use:=some (assign (.Name x pos') X.env)) (Qv:=fun _ s'=>SP X pins D .next s') hc S hi hb hs I h fun D' C H' s' I' f' n' q'=>?_) (fun _ s' hq=>A0d (A0d hq)) fun _ _ e=>e);obtain⟨m,hm⟩:=n';refine wpAny_assign_Name (uU I' hN hix hx (v:=.ref D') rfl (fun s'' I'' ⟨a,sb,ha⟩=>?_) hf);have hCa:C≠a:=by
  rcases ha with rfl|ha
  ·exact f'.2.1
  ·exact fun z=>f'.2.2.2.2.1 _ _ ha z.symm
 refine⟨m,hm.sameBut sb hCa,fun h' sb'=>⟨_,H',?_,q'⟩⟩;exact I''.turned (t':=s''.toks) (fun b o hb' e=>(sb'.2 b hb').trans e) f'.1 f'.2.1 f'.2.2.2.1 f'.2.2.2.2.1 f'.2.2.2.2.2
end
abbrev z6(D:Addr)(σ:St)(k:Nat)(ix:List Nat)(g:TG)(tt:TT)(te:TE)(x:V)(ys:List V)(H:Hp)(N:List V->Hp->Prop):Prop:=
 g x 0x89 H fun σ2 H4=>Kp 0x89 σ2/\tt σ2 H4 fun b H5=>if b=true then te σ2 H5 fun y H6=>H6 D=some 0x57/\ys.length<sizeLine/\N (ys++[y]) (upd H6 D (.lst (ys++[y])))else N ys H5
def xq{item:Nat->V}{k:Nat}{Q:VK}(Pv:Nat->List V->Hp->Prop)
  (hJ:∀i ys H,Pv i ys H->(i<n->J.go i H/\∀x H',J.Az i H x H'->H'=H/\x=item i)/\(n<=i->J.stop i H))(h0:Pv 0 [] (upd H1 D 0x6D))(hD:∀i ys H,Pv i ys H->H D=some 0x57)
  (hs:∀i ys H,i<n->Pv i ys H->z6 D σ k ix g tt te (item i) ys H (Pv (i+1)))(hd:∀ys H,Pv n ys H->Q 0x86 H):nY J D σ k ix g tt te Q H1:=by
 refine⟨fun i m ys H=>m=n-i/\i<=n/\Pv i ys H,⟨n,by simp,A1i _,h0⟩,?_⟩;rintro i m ys H ⟨rfl,hi,p⟩;refine⟨hD i ys H p,?_⟩;obtain⟨h1,h2⟩:=hJ i ys H p
 by_cases hlt:i<n
 ·obtain⟨hg,hy⟩:=h1 hlt;refine .inr ⟨hg,Pv (i+1),fun zs H' p'=>⟨n-(i+1),by lia,rfl,hlt,p'⟩,fun x H' y=>?_⟩;obtain⟨rfl,rfl⟩:=hy x H' y;exact hs i ys H' hlt p
 ·have e:i=n:=by lia
  subst e;exact .inl ⟨h2 0x2F,hd ys H p⟩
def sV{lo:Int}{k:Nat}{Q:VK}(Pv:Nat->List V->Hp->Prop)(h0:Pv 0 [] (upd H1 D 0x6D))(hD:∀i ys H,Pv i ys H->H D=some 0x57)
  (hs:∀i ys H,i<n->Pv i ys H->z6 D σ k ix g tt te (.int (lo+i)) ys H (Pv (i+1)))(hd:∀ys H,Pv n ys H->Q 0x86 H):nY (V0 lo n) D σ k ix g tt te Q H1:=
 xq (item:=fun i=>.int (lo+i)) Pv (fun i ys H _=>⟨fun h=>⟨h,fun x H' y=>y⟩,fun h=>h⟩) h0 hD hs hd
def HF{k:Nat}{Q:VK}(Pv:Nat->List V->Hp->Prop)(hl:∀i ys H,Pv i ys H->bF K H a xs)(h0:Pv 0 [] (upd H1 D 0x6D))(hD:∀i ys H,Pv i ys H->H D=some 0x57)
  (hs:∀i ys H x,xs[i]?=some x->Pv i ys H->z6 D σ k ix g tt te x ys H (Pv (i+1)))(hd:∀ys H,Pv xs.length ys H->Q 0x86 H):nY (UW K a) D σ k ix g tt te Q H1:=
 xq (n:=xs.length) (item:=fun i=>xs.getD i .non) Pv (fun i ys H p=>⟨fun h=>⟨⟨xs,xs[i],hl i ys H p,by simp[h]⟩,fun x H' y=>⟨y.1,by
  have:=y.2 xs (hl i ys H p);rw[qN,this];rfl⟩⟩,fun h=>⟨xs,hl i ys H p,h⟩⟩) h0 hD (fun i ys H h p=>hs i ys H _ (by rw[qN,jo h];rfl) p) hd
abbrev lK(l:List Nat):Str:=⟨l.toArray⟩
def lX(x:Str):lK x.cps.toList=x:=by cases x;simp[lK]
def jf(l:List Nat):(lK l).length=l.length:=by simp[lK,Str.length]
def rF{y:Str}(h:x.cps.toList=y.cps.toList):x=y:=by
 rw[<-lX x,<-lX y,h]
def rA{α:Type}(xs:List α)(lo hi:Option Int):List α:=(xs.drop (HT.fY xs.length 0 lo)).take 0x7E
def sW(lo hi:Option Int)(n:Nat):Builtin.Str.strSliceIndices lo hi 1 n=(List.range (HT.fY n n hi-HT.fY n 0 lo)).map (HT.fY n 0 lo+·):=by
 rw[<-sliceRange_one];unfold Builtin.Str.strSliceIndices;simp only[show(1:Int)>0 by decide,A3f]
 congr 1
 ·cases lo with
  |none=>simp[HT.fY]
  |some i=>simp only[HT.fY];by_cases h:i<0<;>simp only[h,A3f,A3b]<;>lia
 ·cases hi with
  |none=>simp[HT.fY]
  |some i=>simp only[HT.fY];by_cases h:i<0<;>simp only[h,A3f,A3b]<;>lia
def Bu(x:Str)(lo hi:Option Int):Txt.slice x lo hi=lK (rA x.cps.toList lo hi):=by
 have e:(Builtin.Str.strSliceIndices lo hi 1 x.length).filterMap (x.cps[·]?)=rA x.cps.toList lo hi:=by
  rw[sW,pick_run];unfold rA;simp only[Str.length,A0U]
 unfold Txt.slice
 split
 ·rename_i h
  have hl:(Builtin.Str.strSliceIndices lo hi 1 x.length).length=x.length:=by simpa using h
  have h1:rA x.cps.toList lo hi=x.cps.toList:=by
   rw[sW,bY,A3J]at hl;have hn:x.length=x.cps.toList.length:=by simp[Str.length]
   rw[hn]at hl;have b1:=HT.JL x.cps.toList.length x.cps.toList.length 0x2F hi;unfold rA
   by_cases h0:HT.fY x.cps.toList.length 0 lo=0
   ·rw[h0,List.drop_zero,A3K 0x1]
   ·have:x.cps.toList.length=0:=by lia
    have h2:x.cps.toList=[]:=List.length_eq_zero_iff.mp this;rw[h2];simp
  rw[h1,lX]
 ·rw[e]
inductive Z5(x:V)(lo hi:Option Int)(H:Hp)(Q:VK):Prop
 |mk(z:Str)(_:x=.str z)(_:z.length<=sizeLine)(_:Q (.str (lK (rA z.cps.toList lo hi))) H):Z5 x lo hi H Q
def K6:SlR X Z5:=by
 intro pins s σ H x v vl vu lo hi sl Q I rx hs pl pu h;obtain⟨z,rfl,hzl,q⟩:=h;obtain⟨t,rfl⟩:=rx;obtain⟨l,rfl,el⟩:∃l:Option (Int×Tok),vl=partValue l/\l.map (·.1)=lo:=by
  cases pl with
  |none=>exact⟨none,rfl,rfl⟩
  |int i t=>exact⟨some (i,t),rfl,rfl⟩
 obtain⟨u,rfl,eu⟩:∃l:Option (Int×Tok),vu=partValue l/\l.map (·.1)=hi:=by
  cases pu with
  |none=>exact⟨none,rfl,rfl⟩
  |int i t=>exact⟨some (i,t),rfl,rfl⟩
 subst el eu;refine⟨"str",_,F.slot_str_getitem.lookup,typeIs_str s z t,wpAny_getItem_str_slice (l:=l) (u:=u) (st:=none) hs rfl ?_⟩;have e:=Bu z (l.map (·.1)) (u.map (·.1));unfold Txt.slice at e;unfold sliceMade;have hp:slicePicked z l u none=Builtin.Str.strSliceIndices (l.map (·.1)) (u.map (·.1)) 1 z.length:=rfl;rw[hp];have h1:(((none:Option (Int×Tok)).map (·.1)).getD 1==1&&(Builtin.Str.strSliceIndices (l.map (·.1)) (u.map (·.1)) 1 z.length).length==z.length)=((1:Int)==1&&(Builtin.Str.strSliceIndices (l.map (·.1)) (u.map (·.1)) 1 z.length).length==z.length):=rfl;rw[h1]
 by_cases hc:((1:Int)==1&&(Builtin.Str.strSliceIndices (l.map (·.1)) (u.map (·.1)) 1 z.length).length==z.length)=true
 ·rw[A0i hc]at e ⊢;exact⟨.str z,H,I,⟨t,rfl⟩,by rw[<-e]at q;exact q⟩
 ·rw[A0f hc]at e ⊢;rw[<-e]at q;refine⟨?_,⟨.str _,H,I.tok _,⟨_,rfl⟩,q⟩⟩;have hle:=Txt.slice_le z (l.map (·.1)) (u.map (·.1));unfold Txt.slice at hle;rw[A0f hc]at hle;exact A0L hle hzl
theorem vB:∀{ts:List Str}{us:List Value},Vals (ts.map V.str) us->∃l:List (Str×Tok),us=strValues l/\l.map (·.1)=ts
 | [],_,r=>by
  rw[A4b]at r;cases r;exact⟨[],rfl,rfl⟩
 | t::ts,_,r=>by
  rw[A0r]at r;cases r with
  | cons r1 r2=>
   obtain⟨k,rfl⟩:=r1;obtain⟨l,rfl,e⟩:=vB r2;exact⟨(t,k)::l,rfl,by rw[A0r,e]⟩
inductive rJoin(K:W.Frag)(x:V)(vs:List V)(H:Hp)(Q:VK):Prop
 |mk(sep:Str)(l:Addr)(ts:List Str)(_:x=.str sep)(_:vs=[.ref l])(_:bF K H l (ts.map V.str))(_:JoinOk sep ts=true)(_:Q (.str (Txt.join sep ts)) H):rJoin K x vs H Q
def Q7:MtR X "str.join" (rJoin X.K):=by
 intro pins s σ H x vs v us Q I rx rv h;obtain⟨sep,l,ts,rfl,rfl,hq,ok,q⟩:=h;obtain⟨t,rfl⟩:=rx;obtain⟨u,rfl,ru⟩:=rv.one;cases ru;obtain⟨its,r,p,hz⟩:=I.list hq;obtain⟨l',rfl,el⟩:=vB r;exact SC.join p.isList el ok fun t' k=>⟨.str _,H,I.tok _,⟨_,rfl⟩,q⟩
def Bv(hc:X.calm=true)(hin:X.A.in1.handled=none):gw X (.builtin "all") (fun xs H Q=>∃(p:Addr)(bs:List Bool),xs=[.ref p]/\bF X.K H p (bs.map V.bl)/\Q (.bl (bs.all id)) H):=by
 intro pins s σ H xs us Q I r h;obtain⟨p,bs,rfl,hq,q⟩:=h;obtain⟨u,rfl,ru⟩:=vals1 r;cases ru;obtain⟨its,rv,pl,hz⟩:=I.list hq;have hlen:=rv.length;rw[bY]at hlen;have hne:p≠s.heap.objs.size:=by
  obtain⟨o,n,e,_⟩:=pl;exact A0I (A0q e)
 refine call_all_walk (A2X pl.isList ?_);refine⟨s.heap.objs.size,_,_,its.toArray.size,_,_,fun i=>bs.getD i true,rfl,Walks.list hin s.heap.objs.size p hne its.toArray,⟨⟨_,A0m _ rfl,rfl,rfl⟩,?_⟩,?_,?_⟩
 ·obtain⟨o,n,e,c,d,dd⟩:=pl;exact⟨o,A0b _ e,c,n,dd⟩
 ·intro i v s' Q' E' hv hQ';have hv':its[i]?=some v:=by simpa using hv
  have hi:i<its.length:=(A0p.mp hv').1;have hb:(bs.map V.bl)[i]?=some (V.bl (bs.getD i true)):=by
   rw[lJ,jo 0x1,qN,jo 0x1];rfl
  obtain⟨u,hu,ru⟩:=rv.get hb;rw[hv']at hu;cases hu;cases ru;exact A1P hQ'
 ·intro h' tk kk;have e:(List.range its.toArray.size).all (fun i=>bs.getD i true)=bs.all id:=by
   rw[A0v,<-hlen,A2g,A1w,A1w]
   constructor
   ·intro z b hb;obtain⟨i,hi,rfl⟩:=List.mem_iff_getElem.mp hb;have:=z i (A4e.mpr hi);rw[qN,jo hi]at this;exact this
   ·intro z i hi;have hi':=A4e.mp hi;rw[qN,jo hi'];exact z _ (A1Z hi')
  rw[e];have I1:Inv X pins σ H {s with heap:=s.heap.push {cls:=.type "list_iterator",data:=.fields #[.ref p,.int 0 0]}}:=I.kept (t':=s.toks) fun b o e=>A0b _ e;obtain⟨f0,f1,f2,f3,f4,f5⟩:=I.wL 0x2F 0x47;exact⟨.bl (bs.all id),H,I1.turned (fun b o hb e=>kk b o (by simpa using hb) e) f0 f1 f3 f4 f5,rfl,q⟩
def z7:gw X (.builtin "isinstance") (fun xs H Q=>∃x T t b,xs=[x,.ty T]/\oO X.K H x t/\PySem.W.kitOne X.K t (.type T)=some b/\Q (.bl b) H):=by
 intro pins s σ H xs us Q I r h;obtain⟨x,T,t,b,rfl,ty,e,q⟩:=h;obtain⟨u,u',rfl,ru,Z6⟩:=vals2 r;cases Z6;exact Hi I ru ty e fun tk=>⟨.bl b,H,I.tok _,rfl,q⟩
def z9(h:X.K=K:=by rfl):Y9 X (V9 K):=h▸ aM
inductive Te(K:W.Frag)(xs:List V)(H:Hp)(Q:VK):Prop
 |mk(p:Addr)(ys:List V)(_:xs=[.ref p])(_:(bF K H p ys\/bI K H p ys))(_:Q (.int ys.length) H):Te K xs H Q
def mV(h:X.K=K:=by rfl):gw X (.builtin "len") (Te K):=h▸ fun pins s σ H xs us Q I r ⟨p,ys,a,b,c⟩=>dh pins s σ H xs us Q I r ⟨p,ys,a,b,c⟩
inductive Z7(K:W.Frag)(xs:List V)(H:Hp)(Q:VK):Prop
 |mk(x:V)(T:String)(t:Value)(b:Bool)(_:xs=[x,.ty T])(_:oO K H x t)(_:PySem.W.kitOne K t (.type T)=some b)(_:Q (.bl b) H):Z7 K xs H Q
def cF(h:X.K=K:=by rfl):gw X (.builtin "isinstance") (Z7 K):=h▸ fun pins s σ H xs us Q I r ⟨p,ys,t,d,a,b,c,e⟩=>z7 pins s σ H xs us Q I r ⟨p,ys,t,d,a,b,c,e⟩
inductive Z8(K:W.Frag)(xs:List V)(H:Hp)(Q:VK):Prop
 |mk(p:Addr)(bs:List Bool)(_:xs=[.ref p])(_:bF K H p (bs.map V.bl))(_:Q (.bl (bs.all id)) H):Z8 K xs H Q
def jR(hc:X.calm=true)(hin:X.A.in1.handled=none)(h:X.K=K:=by rfl):gw X (.builtin "all") (Z8 K):=h▸ fun pins s σ H xs us Q I r ⟨p,ys,a,b,c⟩=>Bv hc hin pins s σ H xs us Q I r ⟨p,ys,a,b,c⟩
def cj:bootBuiltins "isinstance"=some (.builtin "isinstance"):=by decide+kernel
def sX:bootBuiltins "all"=some (.builtin "all"):=by decide+kernel
def xr:bootBuiltins "abs"=some (.builtin "abs"):=by decide+kernel
def K7:bootBuiltins "max"=some (.builtin "max"):=by decide+kernel
def fB:bootBuiltins "sorted"=some (.builtin "sorted"):=by decide+kernel
def xu:bootBuiltins "bool"=some (.type "bool"):=by decide+kernel
def Bw:bootBuiltins "int"=some (.type "int"):=by decide+kernel
def K8:bootBuiltins "str"=some (.type "str"):=by decide+kernel
def kI:bootBuiltins "list"=some (.type "list"):=by decide+kernel
def za:bootBuiltins "tuple"=some (.type "tuple"):=by decide+kernel
def K9:bootBuiltins "zip"=some (.type "zip"):=by decide+kernel
def Ve{t:Addr}{its:Array Value}{x:Value}(hit:s.heap.IsTupleIter it t i)(ht:s.heap.IsTuple t its)(hx:its[i]?=some x)
  (hQ:∀h',h'.IsTupleIter it t (i+1)->Heap.SameBut it s.heap h'->Q x {s with heap:=h'}):wpAny 0xB A 0x8A Q E s:=by
 obtain⟨o,ho,hc,hd⟩:=id hit;obtain⟨ot,hot,_,nt,hdt⟩:=ht;unfold Builtin.SmallTypes.nextOf;refine A0a (A0Z (name:=Str.ofString "__next__") hit.typeIs A2a (A0X A2a hit.typeIs A4c ?_ (A3Y _)))
 show wpAny _ _ (field 0x4E 0>>=_) _ _ s;refine A0a (A1q ho hd (x:=.ref t) rfl ?_)
 show wpAny _ _ (if(Value.ref t==Value.none)=true then _ else _) _ _ s;rw[A0f (show ¬((Value.ref t==Value.none)=true)from fun z=>A0n z)]
 show wpAny _ _ (field 0x4E 1>>=_) _ _ s;refine A0a (A1q ho hd (x:=.int i 0) rfl ?_)
 show wpAny _ _ (seqItems? 0x72>>=_) _ _ s;refine A0a (A2b hot hdt ?_);simp only[A1Q,hx]
 refine A0a (A2c ho hd 0x8 (A0d ⟨x,rfl,A0d (hQ _ ⟨_,A1L _ ho (Obj.isFreed_of_fields (Obj.data_mapFields hd _)),(Obj.cls_mapFields ..).trans hc,by rw[Obj.data_mapFields hd];simp[rawInt]⟩ (A1G ..))⟩))
def Bx{t:Addr}{its:Array Value}(hh:A.handled=none)(hit:s.heap.IsTupleIter it t i)(ht:s.heap.IsTuple t its)(hx:its[i]?=none)
  (hE:∀h' e,Heap.ExtBut it s.heap h'->(∃o,h'.get? e=some o/\o.cls=.type "StopIteration")->E (.ref e) {s with heap:=h'}):wpAny 0xB A 0x8A Q E s:=by
 obtain⟨o,ho,hc,hd⟩:=id hit;obtain⟨ot,hot,_,nt,hdt⟩:=ht;unfold Builtin.SmallTypes.nextOf;refine A0a (A0Z (name:=Str.ofString "__next__") hit.typeIs A2a (A0X A2a hit.typeIs A4c ?_ (A3Y _)))
 show wpAny _ _ (field 0x4E 0>>=_) _ _ s;refine A0a (A1q ho hd (x:=.ref t) rfl ?_)
 show wpAny _ _ (if(Value.ref t==Value.none)=true then _ else _) _ _ s;rw[A0f (show ¬((Value.ref t==Value.none)=true)from fun z=>A0n z)]
 show wpAny _ _ (field 0x4E 1>>=_) _ _ s;refine A0a (A1q ho hd (x:=.int i 0) rfl ?_)
 show wpAny _ _ (seqItems? 0x72>>=_) _ _ s;refine A0a (A2b hot hdt ?_);simp only[A1Q,hx]
 refine A0a (A3r (A0a (A2c ho hd 0x8 ?_)));show wpAny _ _ (newExc (.type "StopIteration") []>>=_) _ _ _
 refine A0a ?_;simp only[newExc,newTuple];refine A0a (A1g ?_ (by size_fits));refine A0a (m:=firstArgMember _ _) (wpAny_of_eq (a:=Value.none) (by first|rfl|(simp only[firstArgMember];rfl)) ?_);refine A1g ?_ (by size_fits)
 simp only[raiseNew];refine A0a (wpAny_handled ?_);first|rw[show A.in1.handled=none from hh]|rw[hh]
 refine A0a (A0d (wpAny_throw (hE _ _ (((A1G ..).extBut.push _).push _) ⟨_,A0m _ rfl,rfl⟩)))
structure vC(P:Program)(w:World)(K:PySem.W.Frag)(it:Addr)(go stop:Nat->Hp->Prop)(Az:Nat->Hp->V->Prop)(tn:Nat->Heap->Prop):Prop where
 obj:∀i h,tn i h->∃o,h.get? it=some o/\∀v,o.data≠.cell v
 keep:∀i h h',tn i h->(∀o,h.get? it=some o->h'.get? it=some o)->tn i h'
 item:∀(X:Cx)(pins:List 0x1E)(σ:St)(H:Hp)(s₀:Shared)(i:Nat)(fp:List Addr),X.prog=P->X.w=w->X.K=K->Inv X pins σ H s₀->(∀b∈fp,jQ X pins H b)->go i H->
  ∃ U:Heap->Prop,U s₀.heap/\(∀h h',U h->(∀b o,b∉fp->h.get? b=some o->h'.get? b=some o)->U h')/\∃x,Az i H x/\
   ∀ (A:Around)(s:Shared)(Q:Value->Shared->Prop)(E:Value->Shared->Prop),U s.heap->tn i s.heap->(∀u h' tk,RelV x u->tn (i+1) h'->Heap.SameBut it s.heap h'->Q u {s with heap:=h',toks:=tk})->
    wpAny (model P w) A 0x8A Q E s
 done:∀(X:Cx)(pins:List 0x1E)(σ:St)(H:Hp)(s₀:Shared)(i:Nat)(fp:List Addr),X.prog=P->X.w=w->X.K=K->Inv X pins σ H s₀->(∀b∈fp,jQ X pins H b)->stop i H->
  ∃ U:Heap->Prop,U s₀.heap/\(∀h h',U h->(∀b o,b∉fp->h.get? b=some o->h'.get? b=some o)->U h')/\
   ∀ (A:Around)(s:Shared)(Q:Value->Shared->Prop)(E:Value->Shared->Prop),A.handled=none->U s.heap->tn i s.heap->(∀h' e,Heap.ExtBut it s.heap h'->(∃o,h'.get? e=some o/\o.cls=.type "StopIteration")->E (.ref e) {s with heap:=h'})->
    wpAny (model P w) A 0x8A Q E s
def sY(I:Inv X pins σ H s)(hf:∀b∈fp,jQ X pins H b){o:Obj}(e:X.base.get? a=some o):a∉fp:=fun hb=>by
 rcases(hf a hb).2.2.2.1 with z|z
 ·exact I.ok.Bf a o e z
 ·exact absurd (A0o (A0q (I.ok.bs a o e).1) z) (A1h _)
def vD(I:Inv X pins σ H s)(hf:∀b∈fp,jQ X pins H b)(h:bI X.K H a xs):a∉fp:=by
 rcases h with(h|⟨o,h⟩)|⟨o,its,n,hk,_⟩
 ·exact fun hb=>by rw[(hf a hb).1]at h;cases h
 ·exact fun hb=>by rw[(hf a hb).1]at h;cases h
 ·exact sY I hf (I.ok.mod.kin a o hk)
def vG(I:Inv X pins σ H s)(hf:∀b∈fp,jQ X pins H b)(h:bF X.K H a xs):a∉fp:=by
 rcases h with(h|⟨o,h⟩)|⟨o,its,n,hk,_⟩
 ·exact fun hb=>by rw[(hf a hb).1]at h;cases h
 ·exact fun hb=>by rw[(hf a hb).1]at h;cases h
 ·exact sY I hf (I.ok.mod.kin a o hk)
def Es(a it:Addr):vC P w K it (fun i H=>∃xs x,bI K H a xs/\xs[i]?=some x) (fun i H=>∃xs,bI K H a xs/\xs.length<=i) (fun i H x=>∀xs,bI K H a xs->xs[i]?=some x) (fun i h=>h.IsTupleIter it a i) where
 obj:=fun i h ⟨o,e,c,d⟩=>⟨o,e,fun v z=>by rw[d]at z;cases z⟩
 keep:=fun i h h' ⟨o,e,r⟩ k=>⟨o,k o e,r⟩
 item:=fun X pins σ H s₀ i fp hP hw hK I hf ⟨xs,x,hq,hx⟩=>by
  subst hP hw hK;obtain⟨its,rv,p,_⟩:=I.tuple hq;have na:=vD I hf hq;obtain⟨u,hu,ru⟩:=rv.get hx;refine⟨fun h=>h.IsTuple a its.toArray,p,fun h h' ⟨o,e,r⟩ k=>⟨o,k a o na e,r⟩,x,fun ys hy=>by rw[I.GQ hy hq];exact hx,fun A s Q E hU st hQ=>?_⟩;exact Ve st hU (x:=u) (by simpa using hu) fun h' st' sb=>hQ u h' s.toks ru st' sb
 done:=fun X pins σ H s₀ i fp hP hw hK I hf ⟨xs,hq,hx⟩=>by
  subst hP hw hK;obtain⟨its,rv,p,_⟩:=I.tuple hq;have na:=vD I hf hq;have hl:=rv.length;exact⟨fun h=>h.IsTuple a its.toArray,p,fun h h' ⟨o,e,r⟩ k=>⟨o,k a o na e,r⟩,fun A s Q E hh hU st hE=>Bx hh st hU (by simp;lia) hE⟩
def Et(a it:Addr):vC P w K it (fun i H=>∃xs x,bF K H a xs/\xs[i]?=some x) (fun i H=>∃xs,bF K H a xs/\xs.length<=i) (fun i H x=>∀xs,bF K H a xs->xs[i]?=some x) (fun i h=>h.IsListIter it a i) where
 obj:=fun i h ⟨o,e,c,d⟩=>⟨o,e,fun v z=>by rw[d]at z;cases z⟩
 keep:=fun i h h' ⟨o,e,r⟩ k=>⟨o,k o e,r⟩
 item:=fun X pins σ H s₀ i fp hP hw hK I hf ⟨xs,x,hq,hx⟩=>by
  subst hP hw hK;obtain⟨its,rv,p,_⟩:=I.list hq;have na:=vG I hf hq;obtain⟨u,hu,ru⟩:=rv.get hx;refine⟨fun h=>h.IsList a its.toArray,p.isList,fun h h' ⟨o,e,r⟩ k=>⟨o,k a o na e,r⟩,x,fun ys hy=>by rw[I.yR hy hq];exact hx,fun A s Q E hU st hQ=>?_⟩;exact wpAny_nextOf_list_item st hU (x:=u) (by simpa using hu) fun h' st' sb=>hQ u h' s.toks ru st' sb
 done:=fun X pins σ H s₀ i fp hP hw hK I hf ⟨xs,hq,hx⟩=>by
  subst hP hw hK;obtain⟨its,rv,p,_⟩:=I.list hq;have na:=vG I hf hq;have hl:=rv.length;exact⟨fun h=>h.IsList a its.toArray,p.isList,fun h h' ⟨o,e,r⟩ k=>⟨o,k a o na e,r⟩,fun A s Q E hh hU st hE=>wpAny_nextOf_list_end hh st hU (by simp;lia) hE⟩
structure ZA(z TI TO i1 i2:Addr):Prop where
 p1:TI≠z
 p2:TO≠z
 p3:i1≠z
 p4:i2≠z
 p5:TI≠TO
 p6:TI≠i1
 p7:TI≠i2
 p8:TO≠i1
 p9:TO≠i2
 p0:i1≠i2
def Q8{z TI TO:Addr}{x:V}{a b:Value}{U1 U2 T1 T2 Q9 Z9:Heap->Prop}(D:ZA z TI TO i1 i2)
  (hz:IsZip s.heap z TI TO .none)(hTI:IsPair s.heap TI (.ref i1) (.ref i2))(hTO:IsPair s.heap TO a b)(u1:U1 s.heap)(u2:U2 s.heap)(t1:T1 s.heap)(t2:T2 s.heap)
  (k1:∀h h',U1 h->(∀b o,b∉[z,TI,TO,i1,i2]->h.get? b=some o->h'.get? b=some o)->U1 h')(k2:∀h h',U2 h->(∀b o,b∉[z,TI,TO,i1,i2]->h.get? b=some o->h'.get? b=some o)->U2 h')
  (q1:∀h h',T1 h->(∀o,h.get? i1=some o->h'.get? i1=some o)->T1 h')(q2:∀h h',T2 h->(∀o,h.get? i2=some o->h'.get? i2=some o)->T2 h')
  (q1':∀h h',Q9 h->(∀o,h.get? i1=some o->h'.get? i1=some o)->Q9 h')(q2':∀h h',Z9 h->(∀o,h.get? i2=some o->h'.get? i2=some o)->Z9 h')
  (d1:∀(A:Around)(s:Shared)(Q:Value->Shared->Prop)(E:Value->Shared->Prop),U1 s.heap->T1 s.heap->(∀u h' tk,RelV x u->Q9 h'->Heap.SameBut i1 s.heap h'->Q u {s with heap:=h',toks:=tk})->wpAny 0xB A (Builtin.SmallTypes.nextOf (.ref i1)) Q E s)
  (d2:∀(A:Around)(s:Shared)(Q:Value->Shared->Prop)(E:Value->Shared->Prop),U2 s.heap->T2 s.heap->(∀u h' tk,RelV y u->Z9 h'->Heap.SameBut i2 s.heap h'->Q u {s with heap:=h',toks:=tk})->wpAny 0xB A (Builtin.SmallTypes.nextOf (.ref i2)) Q E s)
  (hQ:∀u v h' tk,RelV x u->RelV y v->IsZip h' z TI TO (rawInt s.heap.objs.size)->IsPair h' TI (.ref i1) (.ref i2)->IsPair h' TO u v->Q9 h'->Z9 h'->IsPair h' s.heap.objs.size u v->
   (∀c o,c≠z->c≠TO->c≠i1->c≠i2->s.heap.get? c=some o->h'.get? c=some o)->Q 0x16 {s with heap:=h',toks:=tk}):
  wpAny 0xB A (Builtin.«zip.__next__» ⟨[.ref z],[]⟩) (fun fin s'=>∃v,fin=.done (.ret v)/\Q v s') E s:=by
 have mz:∀{c:Addr},c∉[z,TI,TO,i1,i2]->c≠z/\c≠TO/\c≠i1/\c≠i2:=fun{c}h=>by simp at h;exact⟨h.1,h.2.2.1,h.2.2.2.1,h.2.2.2.2⟩
 show wpAny _ _ (field (.ref z) 2>>=_) _ _ _;refine A0a (A1q hz rfl (x:=.bool false) rfl ?_)
 show wpAny _ _ (field (.ref z) 3>>=_) _ _ _;refine A0a (A1q hz rfl (x:=.ref TI) rfl (A0a (A2b hTI rfl ?_)))
 show wpAny _ _ (Builtin.SmallTypes.ownedTupleIsFree (.ref z)>>=_) _ _ _;refine A0a ?_;unfold Builtin.SmallTypes.ownedTupleIsFree
 refine A0a (A1q hz rfl (x:=.none) rfl 0x6B);simp only[A3f];refine A0a (A3r (A0a (A1q hz rfl (x:=.ref TO) rfl (A0a (A2d hz 0x8 fun g1 hz1 hs1=>?_)))))
 replace hz1:IsZip g1 z TI TO .ellipsis:=hz1
 refine A0a ?_;simp only[List.zipIdx_cons,List.zipIdx_nil,A4S,List.forIn_nil];refine A0a (A0a (A4J ?_));show wpAny _ _ (Builtin.SmallTypes.nextOf (.ref i1)>>=_) _ _ _
 refine A0a (d1 _ _ _ _ (k1 _ _ u1 fun c o hc e=>hs1.extBut _ _ (mz hc).1 e) (q1 _ _ t1 fun o e=>hs1.extBut _ _ D.p3 e) fun u g2 tk2 ru t1b hs2=>A0d ?_);have Ka:IsPair g2 TO a b:=hs2.extBut _ _ D.p8 (hs1.extBut _ _ D.p2 hTO);refine A0a (A2b Ka rfl (A0a (A3W Ka fun g3 Qa hs3=>?_)))
 replace Qa:IsPair g3 TO u b:=Qa
 refine A0a (wpAny_letGo (A0d (A0a (A0a (A4J ?_)))));show wpAny _ _ (Builtin.SmallTypes.nextOf (.ref i2)>>=_) _ _ _
 refine A0a (d2 _ _ _ _ (k2 _ _ u2 fun c o hc e=>hs3.extBut _ _ (mz hc).2.1 (hs2.extBut _ _ (mz hc).2.2.1 (hs1.extBut _ _ (mz hc).1 e))) (q2 _ _ t2 fun o e=>hs3.extBut _ _ D.p9.symm (hs2.extBut _ _ D.p0.symm (hs1.extBut _ _ D.p4 e))) fun v g4 tk4 rv t2b Tf=>A0d ?_);have Za:IsPair g4 TO u b:=Tf.extBut _ _ D.p9 Qa;refine A0a (A2b Za rfl (A0a (A3W Za fun g5 Qc Pk=>?_)))
 replace Qc:IsPair g5 TO u v:=Qc
 refine A0a (wpAny_letGo (A0d (A0d (A0a (A2b Qc rfl (A0a (wpAny_newTuple ?_)))))));have sz:g5.objs.size=s.heap.objs.size:=by rw[Pk.1,Tf.1,hs3.1,hs2.1,hs1.1]
 have Zb:∀c o,c≠z->c≠TO->c≠i1->c≠i2->s.heap.get? c=some o->g5.get? c=some o:=fun c o c1 c2 c3 c4 e=>Pk.extBut _ _ c2 (Tf.extBut _ _ c4 (hs3.extBut _ _ c2 (hs2.extBut _ _ c3 (hs1.extBut _ _ c1 e))));have hz5:IsZip g5 z TI TO .ellipsis:=Pk.extBut _ _ D.p2.symm (Tf.extBut _ _ D.p4.symm (hs3.extBut _ _ D.p2.symm (hs2.extBut _ _ D.p3.symm hz1)));have t15:Q9 g5:=q1' _ _ t1b fun o e=>Pk.extBut _ _ D.p8.symm (Tf.extBut _ _ D.p0 (hs3.extBut _ _ D.p8.symm e));have t25:Z9 g5:=q2' _ _ t2b fun o e=>Pk.extBut _ _ D.p9.symm e;have zlt:z<g5.objs.size:=A0q hz5
 show wpAny _ _ (Builtin.SmallTypes.ownedTupleHandOut (.ref z) (.ref g5.objs.size)>>=_) _ _ _;refine A0a ?_;unfold Builtin.SmallTypes.ownedTupleHandOut
 have hz6:IsZip (g5.push {cls:=.type "tuple",data:=.seq #[u,v]}) z TI TO .ellipsis:=A0b _ hz5;refine A0a (A2d hz6 0x8 fun g7 hz7 hs7=>?_)
 replace hz7:IsZip g7 z TI TO (rawInt g5.objs.size):=hz7
 refine A2d hz7 0x8 fun g8 hz8 hs8=>?_
 replace hz8:IsZip g8 z TI TO (rawInt g5.objs.size):=hz8
 have Zc:∀c o,c≠z->g5.get? c=some o->g8.get? c=some o:=fun c o c1 e=>hs8.extBut _ _ c1 (hs7.extBut _ _ c1 (A0b _ e));have hT8:IsPair g8 g5.objs.size u v:=hs8.extBut _ _ (A2L zlt) (hs7.extBut _ _ (A2L zlt) (A0m _ rfl));rw[sz]at hz8 hT8;refine A0d ⟨_,rfl,?_⟩
 show Q (.ref g5.objs.size) _;rw[sz]
 exact hQ u v g8 _ ru rv hz8 (Zc _ _ D.p1 (Zb _ _ D.p1 D.p5 D.p6 D.p7 hTI)) (Zc _ _ D.p2 Qc) (q1' _ _ t15 fun o e=>Zc _ o D.p3 e) (q2' _ _ t25 fun o e=>Zc _ o D.p4 e) hT8 fun c o c1 c2 c3 c4 e=>Zc c o c1 (Zb c o c1 c2 c3 c4 e)
def zc{z TI TO:Addr}{x:V}{a b:Value}{U1 U2 T1 T2 Q9:Heap->Prop}{Q:Fin->Shared->Prop}(hh:A.handled=none)(D:ZA z TI TO i1 i2)
  (hz:IsZip s.heap z TI TO .none)(hTI:IsPair s.heap TI (.ref i1) (.ref i2))(hTO:IsPair s.heap TO a b)(u1:U1 s.heap)(t1:T1 s.heap)
  (k1:∀h h',U1 h->(∀b o,b∉[z,TI,TO,i1,i2]->h.get? b=some o->h'.get? b=some o)->U1 h')
  (q1:∀h h',T1 h->(∀o,h.get? i1=some o->h'.get? i1=some o)->T1 h')
  (hd:(∀(A:Around)(s:Shared)(Q:Value->Shared->Prop)(E:Value->Shared->Prop),A.handled=none->U1 s.heap->T1 s.heap->(∀h' e,Heap.ExtBut i1 s.heap h'->(∃o,h'.get? e=some o/\o.cls=.type "StopIteration")->E (.ref e) {s with heap:=h'})->wpAny 0xB A (Builtin.SmallTypes.nextOf (.ref i1)) Q E s)\/
   ((∀(A:Around)(s:Shared)(Q:Value->Shared->Prop)(E:Value->Shared->Prop),U1 s.heap->T1 s.heap->(∀u h' tk,RelV x u->Q9 h'->Heap.SameBut i1 s.heap h'->Q u {s with heap:=h',toks:=tk})->wpAny 0xB A (Builtin.SmallTypes.nextOf (.ref i1)) Q E s)/\
    U2 s.heap/\T2 s.heap/\(∀h h',U2 h->(∀b o,b∉[z,TI,TO,i1,i2]->h.get? b=some o->h'.get? b=some o)->U2 h')/\(∀h h',T2 h->(∀o,h.get? i2=some o->h'.get? i2=some o)->T2 h')/\
    ∀(A:Around)(s:Shared)(Q:Value->Shared->Prop)(E:Value->Shared->Prop),A.handled=none->U2 s.heap->T2 s.heap->(∀h' e,Heap.ExtBut i2 s.heap h'->(∃o,h'.get? e=some o/\o.cls=.type "StopIteration")->E (.ref e) {s with heap:=h'})->wpAny 0xB A (Builtin.SmallTypes.nextOf (.ref i2)) Q E s))
  (hE:∀h' tk e,(∀c o,c≠z->c≠TO->c≠i1->c≠i2->s.heap.get? c=some o->h'.get? c=some o)->(∃o,h'.get? e=some o/\o.cls=.type "StopIteration")->E (.ref e) {s with heap:=h',toks:=tk}):
  wpAny 0xB A (Builtin.«zip.__next__» ⟨[.ref z],[]⟩) Q E s:=by
 have mz:∀{c:Addr},c∉[z,TI,TO,i1,i2]->c≠z/\c≠TO/\c≠i1/\c≠i2:=fun{c}h=>by simp at h;exact⟨h.1,h.2.2.1,h.2.2.2.1,h.2.2.2.2⟩
 show wpAny _ _ (field (.ref z) 2>>=_) _ _ _;refine A0a (A1q hz rfl (x:=.bool false) rfl ?_)
 show wpAny _ _ (field (.ref z) 3>>=_) _ _ _;refine A0a (A1q hz rfl (x:=.ref TI) rfl (A0a (A2b hTI rfl ?_)))
 show wpAny _ _ (Builtin.SmallTypes.ownedTupleIsFree (.ref z)>>=_) _ _ _;refine A0a ?_;unfold Builtin.SmallTypes.ownedTupleIsFree
 refine A0a (A1q hz rfl (x:=.none) rfl 0x6B);simp only[A3f];refine A0a (A3r (A0a (A1q hz rfl (x:=.ref TO) rfl (A0a (A2d hz 0x8 fun g1 hz1 hs1=>?_)))))
 replace hz1:IsZip g1 z TI TO .ellipsis:=hz1
 refine A0a ?_;simp only[List.zipIdx_cons,List.zipIdx_nil,A4S,List.forIn_nil];refine A0a (A0a (A4J ?_));show wpAny _ _ (Builtin.SmallTypes.nextOf (.ref i1)>>=_) _ _ _
 rcases hd with e1|⟨d1,u2,t2,k2,q2,e2⟩
 ·refine A0a (e1 _ _ _ _ hh (k1 _ _ u1 fun c o hc e=>hs1.extBut _ _ (mz hc).1 e) (q1 _ _ t1 fun o e=>hs1.extBut _ _ D.p3 e) fun g2 e hs2 he=>?_);obtain⟨oe,hoe,hce⟩:=he;have hz2:IsZip g2 z TI TO .ellipsis:=hs2 _ _ D.p3.symm hz1;have nez:e≠z:=fun q=>by subst q;rw[hz2]at hoe;cases hoe;simp at hce
  exact A2d hz2 0x8 fun g3 _ hs3=>hE g3 _ e (fun c o c1 _ c3 _ q=>hs3.extBut _ _ c1 (hs2 _ _ c3 (hs1.extBut _ _ c1 q))) ⟨oe,hs3.extBut _ _ nez hoe,hce⟩
 ·refine A0a (d1 _ _ _ _ (k1 _ _ u1 fun c o hc e=>hs1.extBut _ _ (mz hc).1 e) (q1 _ _ t1 fun o e=>hs1.extBut _ _ D.p3 e) fun u g2 tk2 ru t1b hs2=>A0d ?_);have Ka:IsPair g2 TO a b:=hs2.extBut _ _ D.p8 (hs1.extBut _ _ D.p2 hTO);refine A0a (A2b Ka rfl (A0a (A3W Ka fun g3 Qa hs3=>?_)));refine A0a (wpAny_letGo (A0d (A0a (A0a (A4J ?_)))));show wpAny _ _ (Builtin.SmallTypes.nextOf (.ref i2)>>=_) _ _ _
  refine A0a (e2 _ _ _ _ hh (k2 _ _ u2 fun c o hc e=>hs3.extBut _ _ (mz hc).2.1 (hs2.extBut _ _ (mz hc).2.2.1 (hs1.extBut _ _ (mz hc).1 e))) (q2 _ _ t2 fun o e=>hs3.extBut _ _ D.p9.symm (hs2.extBut _ _ D.p0.symm (hs1.extBut _ _ D.p4 e))) fun g4 e Tf he=>?_);obtain⟨oe,hoe,hce⟩:=he;have hz4:IsZip g4 z TI TO .ellipsis:=Tf _ _ D.p4.symm (hs3.extBut _ _ D.p2.symm (hs2.extBut _ _ D.p3.symm hz1));have nez:e≠z:=fun q=>by subst q;rw[hz4]at hoe;cases hoe;simp at hce
  exact A2d hz4 0x8 fun g5 _ Pk=>hE g5 _ e (fun c o c1 c2 c3 c4 q=>Pk.extBut _ _ c1 (Tf _ _ c4 (hs3.extBut _ _ c2 (hs2.extBut _ _ c3 (hs1.extBut _ _ c1 q))))) ⟨oe,Pk.extBut _ _ nez hoe,hce⟩
def Inv.nfp(I:Inv X pins σ H s)(hf:∀b∈fp,jQ X pins H b){u:HO}(e:H b=some u):b∉fp:=fun hb=>by rw[(hf b hb).1]at e;cases e
def Inv.Qd(I:Inv X pins σ H s)(hf:∀b∈fp,jQ X pins H b)(k:∀b o,b∉fp->s.heap.get? b=some o->h'.get? b=some o):Inv X pins σ H {s with heap:=h',toks:=t'}:=by
 refine I.step (g':=s.gens) (d':=s.drawn) (ch:=fp) (fun b hb=>⟨(hf b hb).2.2.2.1,(hf b hb).2.1,(hf b hb).2.2.2.2.1,(hf b hb).2.2.2.2.2⟩) (fun b o _ _ hc e _=>k b o hc e) (fun b o _ _ hc e _=>⟨o.slots,k b o hc e⟩) (fun _ _ _ _ n=>n)
  (fun b o hc e=>⟨o,k b o hc e⟩) (fun _ _ e=>e) (fun _ _ _ e=>e) (fun b ps e=>⟨#[],by rw[e];simp⟩) (fun m hm=>?_) (fun b u e=>?_) I.bare
 ·obtain⟨o,es,ep,ho,r⟩:=hm;exact⟨o,es,ep,k _ o (fun z=>(hf _ z).2.1 rfl) ho,r⟩
 ·refine(I.hok b u e).stay (fun c v hc q=>k c v ?_ q) (fun _ q=>q) fun _ _ q=>q;rcases hc with z|z
  ·rw[z];exact I.nfp hf e
  ·exact I.nfp hf z
def Inv.Eu{p:Addr}(I:Inv X pins σ H s)(hf:∀b∈fp,jQ X pins H b)(k:∀b o,b∉fp->s.heap.get? b=some o->h'.get? b=some o)(hp:s.heap.objs.size<=p)(new:cI X.prog X.w (upd H p o) h' p o):
  Inv X pins σ (upd H p o) {s with heap:=h',toks:=t'}:=by
 have hn:H p=none:=I.hok.fresh hp;refine I.step (g':=s.gens) (d':=s.drawn) (ch:=fp) (fun b hb=>⟨(hf b hb).2.2.2.1,(hf b hb).2.1,(hf b hb).2.2.2.2.1,(hf b hb).2.2.2.2.2⟩) (fun b o _ _ hc e _=>k b o hc e) (fun b o _ _ hc e _=>⟨o.slots,k b o hc e⟩)
  (fun b o _ e n=>by rw[ak (A0I (A0o (A0q e) hp))];exact n)
  (fun b o hc e=>⟨o,k b o hc e⟩) (fun b xs e=>by rw[ak (aA e hn)];exact e) (fun b u xs e=>by rw[ak (aA e hn)];exact e) (fun b ps e=>⟨#[],by rw[ak (aA e hn),e];simp⟩) (fun m hm=>?_) (fun b u e=>?_) I.bare
 ·obtain⟨o,es,ep,ho,r⟩:=hm;exact⟨o,es,ep,k _ o (fun z=>(hf _ z).2.1 rfl) ho,r⟩
 ·by_cases hb:b=p
  ·subst hb;rw[ao]at e;cases e;exact new
  ·rw [ak hb]at e;refine(I.hok b u e).stay (fun c v hc q=>k c v ?_ q) (fun c q=>?_) fun c xs q=>?_
   ·rcases hc with z|z
    ·rw[z];exact I.nfp hf e
    ·exact I.nfp hf z
   ·first
     |(rw[ak (aA q hn)];exact q)
     |exact q
   ·first
     |(rw[ak (aA q hn)];exact q)
     |exact q
def Itz(g1 g2 s1 s2:Nat->Hp->Prop)(y1 y2:Nat->Hp->V->Prop):It:=
 ⟨fun i H=>g1 i H/\g2 i H,fun i H v H'=>∃p x y,v=.ref p/\H p=none/\H'=upd H p (.tup [x,y])/\y1 i H x/\y2 i H y,fun i H=>s1 i H\/(g1 i H/\s2 i H)⟩
def Kc{z TI TO:Addr}{g1 g2 s1 s2:Nat->Hp->Prop}{y1 y2:Nat->Hp->V->Prop}{t1 t2:Nat->Heap->Prop}(D:ZA z TI TO i1 i2)
  (S1:vC P w K i1 g1 s1 y1 t1)(S2:vC P w K i2 g2 s2 y2 t2):
  Turn P w K (.Tuple elts x1 tp) (Itz g1 g2 s1 s2 y1 y2) [z,TI,TO,i1,i2] z (fun i h=>IsZip h z TI TO .none/\IsPair h TI (.ref i1) (.ref i2)/\(∃a b,IsPair h TO a b)/\t1 i h/\t2 i h) where
 mem:=by simp
 obj:=fun i h ⟨hz,hTI,⟨a,b,hTO⟩,st1,st2⟩ c hc=>by
  simp only[A0c,A0j,A0V]at hc;rcases hc with rfl|rfl|rfl|rfl|rfl
  ·exact⟨_,hz,fun v e=>by cases e⟩
  ·exact⟨_,hTI,fun v e=>by cases e⟩
  ·exact⟨_,hTO,fun v e=>by cases e⟩
  ·exact S1.obj i h st1
  ·exact S2.obj i h st2
 keep:=fun i h h' ⟨hz,hTI,⟨a,b,hTO⟩,st1,st2⟩ k=>⟨k z 0x8 _ hz,k TI 0x8 _ hTI,⟨a,b,k TO 0x8 _ hTO⟩,S1.keep _ _ _ st1 fun o e=>k i1 0x8 o e,S2.keep _ _ _ st2 fun o e=>k i2 0x8 o e⟩
 item:=by
  intro X hP hw hK hc i pins s σ H E I hf ⟨hz,hTI,⟨a,b,hTO⟩,st1,st2⟩ ⟨hg1,hg2⟩;obtain⟨U1,u1,k1,x,hx,d1⟩:=S1.item X pins σ H s i [z,TI,TO,i1,i2] hP hw hK I hf hg1;obtain⟨U2,u2,k2,y,hy,d2⟩:=S2.item X pins σ H s i [z,TI,TO,i1,i2] hP hw hK I hf hg2;subst hP hw hK;have hT:s.TypeIs (.ref z) "zip":=⟨_,hz,rfl⟩;unfold pyNext;refine A0a (A2U (A0Z (name:=Str.ofString "__next__") hT A2Q (A0X A2Q hT A4L
   (Q8 (x:=x) (y:=y) D hz hTI hTO u1 u2 st1 st2 k1 k2 (S1.keep i) (S2.keep i) (S1.keep (i+1)) (S2.keep (i+1)) d1 d2 fun u v h' tk ru rv hz' hTI' hTO' st1' st2' hp kk=>A0d ⟨_,rfl,?_⟩) (A4x _))))
  refine wpAny_letOwnedTupleGo_zip hz' fun h2 hz2 sb=>?_;have lt:∀{c o},s.heap.get? c=some o->c≠s.heap.objs.size:=fun e=>A0I (A0q e);have nz:z≠s.heap.objs.size:=lt hz;have kk2:∀c o,c∉[z,TI,TO,i1,i2]->s.heap.get? c=some o->h2.get? c=some o:=fun c o hc e=>by
   simp only[A0c,A0j,A0V,A3v]at hc;exact sb.extBut _ _ hc.1 (kk c o hc.1 hc.2.2.1 hc.2.2.2.1 hc.2.2.2.2 e)
  have hp2:IsPair h2 s.heap.objs.size u v:=sb.extBut _ _ nz.symm hp;refine⟨.ref s.heap.objs.size,_,I.Eu (o:=.tup [x,y]) hf kk2 0x2F ⟨vg 0x8 |> A1O,[u,v],.cons ru (.cons rv .nil),⟨_,hp2,rfl,_,rfl⟩⟩,rfl,⟨_,x,y,rfl,I.fresh,rfl,hx,hy⟩,⟨hz2,sb.extBut _ _ D.p1 hTI',⟨_,_,sb.extBut _ _ D.p2 hTO'⟩,S1.keep _ _ _ st1' fun o e=>sb.extBut _ _ D.p3 e,S2.keep _ _ _ st2' fun o e=>sb.extBut _ _ D.p4 e⟩,fun c hc=>?_⟩;have:∃o,s.heap.get? c=some o:=by
   simp only[A0c,A0j,A0V]at hc;rcases hc with rfl|rfl|rfl|rfl|rfl
   ·exact⟨_,hz⟩
   ·exact⟨_,hTI⟩
   ·exact⟨_,hTO⟩
   ·obtain⟨o,e,_⟩:=S1.obj _ _ st1;exact⟨o,e⟩
   ·obtain⟨o,e,_⟩:=S2.obj _ _ st2;exact⟨o,e⟩
  obtain⟨o,e⟩:=this;rw[ak (lt e)];exact(hf c hc).1
 done:=by
  intro X hP hw hK hc i pins s σ H E I hf ⟨hz,hTI,⟨a,b,hTO⟩,st1,st2⟩ hs;have hT:s.TypeIs (.ref z) "zip":=⟨_,hz,rfl⟩;have fin:∀(h':Heap)(tk:Nat),(∀c o,c≠z->c≠TO->c≠i1->c≠i2->s.heap.get? c=some o->h'.get? c=some o)->Inv X pins σ H {s with heap:=h',toks:=tk}:=fun h' tk kk=>I.Qd hf fun c o hc e=>by
   simp only[A0c,A0j,A0V,A3v]at hc;exact kk c o hc.1 hc.2.2.1 hc.2.2.2.1 hc.2.2.2.2 e
  have hh:=I.ok.hd hc;rcases hs with hs1|⟨hg1,hs2⟩
  ·obtain⟨U1,u1,k1,d1⟩:=S1.done X pins σ H s i [z,TI,TO,i1,i2] hP hw hK I hf hs1;subst hP hw hK;unfold pyNext;refine A0a (A2U (A0Z (name:=Str.ofString "__next__") hT A2Q (A0X A2Q hT A4L
    (zc (x:=.non) (U2:=fun _=>True) (T2:=fun _=>True) (Q9:=fun _=>True) hh D hz hTI hTO u1 st1 k1 (S1.keep i) (.inl d1) fun h' tk e kk he=>?_) (A4x _))))
   obtain⟨o,ho,hc'⟩:=he;exact A0a (A3R (T:="StopIteration") (b:=true) ⟨o,ho,hc'⟩ isSubtype_stop (A0d ⟨rfl,fin _ _ kk⟩))
  ·obtain⟨U1,u1,k1,x,hx,d1⟩:=S1.item X pins σ H s i [z,TI,TO,i1,i2] hP hw hK I hf hg1;obtain⟨U2,u2,k2,d2⟩:=S2.done X pins σ H s i [z,TI,TO,i1,i2] hP hw hK I hf hs2;subst hP hw hK;unfold pyNext;refine A0a (A2U (A0Z (name:=Str.ofString "__next__") hT A2Q (A0X A2Q hT A4L
    (zc (x:=x) (Q9:=t1 (i+1)) hh D hz hTI hTO u1 st1 k1 (S1.keep i) (.inr ⟨d1,u2,st2,k2,S2.keep i,d2⟩) fun h' tk e kk he=>?_) (A4x _))))
   obtain⟨o,ho,hc'⟩:=he;exact A0a (A3R (T:="StopIteration") (b:=true) ⟨o,ho,hc'⟩ isSubtype_stop (A0d ⟨rfl,fin _ _ kk⟩))
 self:=fun _ _ _ _ _ st h=>wpAny_pyIter_zip st.1 h
def HJ(v1 v2:Value)(o1 o2:Obj)(U:Heap->Prop)(hU:∀h o,U h->U (h.push o))
  (h1:∀(prog:Program)(w:World)(A:Around)(Q:Value->Shared->Prop)(E:Value->Shared->Prop)(s:Shared),U s.heap->Q 0x16 {s with heap:=s.heap.push o1}->wpAny 0xB A (pyIter v1) Q E s)
  (h2:∀(prog:Program)(w:World)(A:Around)(Q:Value->Shared->Prop)(E:Value->Shared->Prop)(s:Shared),U s.heap->Q 0x16 {s with heap:=s.heap.push o2}->wpAny 0xB A (pyIter v2) Q E s):
  Meets (Builtin.«zip.__new__» ⟨[.type "zip",v1,v2],[]⟩) (fun _ R s=>U s.heap/\
   R (.ok (.ret (.ref ((((s.heap.push o1).push o2).push {cls:=.type "tuple",data:=.seq #[.ref s.heap.objs.size,.ref (s.heap.push o1).objs.size]}).push {cls:=.type "tuple",data:=.seq #[.none,.none]}).objs.size)))
    {s with heap:=((((s.heap.push o1).push o2).push {cls:=.type "tuple",data:=.seq #[.ref s.heap.objs.size,.ref (s.heap.push o1).objs.size]}).push {cls:=.type "tuple",data:=.seq #[.none,.none]}).push {cls:=.type "zip",data:=.fields #[.none,.bool false,.bool false,.ref ((s.heap.push o1).push o2).objs.size,.ref (((s.heap.push o1).push o2).push {cls:=.type "tuple",data:=.seq #[.ref s.heap.objs.size,.ref (s.heap.push o1).objs.size]}).objs.size]}}):=
 .of_wp fun prog w A R s h=>by
  obtain⟨hp,g,d,tk,os⟩:=s;obtain⟨hu,h⟩:=h;have hsub:=sub_zip;have hu2:U (hp.push o1):=hU _ _ hu
  wp_walk using h1 prog w _ _ _ ⟨hp,g,d,tk,os⟩ hu,h2 prog w _ _ _ ⟨hp.push o1,g,d,tk,os⟩ hu2
  exact⟨_,rfl,h⟩
section
def Kd{R:It->Hp->Prop}{v1 v2:Value}{o1 o2:Obj}{U:Heap->Prop}{g1 g2 s1 s2:Nat->Hp->Prop}{y1 y2:Nat->Hp->V->Prop}{t1 t2:Nat->Heap->Prop}(I:Inv X pins σ H s)
  (hu:U s.heap)(hU:∀h o,U h->U (h.push o))
  (h1:∀(prog:Program)(w:World)(A:Around)(Q:Value->Shared->Prop)(E:Value->Shared->Prop)(s:Shared),U s.heap->Q 0x16 {s with heap:=s.heap.push o1}->wpAny 0xB A (pyIter v1) Q E s)
  (h2:∀(prog:Program)(w:World)(A:Around)(Q:Value->Shared->Prop)(E:Value->Shared->Prop)(s:Shared),U s.heap->Q 0x16 {s with heap:=s.heap.push o2}->wpAny 0xB A (pyIter v2) Q E s)
  (S1:vC X.prog X.w X.K s.heap.objs.size g1 s1 y1 t1)(S2:vC X.prog X.w X.K 0x14 g2 s2 y2 t2)(b1:∀h:Heap,h.get? s.heap.objs.size=some o1->t1 0 h)(b2:∀h:Heap,h.get? 0x14=some o2->t2 0 h)(f1:o1.isFreed=false)(f2:o2.isFreed=false)
  (q:R (Itz g1 g2 s1 s2 y1 y2) H):wpAny 0xA X.A (call (.type "zip") [v1,v2]) (fun v s1=>wpAny 0xA X.A (pyIter v) (PIE X pins σ (.Tuple elts x1 tp) R) E s1) E s:=by
 refine callType_new F.called_zip 0x6 (F.typeCall_zip_2 _ _) (F.newCall_zip_2 _ _) (fun obj=>F.args_object_init_3 obj _ _) F.entry_zip_new (HJ v1 v2 o1 o2 U hU h1 h2) ⟨hu,?_⟩;generalize hG1:s.heap.push o1=G1;have z1:G1.objs.size=s.heap.objs.size+1:=by rw[<-hG1];exact A1s ..
 generalize hG2:G1.push o2=G2;have z2:G2.objs.size=s.heap.objs.size+2:=by rw[<-hG2,A1s,z1]
 rw[z1,z2];generalize hG3:G2.push {cls:=.type "tuple",data:=.seq #[.ref s.heap.objs.size,.ref 0x14]}=G3;have z3:G3.objs.size=s.heap.objs.size+3:=by rw[<-hG3,A1s,z2]
 rw[z3];generalize hG4:G3.push {cls:=.type "tuple",data:=.seq #[.none,.none]}=G4;have z4:G4.objs.size=s.heap.objs.size+4:=by rw[<-hG4,A1s,z3]
 rw[z4];generalize hG5:G4.push {cls:=.type "zip",data:=.fields #[.none,.bool false,.bool false,.ref (s.heap.objs.size+2),.ref (s.heap.objs.size+3)]}=G5;have e5:IsZip G5 (s.heap.objs.size+4) (s.heap.objs.size+2) (s.heap.objs.size+3) .none:=by rw[<-z4,<-hG5];exact A0m _ rfl
 have e4:IsPair G5 (s.heap.objs.size+3) .none .none:=by rw[<-z3,<-hG5];exact A0b _ (by rw[<-hG4];exact A0m _ rfl)
 have e3:IsPair G5 (s.heap.objs.size+2) 0x16 (.ref 0x14):=by rw[<-z2,<-hG5];exact A0b _ (by rw[<-hG4];exact A0b _ (by rw[<-hG3];exact A0m _ rfl))
 have up2:∀c o,G2.get? c=some o->G5.get? c=some o:=fun c o e=>by rw[<-hG5];exact A0b _ (by rw[<-hG4];exact A0b _ (by rw[<-hG3];exact A0b _ e))
 have e2:G5.get? 0x14=some o2:=up2 _ _ (by rw[<-z1,<-hG2];exact A0m _ f2);have e1:G5.get? s.heap.objs.size=some o1:=up2 _ _ (by rw[<-hG2];exact A0b _ (by rw[<-hG1];exact A0m _ f1));have all:∀c o,s.heap.get? c=some o->G5.get? c=some o:=fun c o e=>up2 _ _ (by rw[<-hG2];exact A0b _ (by rw[<-hG1];exact A0b _ e));refine⟨⟨_,e5,rfl⟩,wpAny_pyIter_zip e5 ?_⟩;have ne:∀{m n:Nat},m≠n->s.heap.objs.size+m≠s.heap.objs.size+n:=fun h z=>h (Nat.add_left_cancel z);refine⟨_,_,_,_,H,rfl,I.kept (t':=s.toks) all,Kc ⟨ne 0x6,ne 0x6,ne (m:=0) 0x6,ne 0x6,ne 0x6,ne (n:=0) 0x6,ne 0x6,ne (n:=0) 0x6,ne 0x6,ne (m:=0) 0x6⟩ S1 S2,⟨e5,e3,⟨_,_,e4⟩,b1 _ e1,b2 _ e2⟩,fun b hb=>?_,q⟩;have hle:s.heap.objs.size<=b:=by
  simp only[A0c,A0j,A0V]at hb;rcases hb with rfl|rfl|rfl|rfl|rfl<;>lia
 exact I.wL hle (I.hok.fresh hle)
abbrev Ew(K:PySem.W.Frag)(a b:Addr):It:=Itz (fun i H=>∃xs x,bI K H a xs/\xs[i]?=some x) (fun i H=>∃xs x,bI K H b xs/\xs[i]?=some x) (fun i H=>∃xs,bI K H a xs/\xs.length<=i) (fun i H=>∃xs,bI K H b xs/\xs.length<=i)
 (fun i H x=>∀xs,bI K H a xs->xs[i]?=some x) (fun i H x=>∀xs,bI K H b xs->xs[i]?=some x)
abbrev Ey(K:PySem.W.Frag)(a b:Addr):It:=Itz (fun i H=>∃xs x,bF K H a xs/\xs[i]?=some x) (fun i H=>∃xs x,bF K H b xs/\xs[i]?=some x) (fun i H=>∃xs,bF K H a xs/\xs.length<=i) (fun i H=>∃xs,bF K H b xs/\xs.length<=i)
 (fun i H x=>∀xs,bF K H a xs->xs[i]?=some x) (fun i H x=>∀xs,bF K H b xs->xs[i]?=some x)
inductive zf(K:W.Frag)(R:It->Hp->Prop)(vs:List V)(H1:Hp):Prop
 |mk(a b:Addr)(_:vs=[.ref a,.ref b])(_:(∃xs,bI K H1 a xs))(_:(∃xs,bI K H1 b xs))(_:R (Ew K a b) H1):zf K R vs H1
def Vf(K:PySem.W.Frag)(ta:TA):TI:=fun σ H R=>ta σ H fun vs H1=>zf K R vs H1
inductive zj(K:W.Frag)(R:It->Hp->Prop)(vs:List V)(H1:Hp):Prop
 |mk(a b:Addr)(_:vs=[.ref a,.ref b])(_:(∃xs,bF K H1 a xs))(_:(∃xs,bF K H1 b xs))(_:R (Ey K a b) H1):zj K R vs H1
def Vg(K:PySem.W.Frag)(ta:TA):TI:=fun σ H R=>ta σ H fun vs H1=>zj K R vs H1
variable{a b:Expr}{ta:TA}{p:Pos}
def Ke(hg:Gl X "zip")(hm:X.mg "zip"=none)(ha:PA X [a,b] ta)(hs:starEach [a,b] X.env=[(false,eval a X.env),(false,eval b X.env)]:=by rfl)(hs2:starEach [b] X.env=[(false,eval b X.env)]:=by rfl):
  PI X (.Tuple elts x1 tp) (.Call (.Name "zip" p) [a,b] [] pos) (Vf X.K ta):=by
 intro pins s σ H R I h;refine Call_ (q8 I hg hm K9 (A1X (cN (ha pos pins s σ H _ I h) fun us s1 ⟨vs,H1,I1,r1,q1⟩=>?_) (by rw[hs,hs2]) (by rw[hs2];rfl)));obtain⟨c,d,rfl,⟨xs,hx⟩,⟨ys,hy⟩,q⟩:=q1;obtain⟨u,u',rfl,ru,Z6⟩:=vals2 r1;cases ru;cases Z6;obtain⟨its,rv,p1,_⟩:=I1.tuple hx;obtain⟨its2,rv2,p2,_⟩:=I1.tuple hy;exact Kd (U:=fun h=>h.IsTuple c its.toArray/\h.IsTuple d its2.toArray) I1 ⟨p1,p2⟩ (fun h o ⟨⟨oc,e,r⟩,⟨od,e',r'⟩⟩=>⟨⟨oc,A0b _ e,r⟩,⟨od,A0b _ e',r'⟩⟩)
  (fun prog w A Q E s hu hQ=>wpAny_pyIter_tuple hu.1 hQ) (fun prog w A Q E s hu hQ=>wpAny_pyIter_tuple hu.2 hQ) (Es c _) (Es d _) (fun h e=>⟨_,e,rfl,rfl⟩) (fun h e=>⟨_,e,rfl,rfl⟩) rfl rfl q
def sZ(hg:Gl X "zip")(hm:X.mg "zip"=none)(ha:PA X [a,b] ta)(hs:starEach [a,b] X.env=[(false,eval a X.env),(false,eval b X.env)]:=by rfl)(hs2:starEach [b] X.env=[(false,eval b X.env)]:=by rfl):
  PI X (.Tuple elts x1 tp) (.Call (.Name "zip" p) [a,b] [] pos) (Vg X.K ta):=by
 intro pins s σ H R I h;refine Call_ (q8 I hg hm K9 (A1X (cN (ha pos pins s σ H _ I h) fun us s1 ⟨vs,H1,I1,r1,q1⟩=>?_) (by rw[hs,hs2]) (by rw[hs2];rfl)));obtain⟨c,d,rfl,⟨xs,hx⟩,⟨ys,hy⟩,q⟩:=q1;obtain⟨u,u',rfl,ru,Z6⟩:=vals2 r1;cases ru;cases Z6;obtain⟨its,rv,p1,_⟩:=I1.list hx;obtain⟨its2,rv2,p2,_⟩:=I1.list hy;exact Kd (U:=fun h=>h.IsList c its.toArray/\h.IsList d its2.toArray) I1 ⟨p1.isList,p2.isList⟩ (fun h o ⟨⟨oc,e,r⟩,⟨od,e',r'⟩⟩=>⟨⟨oc,A0b _ e,r⟩,⟨od,A0b _ e',r'⟩⟩)
  (fun prog w A Q E s hu hQ=>A2X hu.1 hQ) (fun prog w A Q E s hu hQ=>A2X hu.2 hQ) (Et c _) (Et d _) (fun h e=>⟨_,e,rfl,rfl⟩) (fun h e=>⟨_,e,rfl,rfl⟩) rfl rfl q
end
def oY{fx fy:Nat->V}{k:Nat}{Q:VK}(Pv:Nat->List V->Hp->Prop)
  (hJ:∀i ys H,Pv i ys H->(i<n->J.go i H/\∀v H',J.Az i H v H'->∃p,v=.ref p/\H p=none/\H'=upd H p (.tup [fx i,fy i]))/\(n<=i->J.stop i H))(h0:Pv 0 [] (upd H1 D 0x6D))(hD:∀i ys H,Pv i ys H->H D=some 0x57)
  (hs:∀i ys H p,i<n->Pv i ys H->H p=none->z6 D σ k ix g tt te 0x3E ys (upd H p (.tup [fx i,fy i])) (Pv (i+1)))(hd:∀ys H,Pv n ys H->Q 0x86 H):nY J D σ k ix g tt te Q H1:=by
 refine⟨fun i m ys H=>m=n-i/\i<=n/\Pv i ys H,⟨n,by simp,A1i _,h0⟩,?_⟩;rintro i m ys H ⟨rfl,hi,p⟩;refine⟨hD i ys H p,?_⟩;obtain⟨h1,h2⟩:=hJ i ys H p
 by_cases hlt:i<n
 ·obtain⟨hg,hy⟩:=h1 hlt;refine .inr ⟨hg,Pv (i+1),fun zs H' p'=>⟨n-(i+1),by lia,rfl,hlt,p'⟩,fun x H' y=>?_⟩;obtain⟨q,rfl,hq,rfl⟩:=hy x H' y;exact hs i ys H q hlt p hq
 ·have e:i=n:=by lia
  subst e;exact .inl ⟨h2 0x2F,hd ys H p⟩
def zm(ha:bI K H a xs)(hb:bI K H b ys)(hl:xs.length=ys.length):
  (i<xs.length->(Ew K a b).go i H/\∀v H',(Ew K a b).Az i H v H'->∃p,v=.ref p/\H p=none/\H'=upd H p (.tup [xs.getD i .non,ys.getD i .non]))/\(xs.length<=i->(Ew K a b).stop i H):=by
 refine⟨fun hi=>⟨⟨⟨xs,xs[i],ha,by simp[hi]⟩,⟨ys,ys[i]' 0x1,hb,by simp[hl▸ hi]⟩⟩,fun v H' ⟨p,x,y,e1,e2,e3,e4,e5⟩=>⟨p,e1,e2,?_⟩⟩,fun hi=>.inl ⟨xs,ha,hi⟩⟩;rw[e3,qN,qN,e4 xs ha,e5 ys hb];rfl
def lY(ha:bF K H a xs)(hb:bF K H b ys)(hl:xs.length=ys.length):
  (i<xs.length->(Ey K a b).go i H/\∀v H',(Ey K a b).Az i H v H'->∃p,v=.ref p/\H p=none/\H'=upd H p (.tup [xs.getD i .non,ys.getD i .non]))/\(xs.length<=i->(Ey K a b).stop i H):=by
 refine⟨fun hi=>⟨⟨⟨xs,xs[i],ha,by simp[hi]⟩,⟨ys,ys[i]' 0x1,hb,by simp[hl▸ hi]⟩⟩,fun v H' ⟨p,x,y,e1,e2,e3,e4,e5⟩=>⟨p,e1,e2,?_⟩⟩,fun hi=>.inl ⟨xs,ha,hi⟩⟩;rw[e3,qN,qN,e4 xs ha,e5 ys hb];rfl
def rG{es:List Expr}{k:Nat}{t:Pz}(hc:X.calm=true)(h:Y7 X es t)(hK:X.K=K:=by rfl)
  (hn:(0x65).length=n:=by rfl)(hst:(0x65).findIdx? (·.1)=none:=by rfl):PG X (.Tuple es k pos) (UJ K n t):=hK▸ qb hc h hn hst
def lZ:Nat:=2^9000
def Ez(h:n<lZ):n.log2<9000:=by
 by_cases h0:n=0
 ·subst h0;decide
 ·exact(Nat.log2_lt h0).mpr h
def zp{i:Int}(h:i.natAbs<lZ):Builtin.Int.intBits i<=2^20:=by
 have e:(2:Nat)^20=1048576:=by decide
 have:=Ez h;unfold Builtin.Int.intBits
 split<;>lia
def oZ:mQ X (binaryOp .FloorDiv) (rI (fun _ j=>j≠0/\j.natAbs<lZ) fun i j=>.int (i.fdiv j)):=Y8 fun _ _ _ _ _ _ _ hc q=>floordiv_int hc.1 q (.inl (PyProof.noPylong_of_log2 (Ez hc.2)))
def jg:mQ X (binaryOp .Mult) (rI (fun i j=>i.natAbs<lZ/\j.natAbs<lZ) fun i j=>.int (i*j)):=Y8 fun _ _ _ _ _ _ _ hc q=>mul_int q (IntMulOk.of_bits (zp hc.1) (zp hc.2))
def pq(n:Nat)(l:List Nat):List Nat:=(List.replicate n l).flatten
theorem zu(l:Array Nat):∀(n:Nat)(acc:Array Nat),((List.replicate n l).foldl (·++·) acc).toList=acc.toList++pq n l.toList
 |0,acc=>by simp[pq]
 | n+1,acc=>by
  rw[A1n,A1f,zu l n];simp[pq,A1n]
def Qe(n:Nat)(l:List Nat):(pq n l).length=n*l.length:=by
 unfold pq
 induction n with
 |zero=>simp
 |succ n ih=>rw[A1n,A2i,lG,ih,Nat.succ_mul];lia
def BJ:mQ X (binaryOp .Mult) (fun x y H Q=>∃z n,x=.str z/\y=.int n/\0<=n/\n<=1000/\z.length<=1000/\Q (.str (lK (pq n.toNat z.cps.toList))) H):=by
 intro pins s σ H x y v u Q I rx ry h;obtain⟨z,n,rfl,rfl,h0,h1,hz,q⟩:=h;obtain⟨t,rfl⟩:=rx;obtain⟨t',rfl⟩:=ry;have hl:z.length*n.toNat<=1000000:=A0L (Nat.mul_le_mul hz (show n.toNat<=1000 by lia)) 0x6
 have hsl:z.length*n.toNat<=sizeLine:=A0L hl 0x6;refine PySem.P.mul_str (by rw[A0K 0x1,A0K 0x1];rfl) (fun hn _=>?_) (fun _ _=>by unfold Builtin.Str.tooLong;simp;lia) ?_
 ·have:(1000:Int)<=(2^63-1)/n:=Int.le_ediv_of_mul_le 0x1 0x1;lia
 ·by_cases hn:n<1
  ·rw[A0i hn];have e:n.toNat=0:=by lia
   refine⟨by decide,.str _,H,I.tok _,⟨_,rfl⟩,?_⟩;have e2:lK (pq n.toNat z.cps.toList)=Str.empty:=by rw[e];rfl
   rw[<-e2];exact q
  ·rw [A0f hn]
   by_cases hc:(n==1||z.length==0)=true
   ·rw [A0i hc];refine⟨.str z,H,I,⟨t,rfl⟩,?_⟩;have e2:lK (pq n.toNat z.cps.toList)=z:=by
     rcases Bool.or_eq_true_iff.mp hc with e|e
     ·have e':n=1:=by simpa using e
      subst e';simp[pq,lX]
     ·have e':z.cps.toList=[]:=by
       have:z.length=0:=by simpa using e
       simp only[Str.length]at this
       simpa using this
      have:∀k,pq k ([]:List Nat)=[]:=fun k=>by simp[pq]
      rw[e',this,<-e',lX]
    rw[<-e2];exact q
   ·rw [A0f hc];have e2:(⟨(List.replicate n.toNat z.cps).foldl (·++·) #[]⟩:Str)=lK (pq n.toNat z.cps.toList):=rF (by
     show((List.replicate n.toNat z.cps).foldl (·++·) #[]).toList=_
     rw[zu];simp)
    rw[e2];refine⟨?_,.str _,H,I.tok _,⟨_,rfl⟩,q⟩;rw[jf,Qe];have:z.cps.toList.length=z.length:=by simp[Str.length]
    rw[this,Nat.mul_comm];exact hsl
mutual
inductive dM(H:Hp):V->PyData->Prop
 |non:dM H .non .none
 |bl (b:_):dM H (.bl b) (.bool b)
 |int (i:_):dM H (.int i) (.int i)
 |str (x:_):dM H (.str x) (.str x)
 |lst {p xs ds:_}:H p=some 0x53->dW H xs ds->dM H 0x3E (.list ds)
 |tup {p xs ds:_}:H p=some 0x52->dW H xs ds->dM H 0x3E (.tuple ds)
inductive dW(H:Hp):List V->List PyData->Prop
 |nil:dW H [] []
 |cons {v vs d ds:_}:dM H v d->dW H vs ds->dW H (v::vs) (d::ds)
end
mutual
theorem dM.same{H H':Hp}(s:Same H H'):∀{v:V}{d:PyData},dM H v d->dM H' v d
 |_,_,.non=>.non
 |_,_,.bl b=>.bl b
 |_,_,.int i=>.int i
 |_,_,.str x=>.str x
 |_,_,.lst h r=>.lst (s _ _ h) (dW.same s r)
 |_,_,.tup h r=>.tup (s _ _ h) (dW.same s r)
theorem dW.same{H H':Hp}(s:Same H H'):∀{vs:List V}{ds:List PyData},dW H vs ds->dW H' vs ds
 |_,_,.nil=>.nil
 |_,_,.cons h r=>.cons (dM.same s h) (dW.same s r)
end
mutual
theorem dM.reads(I:Inv X pins σ H s):∀{v:V}{d:PyData}{u:Value},dM H v d->RelV v u->∃as,Reads s.heap u d as
 |_,_,_,.non,r=>by cases r;exact⟨_,.none⟩
 |_,_,_,.bl b,r=>by cases r;exact⟨_,.bool b⟩
 |_,_,_,.int i,r=>by obtain⟨t,rfl⟩:=r;exact⟨_,.int i t⟩
 |_,_,_,.str x,r=>by obtain⟨t,rfl⟩:=r;exact⟨_,.str x t⟩
 | _,_,_,.lst h q,r=>by
  cases r;obtain⟨_,its,n,rv,e⟩:=(I.hok _ _ h);obtain⟨as,ra⟩:=dW.reads I q rv;exact⟨_,.list e rfl rfl (by simpa using ra)⟩
 | _,_,_,.tup h q,r=>by
  cases r;obtain⟨_,its,rv,o,e,c,n,dd⟩:=(I.hok _ _ h);obtain⟨as,ra⟩:=dW.reads I q rv;exact⟨_,.tuple e c dd (by simpa using ra)⟩
theorem dW.reads(I:Inv X pins σ H s):∀{vs:List V}{ds:List PyData}{us:List Value},dW H vs ds->Vals vs us->∃as,ReadsAll s.heap us ds as
 |_,_,_,.nil,r=>by cases r;exact⟨_,.nil⟩
 | _,_,_,.cons h q,r=>by
  cases r with
  | cons r1 r2=>
   obtain⟨as,ra⟩:=dM.reads I h r1;obtain⟨bs,rb⟩:=dW.reads I q r2;exact⟨_,.cons ra rb⟩
end
inductive Zd(x y:V)(H:Hp)(Q:VK):Prop
 |mk(dx dy:PySem.PyData)(_:dM H x dx)(_:dM H y dy)(_:dx.canLay0=true)(_:dy.canLay0=true)(_:dx.depth<=8)(_:Q (.bl (PyData.eqv dx dy)) H):Zd x y H Q
inductive Ze(x y:V)(H:Hp)(Q:VK):Prop
 |mk(dx dy:PySem.PyData)(_:dM H x dx)(_:dM H y dy)(_:dx.canLay0=true)(_:dy.canLay0=true)(_:dx.depth<=8)(_:Q (.bl (!PyData.eqv dx dy)) H):Ze x y H Q
def BK(hu:X.A.units+64<cLine):mQ X (compareOp .Eq) Zd:=by
 intro pins s σ H x y v u Q I rx ry h;obtain⟨dx,dy,h1,h2,c1,c2,dp,q⟩:=h;obtain⟨as,ra⟩:=h1.reads I rx;obtain⟨bs,rb⟩:=h2.reads I ry;exact SeqAt.compareEq_reads ra rb c1 c2 0x1 ⟨.bl _,H,I,rfl,q⟩
def Vh(hu:X.A.units+64<cLine):mQ X (compareOp .NotEq) Ze:=by
 intro pins s σ H x y v u Q I rx ry h;obtain⟨dx,dy,h1,h2,c1,c2,dp,q⟩:=h;obtain⟨as,ra⟩:=h1.reads I rx;obtain⟨bs,rb⟩:=h2.reads I ry;exact SeqAt.compareNe_reads ra rb c1 c2 0x1 ⟨.bl _,H,I,rfl,q⟩
open PySem.W PySem.Builtin.ObjectAttr PySem.Builtin.Getset_descriptor
structure XC(K:PySem.W.Frag)(D:Addr):Prop where
 ga:findIn K 0x86 "__getattribute__"=some (some (.builtin "BaseException.__getattribute__"))
 gh:findIn K 0x86 "__getattr__"=some none
 cl:(clsIn K D).isSome=true
 ca:findIn K 0x86 "__class__"=some (some 0x6A)
 gs:specialIn K 0x6A "__get__"=some (some (.builtin "getset_descriptor.__get__"))
 tk:takesIn K 0x6A=some true
 ob:mroIn K D (.type "object")=some true
 be:mroIn K D (.type "BaseException")=some true
section
variable{x:Addr}
end
structure Fly(B h0 h:Heap)(outer:List Env)(H':Hp)(ea:Addr)(C a0:Value):Prop where
 fl:Heap.FlyingW B outer ea C a0 h
 tr:∀b o,H' b=some o->∃u,B.get? b=some u
 old:∀b o,h0.get? b=some o->b∉frs outer->∃u,B.get? b=some u
section
variable{cd:Value}{E:XK}
end
section
variable{k:Nat}{qZ:List V}{ds:List Value}{E:St->XK}{m:Str}{p:Pos}{o:Expr}{es:List Expr}{t:TA}
end
section
variable{Jl:List 0x1E}{xe:Value->Shared->Prop}{ea:Addr}
end
section
variable{κ:Type}[DecidableEq κ]
def bH(kvs:List (κ×V))(k:κ):Option V:=(kvs.find? fun kv=>decide (kv.1=k)).map (·.2)
def putK(kvs:List (κ×V))(k:κ)(v:V):List (κ×V):=
 if(kvs.any fun kv=>decide (kv.1=k))=true then kvs.map (fun kv=>if kv.1=k then(kv.1,v)else kv)else kvs++[(k,v)]
def iQ(kvs:List (κ×V))(k:κ):List (κ×V):=kvs.filter fun kv=>decide (kv.1≠k)
def fD{p:κ×V}{r:List (κ×V)}{k:κ}(e:p.1=k):bH (p::r) k=some p.2:=by simp[bH,A1U,e]
def dX{p:κ×V}{r:List (κ×V)}{k:κ}(e:¬p.1=k):bH (p::r) k=bH r k:=by simp[bH,A1U,e]
theorem jT(k:κ):∀kvs:List (κ×V),(kvs.any fun kv=>decide (kv.1=k))=(bH kvs k).isSome
 |[]=>rfl
 | p::r=>by
  rw[A2T]
  by_cases e:p.1=k
  ·simp only[fD e,A0t e,Bool.true_or,Option.isSome_some]
  ·rw[dX e,A0K e,Bool.false_or];exact jT k r
theorem zx(k j:κ)(y:V):∀kvs:List (κ×V),bH (kvs.map fun kv=>if kv.1=k then(kv.1,y)else kv) j=(bH kvs j).map fun x=>if j=k then y else x
 |[]=>rfl
 | p::r=>by
  have ih:=zx k j y r;rw[A0r]
  by_cases h:p.1=k
  ·rw[A0i h]
   by_cases e:p.1=j
   ·rw[fD (p:=(p.1,y)) e,fD e,A3Z,A0i (e.symm.trans h)]
   ·rw[dX (p:=(p.1,y)) e,dX e,ih]
  ·rw[A0f h]
   by_cases e:p.1=j
   ·rw[fD (p:=p) e,fD e,A3Z,A0f (fun z=>h (e.trans z))]
   ·rw[dX (p:=p) e,dX e,ih]
theorem vH(k j:κ)(y:V):∀kvs:List (κ×V),bH kvs k=none->bH (kvs++[(k,y)]) j=if j=k then some y else bH kvs j
 | [],_=>by
  by_cases e:k=j
  ·rw[A0i e.symm];exact fD (p:=(k,y)) e
  ·rw[A0f (fun z=>e z.symm)];exact dX (p:=(k,y)) e
 | p::r,hn=>by
  rw[List.cons_append];have hk:¬p.1=k:=fun z=>by rw[fD z]at hn;cases hn
  rw[dX hk]at hn;have ih:=vH k j y r hn
  by_cases e:p.1=j
  ·rw[fD e,fD e,A0f (fun z=>hk (e.trans z))]
  ·rw[dX e,dX e,ih]
def bD(kvs:List (κ×V))(k j:κ)(y:V):bH (putK kvs k y) j=if j=k then some y else bH kvs j:=by
 unfold putK
 by_cases a:(kvs.any fun kv=>decide (kv.1=k))=true
 ·rw [A0i a,zx];rw[jT]at a
  by_cases e:j=k
  ·obtain⟨x,hx⟩:=A2p.mp a;rw[A0i e,e,hx,A3Z,A0i rfl]
  ·rw[A0f e];cases bH kvs j with
   |none=>rfl
   |some x=>rw[A3Z,A0f e]
 ·rw[A0f a];refine vH k j y kvs ?_;rw[jT]at a;cases q:bH kvs k with
  |none=>rfl
  |some x=>rw[q]at a;exact(a rfl).elim
def dG(kvs:List (κ×V))(k:κ)(v:V):(putK kvs k v).length<=kvs.length+1:=by
 unfold putK
 split
 ·rw[bY];lia
 ·rw[lG,rT,A3p];lia
def Kf{kvs:List (κ×V)}{k:κ}(v:V)(h:bH kvs k=none):putK kvs k v=kvs++[(k,v)]:=by
 unfold putK;rw[jT,h];exact A0f 0x6
def j8.iy{o:Option V}{u:Option Value}(r:j8 o u):o.isSome=u.isSome:=by
 cases o with
 | none=>cases u with
  |none=>rfl
  |some _=>exact(show False from r).elim
 | some _=>cases u with
  |none=>exact(show False from r).elim
  |some _=>rfl
def j8.getD{o:Option V}{u:Option Value}{d:V}{d':Value}(r:j8 o u)(rd:RelV d d'):RelV (o.getD d) (u.getD d'):=by
 cases o with
 | none=>cases u with
  |none=>exact rd
  |some _=>exact(show False from r).elim
 | some _=>cases u with
  |none=>exact(show False from r).elim
  |some _=>exact r
def KV.val{kvs:List (κ×V)}{vs:List (κ×Value)}(r:KV kvs vs)(k:κ):j8 (bH kvs k) (valueAt vs k):=by
 unfold KV at r
 induction r with
 |nil=>exact True.intro
 | @cons p q ps qs h t ih=>
  obtain⟨h1,h2⟩:=h
  by_cases e:p.1=k
  ·have e':q.1=k:=h1.symm.trans e;have b:valueAt (q::qs) k=some q.2:=by simp[valueAt,A1U,e']
   rw[fD e,b];exact h2
  ·have e':¬q.1=k:=fun z=>e (h1.trans z);have b:valueAt (q::qs) k=valueAt qs k:=by simp[valueAt,A1U,e']
   rw[dX e,b];exact ih
def KV.any{kvs:List (κ×V)}{vs:List (κ×Value)}(r:KV kvs vs)(k:κ):(kvs.any fun kv=>decide (kv.1=k))=vs.any fun kv=>decide (kv.1=k):=by
 unfold KV at r
 induction r with
 |nil=>rfl
 |cons h t ih=>rw[A2T,A2T,ih,h.1]
def KV.repl{kvs:List (κ×V)}{vs:List (κ×Value)}(r:KV kvs vs)(k:κ)(ry:RelV y u):
  KV (kvs.map fun kv=>if kv.1=k then(kv.1,y)else kv) (vs.map fun kv=>if kv.1=k then(kv.1,u)else kv):=by
 unfold KV at r ⊢
 induction r with
 |nil=>exact .nil
 | @cons p q ps qs h t ih=>
  rw[A0r,A0r];refine .cons ?_ ih;obtain⟨h1,h2⟩:=h
  by_cases e:p.1=k
  ·rw[A0i e,A0i (h1.symm.trans e)];exact⟨h1,ry⟩
  ·rw[A0f e,A0f (fun z=>e (h1.trans z))];exact⟨h1,h2⟩
def KV.put{kvs:List (κ×V)}{vs:List (κ×Value)}(r:KV kvs vs)(k:κ)(ry:RelV y u):KV (putK kvs k y) (stored vs k u):=by
 unfold putK stored;rw[r.any k]
 by_cases e:(vs.any fun kv=>decide (kv.1=k))=true
 ·rw[A0i e,A0i e];exact r.repl k ry
 ·rw[A0f e,A0f e];exact Paired.snoc r ⟨rfl,ry⟩
def KV.drop{kvs:List (κ×V)}{vs:List (κ×Value)}(r:KV kvs vs)(k:κ):KV (iQ kvs k) (without vs k):=by
 unfold KV at r ⊢;unfold iQ without
 induction r with
 |nil=>exact .nil
 | @cons p q ps qs h t ih=>
  obtain⟨h1,h2⟩:=h;rw[List.filter_cons,List.filter_cons]
  by_cases e:p.1=k
  ·have a:¬decide (p.1≠k)=true:=by simp[e]
   have b:¬decide (q.1≠k)=true:=by simp[h1.symm.trans e]
   rw[A0f a,A0f b];exact ih
  ·have e':¬q.1=k:=fun z=>e (h1.trans z);have a:decide (p.1≠k)=true:=by simp[e]
   have b:decide (q.1≠k)=true:=by simp[e']
   rw[A0i a,A0i b];exact .cons ⟨h1,h2⟩ ih
def KV.length{kvs:List (κ×V)}{vs:List (κ×Value)}(r:KV kvs vs):kvs.length=vs.length:=A3S r
def zy(kvs:List (κ×V))(k:κ):(iQ kvs k).length<=kvs.length:=A0s _ _
end
def pA{k:Key}(r:RelV (kV k) u):(bQ P w).is k u=true:=by
 cases k with
 |inl i=>obtain⟨t,e⟩:=(show ∃t,u=Value.int i t from r);subst e;exact yM P w i t
 |inr x=>obtain⟨t,e⟩:=(show ∃t,u=Value.str x t from r);subst e;exact yN P w x t
theorem vI:∀{ks:List Key}{us:List Value},Vals (ks.map kV) us->ItemsAre (bQ P w) ks us
 |[],_,r=>by rw[A4b]at r;cases r;exact .nil
 | k::ks,_,r=>by
  rw[A0r]at r;cases r with
  |cons h t=>exact .cons (pA h) (vI t)
abbrev KT(H:Hp):List (List Key×V)->List 0x8F->Prop:=Paired fun p q=>p.1=q.1/\H q.2.1=some (.tup (p.1.map kV))/\RelV p.2 q.2.2
def KT.val{kvs:List (List Key×V)}{xs:List 0x8F}(r:KT H kvs xs)(k:List Key):j8 (bH kvs k) ((atKey xs k).map (·.2)):=by
 induction r with
 |nil=>exact True.intro
 | @cons p q ps qs h t ih=>
  obtain⟨h1,_,h2⟩:=h
  by_cases e:p.1=k
  ·have e':q.1=k:=h1.symm.trans e;have b:atKey (q::qs) k=some q.2:=by simp[atKey,A1U,e']
   rw[fD e,b];exact h2
  ·have e':¬q.1=k:=fun z=>e (h1.trans z);have b:atKey (q::qs) k=atKey qs k:=by simp[atKey,A1U,e']
   rw[dX e,b];exact ih
def KT.repl{kvs:List (List Key×V)}{xs:List 0x8F}(r:KT H kvs xs)(k:List Key)(ry:RelV y u):
  KT H (kvs.map fun kv=>if kv.1=k then(kv.1,y)else kv) (xs.map (putAt k u)):=by
 induction r with
 |nil=>exact .nil
 | @cons p q ps qs h t ih=>
  rw[A0r,A0r];refine .cons ?_ ih;obtain⟨h1,h2,h3⟩:=h;unfold putAt
  by_cases e:p.1=k
  ·rw[A0i e,A0i (h1.symm.trans e)];exact⟨h1,h2,ry⟩
  ·rw[A0f e,A0f (fun z=>e (h1.trans z))];exact⟨h1,h2,h3⟩
def KT.put{kvs:List (List Key×V)}{xs:List 0x8F}(r:KT H kvs xs)(k:List Key)(hb:H b=some (.tup (k.map kV)))(ry:RelV y u):
  KT H (putK kvs k y) (storedH xs k b u):=by
 have e:(kvs.any fun kv=>decide (kv.1=k))=(atKey xs k).isSome:=by
  rw[jT,(r.val k).iy,A4y]
 unfold putK storedH;rw[e]
 by_cases q:(atKey xs k).isSome=true
 ·rw[A0i q,A0i q];exact r.repl k ry
 ·rw[A0f q,A0f q];exact Paired.snoc r ⟨rfl,hb,ry⟩
def KT.keeps{kvs:List (List Key×V)}{xs:List 0x8F}(r:KT H kvs xs)(ht:∀b ys,H b=some (.tup ys)->H' b=some (.tup ys)):KT H' kvs xs:=
 Paired.Uv r fun _ _ z=>⟨z.1,ht _ _ z.2.1,z.2.2⟩
def Tg{u:HO}(ok:nP P w H h)(e:Rd H a u):cI P w H h a u:=e.ok ok
def tu(ok:nP P w H h)(e:Rd H a 0x18):kvs.length<=sizeLine/\0x7D=false/\∃vs,KV kvs vs/\h.DictOf (bQ P w) a vs:=
 show cI P w H h a 0x18 from Tg ok e
def nQ(ok:nP P w H h)(e:H a=some 0x18):kvs.length<=sizeLine/\0x7D=false/\∃vs,KV kvs vs/\h.DictOf (bQ P w) a vs:=tu ok (.inl e)
def qt{ks:List Key}(ok:nP P w H h)(e:H a=some (.tup (ks.map kV))):(tupleKind (bQ P w)).is h ks a:=by
 obtain⟨_,its,r,o,h1,h2,n,h3⟩:=(show cI P w H h a (.tup (ks.map kV))from ok a _ e)
 exact⟨o,its.toArray,n,h1,h2,h3,by simpa using vI r⟩
def tD{kvs:List (List Key×V)}(ok:nP P w H h)(e:Rd H a (.dT kvs)):kvs.length<=sizeLine/\0x7D=false/\
  ∃xs,KT H kvs xs/\h.DictOfH (tupleKind (bQ P w)) a xs:=by
 obtain⟨z,y,xs,r,o,es,ep,h1,h2,h3,h4,h5⟩:=(show cI P w H h a (.dT kvs)from Tg ok e)
 refine⟨z,y,xs,r,o,es,ep,h1,h2,h3,h4,fun x hx=>?_,h5⟩;have all:∀{l:List (List Key×V)}{m:List 0x8F},KT H l m->∀x∈m,(tupleKind (bQ P w)).is h x.1 x.2.1:=by
  intro l m q
  induction q with
  |nil=>intro x hx;exact nomatch hx
  | @cons p q ps qs hq t ih=>
   intro x hx;rcases A0c.mp hx with e|hx
   ·subst e;exact qt ok (by rw[<-hq.1];exact hq.2.1)
   ·exact ih x hx
 exact all r x hx
def Zf{kvs:List (List Key×V)}(ok:nP P w H h)(e:H a=some (.dT kvs)):kvs.length<=sizeLine/\0x7D=false/\
  ∃xs,KT H kvs xs/\h.DictOfH (tupleKind (bQ P w)) a xs:=tD ok (.inl e)
def fP(H:Hp)(a:Addr)(y:V)(r:Option V):Prop:=
 (∃kvs k,Rd H a 0x18/\y=kV k/\r=bH kvs k)\/∃kvs k b,Rd H a (.dT kvs)/\y=.ref b/\H b=some (.tup (k.map kV))/\r=bH kvs k
def gY(H:Hp)(a:Addr)(y v:V)(H':Hp):Prop:=
 (∃kvs k,H a=some 0x18/\y=kV k/\kvs.length<sizeLine/\H'=upd H a (.dK (putK kvs k v)))\/
 ∃kvs k b,H a=some (.dT kvs)/\y=.ref b/\H b=some (.tup (k.map kV))/\kvs.length<sizeLine/\H'=upd H a (.dT (putK kvs k v))
def fP.k{k:Key}(e:H a=some 0x18):fP H a (kV k) (bH kvs k):=.inl ⟨kvs,k,.inl e,rfl,rfl⟩
def gY.k{k:Key}(e:H a=some 0x18)(hl:kvs.length<sizeLine):gY H a (kV k) v (upd H a (.dK (putK kvs k v))):=.inl ⟨kvs,k,e,rfl,hl,rfl⟩
section
variable{r:Value}{o:Option V}
def Inv.big(I:Inv X pins σ H s):sysModules<s.heap.objs.size:=by
 have h:mainGlobals<s.heap.objs.size:=(I.mod.glob.keeps I.bk).lt;exact Nat.lt_trans 0x6 h
def vJ(hu:A.units+1<cLine)(I:Inv X pins σ H s)(g:fP H a y 0x8B)(ry:RelV y u)(h:∀w' s',Inv X pins σ H s'->RelV v w'->Q w' s'):
  wpAny 0xA A (getItem 0x48 u) Q E s:=by
 rcases g with⟨kvs,k,e,ey,l⟩|⟨kvs,k,b,e,ey,eb,l⟩
 ·subst ey;obtain⟨z,hd,vs,rel,dd⟩:=tu I.hok e;obtain⟨w',hw,bU⟩:=j8.some_of (v:=v) (o:=valueAt vs k) (by rw[l];exact rel.val k);exact wpAny_getItem_of (pA ry) dd.mapOf hw (h w' _ (I.tok _) bU)
 ·subst ey;cases(show u=Value.ref b from ry)
  obtain⟨z,hd,xs,rel,dd⟩:=tD I.hok e;obtain⟨w',hw,bU⟩:=j8.some_of (v:=v) (o:=(atKey xs k).map (·.2)) (by rw[l];exact rel.val k);obtain⟨p,hp,hp2⟩:=A1b.mp hw;refine wpAny_getItem_heap (A2M hu) (qt I.hok eb) dd hp ?_;rw[hp2];exact h w' _ (I.tok _) bU
def d_in(hu:A.units+1<cLine)(I:Inv X pins σ H s)(g:fP H a y o)(ry:RelV y u)(h:∀s',Inv X pins σ H s'->Q (.bool o.isSome) s'):
  wpAny 0xA A (compareOp .In u 0x48) Q E s:=by
 rcases g with⟨kvs,k,e,ey,l⟩|⟨kvs,k,b,e,ey,eb,l⟩
 ·subst ey;obtain⟨z,hd,vs,rel,dd⟩:=tu I.hok e;refine wpAny_in_of (pA ry) hd dd.mapOf ?_;rw[<-(rel.val k).iy,<-l];exact h _ (I.tok _)
 ·subst ey;cases(show u=Value.ref b from ry)
  obtain⟨z,hd,xs,rel,dd⟩:=tD I.hok e;refine wpAny_in_heap (A2M hu) (qt I.hok eb) hd dd ?_;have q:=(rel.val k).iy;rw[A4y]at q;rw[<-q,<-l];exact h _ (I.tok _)
def Qf(hu:A.units+1<cLine)(I:Inv X pins σ H s)(g:fP H a y o)(ry:RelV y u)(h:∀s',Inv X pins σ H s'->Q (.bool (!o.isSome)) s'):
  wpAny 0xA A (compareOp .NotIn u 0x48) Q E s:=by
 rcases g with⟨kvs,k,e,ey,l⟩|⟨kvs,k,b,e,ey,eb,l⟩
 ·subst ey;obtain⟨z,hd,vs,rel,dd⟩:=tu I.hok e;refine wpAny_notIn_of (pA ry) hd dd.mapOf ?_;rw[<-(rel.val k).iy,<-l];exact h _ (I.tok _)
 ·subst ey;cases(show u=Value.ref b from ry)
  obtain⟨z,hd,xs,rel,dd⟩:=tD I.hok e;refine wpAny_notIn_heap (A2M hu) (qt I.hok eb) hd dd ?_;have q:=(rel.val k).iy;rw[A4y]at q;rw[<-q,<-l];exact h _ (I.tok _)
def kJ{ob:HO}(I:Inv X pins σ H s)(mu:Yp (H a))(hs:Heap.SameBut a s.heap h')(he:∃q,h'.get? a=some q)(new:cI X.prog X.w (upd H a ob) h' a ob):
  Inv X pins σ (upd H a ob) {s with heap:=h',toks:=t'}:=
 I.write (x:=a) (e:=a) mu 0x6F (fun b q hb z=>(hs.2 b hb).trans z) he new
def xG{vs:List (Key×Value)}(z:kvs.length<=sizeLine)(hd:0x7D=false)(rel:KV kvs vs)(dd:h'.DictOf (bQ P w) a vs):
  cI P w H' h' a 0x18:=⟨z,hd,vs,rel,dd⟩
def vK{Q:Unit->Shared->Prop}(hu:A.units+1<cLine)(I:Inv X pins σ H s)(g:gY H a y v H')(ry:RelV y u)(rv:RelV v r)(h:∀s',Inv X pins σ H' s'->Q () s'):
  wpAny 0xA A (setItem 0x48 u r) Q E s:=by
 rcases g with⟨kvs,k,e,ey,l,eH⟩|⟨kvs,k,b,e,ey,eb,l,eH⟩
 ·subst ey eH;obtain⟨z,hd,vs,rel,dd⟩:=nQ I.hok e;have hz:vs.length<=sizeLine:=by rw[<-rel.length];exact z
  have hl:(putK kvs k v).length<=sizeLine:=by have:=dG kvs k v;lia
  refine wpAny_setItem_pairs (hsz:=hz) (pA ry) dd fun h' yK hs=>h _ ?_;have he:∃q,h'.get? a=some q:=let⟨q,_,_,hq,_⟩:=yK;⟨q,hq⟩
  exact kJ I 0x76 hs he (xG hl hd (rel.put k rv) yK)
 ·subst ey eH;cases(show u=Value.ref b from ry)
  obtain⟨z,hd,xs,rel,dd⟩:=Zf I.hok e;have hz:xs.length<=sizeLine:=by rw[<-A3S rel];exact z
  have hl:(putK kvs k v).length<=sizeLine:=by have:=dG kvs k v;lia
  refine wpAny_setItem_heap (hsz:=hz) (A2M hu) (qt I.hok eb) dd fun h' yK hs=>h _ ?_;obtain⟨q,es,ep,hq,h2,h3,h4,_,h5⟩:=yK;refine kJ I 0x76 hs ⟨q,hq⟩ ⟨hl,hd,_,(rel.put k eb rv).keeps fun c ys ec=>?_,q,es,ep,hq,h2,h3,h4,h5⟩;rw[ak (bB ec e 0x58)]
  exact ec
end
section
variable{k:Key}
def HN{Q:Unit->Shared->Prop}(I:Inv X pins σ H s)(e:H a=some 0x18)(ry:RelV (kV k) u)(l:(bH kvs k).isSome=true)(h:∀s',Inv X pins σ (upd H a (.dK (iQ kvs k))) s'->Q () s'):
  wpAny 0xA A (delItem 0x48 u) Q E s:=by
 obtain⟨z,hd,vs,rel,dd⟩:=nQ I.hok e;refine wpAny_delItem_slot dd.typeIs 0x6 PySem.F.slot_dict_delitem
  (A3g PySem.F.slot_dict_delitem dd.typeIs PySem.F.entry_dict_delitem (PySem.F.args_dict_delitem_2 _ _) (meets_dict_delitem_pairs 0x4F a (pA ry)) ⟨vs,dd,by rw[<-rel.length];exact z,by rw[<-(rel.val k).iy];exact l,fun h' yK hs=>h _ ?_⟩)
 have he:∃q,h'.get? a=some q:=let⟨q,_,_,hq,_⟩:=yK;⟨q,hq⟩
 exact kJ I 0x76 hs he (xG (A0L (zy kvs k) z) hd (rel.drop k) yK)
def Zg{more:List Value}(I:Inv X pins σ H s)(e:H a=some 0x18)(ry:RelV (kV k) u)(l:bH kvs k=some v)(hm:more=[]\/∃x,more=[x])
  (h:∀w' s',Inv X pins σ (upd H a (.dK (iQ kvs k))) s'->RelV v w'->Q w' s'):wpAny 0xA A (call (.builtin "dict.pop") (.ref a::u::more)) Q E s:=by
 obtain⟨z,hd,vs,rel,dd⟩:=nQ I.hok e;obtain⟨w',hw,bU⟩:=j8.some_of (v:=v) (o:=valueAt vs k) (by rw[<-l];exact rel.val k);have hp:(keyPart u).isSome=true:=by
  cases k with
  |inl i=>obtain⟨t,q⟩:=(show ∃t,u=Value.int i t from ry);subst q;rfl
  |inr x=>obtain⟨t,q⟩:=(show ∃t,u=Value.str x t from ry);subst q;rfl
 have ha:argsOk "dict.pop" ⟨.ref a::u::more,[]⟩:=by
  rcases hm with q|⟨x,q⟩
  ·subst q;exact PySem.F.args_dict_pop_2 _ _
  ·subst q;exact PySem.F.args_dict_pop_3 _ _ _
 refine A3g PySem.F.slot_dict_pop dd.typeIs PySem.F.entry_dict_pop ha (meets_dict_pop_there 0x4F a (pA ry) more hm hp)
  ⟨vs,w',dd,by rw[<-rel.length];exact z,hw,fun h' yK hs=>h w' _ ?_ bU⟩
 have he:∃q,h'.get? a=some q:=let⟨q,_,_,hq,_⟩:=yK;⟨q,hq⟩
 exact kJ I 0x76 hs he (xG (A0L (zy kvs k) z) hd (rel.drop k) yK)
end
def Zh(i:Expr):Prop:=∀ov iv,subscripted i false ov iv=operate [ov,iv] (getItem ov iv)
def Qg{slice:Expr}{id:String}
  (hl:typeLookup (.type T) "__getitem__"=pure (some (.builtin id)))(hs:Zh slice)
  (h:wpAny 0xB A (eval value env) (fun o s₁=>wpAny 0xB A (eval slice env) (fun i s₂=>s₂.TypeIs o T/\wpAny 0xB A (getItem o i) Q E s₂) E s₁) E s):
  wpAny 0xB A (eval (.Subscript value slice pos) env) Q E s:=by
 refine Subscript_ (A1j h (fun o s₁ h₁=>A1j h₁ (fun i s₂ h₂=>?_) fun _ _ x=>x) fun _ _ x=>x);obtain⟨hT,h₂⟩:=h₂;unfold subscriptTail;refine A0a ?_;rw[getitemInPython_of_ne hT.not_modules];refine A0a (wpAny_specialOf hT hl ?_);have fin:wpAny 0xB A (subscripted slice false o i) (fun r s₃=>wpAny 0xB A (letTemporaryGo value o r>>=fun _=>pure r) Q E s₃) E s₂:=by
  rw[hs o i];exact wpAny_operating (A1j h₂ (fun r s₃ h₃=>A0a (wpAny_letTemporaryGo (A0d h₃))) fun _ _ x=>x)
 first
  |exact A0d (A0a fin)
  |exact A0a (A0d (A0a fin))
  |exact A0a fin
def zA{o:Option V}(I:Inv X pins σ H s)(g:fP H a y o):s.TypeIs 0x48 "dict":=by
 rcases g with⟨kvs,k,e,_,_⟩|⟨kvs,k,b,e,_,_,_⟩
 ·obtain⟨_,_,vs,_,dd⟩:=tu I.hok e;exact dd.typeIs
 ·obtain⟨_,_,xs,_,dd⟩:=tD I.hok e;exact dd.typeIs
inductive EY(Q:VK)(x y:V)(H2:Hp):Prop
 |mk(a:Addr)(v:V)(_:x=.ref a)(_:fP H2 a y 0x8B)(_:Q v H2):EY Q x y H2
def Zi(td ty:TE):TE:=fun σ H Q=>td σ H fun x H1=>ty σ H1 fun y H2=>EY Q x y H2
inductive Kg(Q:VK)(y x:V)(H2:Hp):Prop
 |mk(a:Addr)(o:Option V)(_:x=.ref a)(_:fP H2 a y o)(_:Q (.bl o.isSome) H2):Kg Q y x H2
def tDIn(ty td:TE):TE:=fun σ H Q=>ty σ H fun y H1=>td σ H1 fun x H2=>Kg Q y x H2
inductive vL(Q:VK)(y x:V)(H2:Hp):Prop
 |mk(a:Addr)(o:Option V)(_:x=.ref a)(_:fP H2 a y o)(_:Q (.bl (!o.isSome)) H2):vL Q y x H2
def Qh(ty td:TE):TE:=fun σ H Q=>ty σ H fun y H1=>td σ H1 fun x H2=>vL Q y x H2
inductive Fb(D:Ends)(σ:L2.St)(v x y:V)(H3:Hp):Prop
 |mk(a:Addr)(H4:Hp)(_:x=.ref a)(_:gY H3 a y v H4)(_:D.nx σ H4):Fb D σ v x y H3
def Zj(td ty tv:TE):TS:=fun D σ H=>tv σ H fun v H1=>td σ H1 fun x H2=>ty σ H2 fun y H3=>Fb D σ v x y H3
inductive Fd(tv:TE)(rd:V->V->Hp->VK->Prop)(D:Ends)(σ:L2.St)(x y:V)(H2:Hp):Prop
 |mk(a:Addr)(v:V)(_:x=.ref a)(_:fP H2 a y 0x8B)(_:tv σ H2 fun y2 H3=>rd v y2 H3 fun z H4=>∃H5,gY H4 a y z H5/\D.nx σ H5):Fd tv rd D σ x y H2
def Zk(td ty tv:TE)(rd:V->V->Hp->VK->Prop):TS:=fun D σ H=>td σ H fun x H1=>ty σ H1 fun y H2=>Fd tv rd D σ x y H2
inductive Fe(D:Ends)(σ:L2.St)(x y:V)(H2:Hp):Prop
 |mk(a:Addr)(kvs:List 0x20)(k:L2.Key)(_:x=.ref a)(_:H2 a=some 0x18)(_:y=kV k)(_:(bH kvs k).isSome=true)(_:D.nx σ (upd H2 a (.dK (iQ kvs k)))):Fe D σ x y H2
def Zm(td ty:TE):TS:=fun D σ H=>td σ H fun x H1=>ty σ H1 fun y H2=>Fe D σ x y H2
section
variable{o i:Expr}{tpos:Pos}{ty:TE}
def aN(hu:X.A.units+1<cLine)(ho:PE X o td)(hi:PE X i ty)(hs:Zh i):PE X (.Subscript o i pos) (Zi td ty):=by
 intro pins s σ H Q I h;refine Qg PySem.F.slot_dict_getitem.lookup hs (cN (ho pins s σ H _ I h) fun u s1 ⟨x,H1,I1,rx,q1⟩=>cN (hi pins s1 σ H1 _ I1 q1) fun iv s2 zq=>?_);obtain⟨y,H2,I2,ry,a,v,ex,g,q2⟩:=zq;subst ex;obtain rfl:u=Value.ref a:=rx;exact⟨zA I2 g,vJ hu I2 g ry fun w' s3 I3 bU=>⟨v,H2,I3,bU,q2⟩⟩
def Vi(hu:X.A.units+1<cLine)(hi:PE X i ty)(ho:PE X o td):PC X .In i o (tDIn ty td):=by
 intro pins s σ H Q I h;refine cN (hi pins s σ H _ I h) fun iv s1 ⟨y,H1,I1,ry,q1⟩=>cN (ho pins s1 σ H1 _ I1 q1) fun u s2 zq=>?_;obtain⟨x,H2,I2,rx,a,ov,ex,g,q2⟩:=zq;subst ex;obtain rfl:u=Value.ref a:=rx;exact d_in hu I2 g ry fun s3 I3=>⟨.bl ov.isSome,H2,I3,rfl,q2⟩
def HS(hu:X.A.units+1<cLine)(hi:PE X i ty)(ho:PE X o td):PC X .NotIn i o (Qh ty td):=by
 intro pins s σ H Q I h;refine cN (hi pins s σ H _ I h) fun iv s1 ⟨y,H1,I1,ry,q1⟩=>cN (ho pins s1 σ H1 _ I1 q1) fun u s2 zq=>?_;obtain⟨x,H2,I2,rx,a,ov,ex,g,q2⟩:=zq;subst ex;obtain rfl:u=Value.ref a:=rx;exact Qf hu I2 g ry fun s3 I3=>⟨.bl (!ov.isSome),H2,I3,rfl,q2⟩
def eY(hu:X.A.units+1<cLine)(ho:PE X o td)(hi:PE X i ty)(hv:PE X value tv)(hs:swapsWith value (some (.Subscript o i pos')) pos.line X.env=pure false):
  PS X (.Assign [.Subscript o i pos'] value pos) (Zj td ty tv):=by
 intro pins s σ H D I h;refine wpAny_Assign_Subscript (cN (hv pins s σ H _ I h) fun r s1 ⟨v,H1,I1,rv,q1⟩=>cN (ho pins s1 σ H1 _ I1 q1) fun u s2 ⟨x,H2,I2,rx,q2⟩=>cN (hi pins s2 σ H2 _ I2 q2) fun iv s3 ⟨y,H3,I3,ry,a,H4,ex,g,q3⟩=>?_) hs;subst ex;obtain rfl:u=Value.ref a:=rx;exact vK hu I3 g ry rv fun s4 I4=>⟨σ,H4,I4,q3⟩
def mW{op:Operator}{rd:V->V->Hp->VK->Prop}(hu:X.A.units+1<cLine)(ho:PE X o td)(hi:PE X i ty)(hv:PE X value tv)(hop:V7 X op rd)
  (ha:∀ov iv new,augStore i ov iv new=(do holding [new,ov,iv] (setItem ov iv new);release [new,ov,iv] [];pure .next)):PS X (.AugAssign (.Subscript o i tpos) op value pos) (Zk td ty tv rd):=by
 intro pins s σ H D I h;refine wpAny_AugAssign_SubscriptAny (cN (ho pins s σ H _ I h) fun u s1 ⟨x,H1,I1,rx,q1⟩=>cN (hi pins s1 σ H1 _ I1 q1) fun iv s2 ⟨y,H2,I2,ry,a,v,ex,g,q2⟩=>?_) ha;subst ex;obtain rfl:u=Value.ref a:=rx;refine vJ hu I2 g ry fun w' s3 I3 bU=>cN (hv pins s3 σ H2 _ I3 q2) fun w2 s4 ⟨y2,H3,I4,ry2,q3⟩=>cN (hop pins s4 σ H3 v y2 w' w2 _ I4 bU ry2 q3) fun w3 s5 zq=>?_;obtain⟨z,H4,I5,rz,H5,g5,q4⟩:=zq;exact vK hu I5 g5 ry rz fun s6 I6=>⟨σ,H5,I6,q4⟩
def pC(ho:PE X o td)(hi:PE X i ty):PS X (.Delete [.Subscript o i tpos] pos) (Zm td ty):=by
 intro pins s σ H D I h;refine wpAny_Delete (wpAny_deleteEach_cons (wpAny_delete_Subscript (cN (ho pins s σ H _ I h) fun u s1 ⟨x,H1,I1,rx,q1⟩=>cN (hi pins s1 σ H1 _ I1 q1) fun iv s2 zq=>?_)));obtain⟨y,H2,I2,ry,a,kvs,k,ex,e,ey,l,q2⟩:=zq;subst ex ey;obtain rfl:u=Value.ref a:=rx;exact HN I2 e ry l fun s3 I3=>wpAny_deleteEach_nil ⟨σ,_,I3,q2⟩
end
def zB(h:Heap)(hb:sysModules<h.objs.size):cI P w H (h.push {cls:=.type "dict",data:=.dict #[]}) h.objs.size (.dK []):=
 ⟨A1i _,A1V.mpr (A0k (A0I hb)),[],.nil,Heap.DictOf.new h⟩
def BL:TE:=fun _ H Q=>∀p,H p=none->Q 0x3E (upd H p (.dK []))
def tE:PE X (.Dict [] [] pos) BL:=fun pins s σ H Q I h=>
 wpAny_Dict_empty ⟨.ref s.heap.objs.size,_,I.laid (a:=s.heap.objs.size) (o:=.dK []) (t':=s.toks) (fun _ _ q=>A0b _ q) 0x2F (zB s.heap I.big),rfl,h _ 0x47⟩
def nZ:List (TE×TE)->St->Hp->(List (V×V)->Hp->Prop)->Prop
 |[],_,H,Q=>Q [] H
 |(tk,tv)::r,σ,H,Q=>tk σ H fun x H1=>tv σ H1 fun y H2=>nZ r σ H2 fun ps H3=>Q ((x,y)::ps) H3
abbrev VV:List (V×V)->List (Value×Value)->Prop:=Paired fun p q=>RelV p.1 q.1/\RelV p.2 q.2
def PPs(X:Cx)(pos:Pos)(keys:List (Option Expr))(values:List Expr)(Je:List (TE×TE)):Prop:=
 ∀ (pins:List 0x1E)(s:Shared)(σ:St)(H:Hp)(Q:List (V×V)->Hp->Prop),Inv X pins σ H s->nZ Je σ H Q->
  wpAny 0xA X.A (evalPairs (pairTrees keys values X.env pos)) (fun vs s'=>∃ps H',Inv X pins σ H' s'/\VV ps vs/\Q ps H') X.xe s
def Fg:PPs X pos [] [] []:=fun pins s σ H Q I h=>pairTrees_nil_walk ⟨[],H,I,.nil,h⟩
def gO{k v:Expr}{ks:List (Option Expr)}{vs:List Expr}{tk:TE}(hk:PE X k tk)(hv:PE X v tv)(hr:PPs X pos ks vs Je):
  PPs X pos (some k::ks) (v::vs) ((tk,tv)::Je):=fun pins s σ H Q I h=>
 pairTrees_cons_walk (cN (hk pins s σ H _ I h) fun u s1 ⟨x,H1,I1,rx,q1⟩=>cN (hv pins s1 σ H1 _ I1 q1) fun w2 s2 ⟨y,H2,I2,ry,q2⟩=>
  cN (hr pins s2 σ H2 _ I2 q2) fun ws s3 ⟨ps,H3,I3,rel,q3⟩=>⟨(x,y)::ps,H3,I3,.cons ⟨rx,ry⟩ rel,q3⟩)
def cG(kvs more:List 0x45):List 0x45:=more.foldl (fun acc kv=>putK acc kv.1 kv.2) kvs
def KV.merge:∀{more:List 0x45}{rs:List (Key×Value)}{kvs:List 0x45}{vs:List (Key×Value)},KV more rs->KV kvs vs->KV (cG kvs more) (merged vs rs):=by
 intro more rs kvs vs r;unfold KV at r
 induction r generalizing kvs vs with
 |nil=>intro q;exact q
 | @cons p q ps qs h t ih=>
  intro r0;have e:KV (putK kvs p.1 p.2) (stored vs q.1 q.2):=by
   have:=r0.put p.1 h.2;rw[<-h.1];exact this
  exact ih e
theorem iH:∀(more kvs:List 0x45),(cG kvs more).length<=kvs.length+more.length
 |[],kvs=>by show kvs.length<=kvs.length+0;lia
 | p::r,kvs=>by
  have h1:=iH r (putK kvs p.1 p.2);have h2:=dG kvs p.1 p.2
  show(cG (putK kvs p.1 p.2) r).length<=_
  rw[rT];lia
theorem tG{P:Program}{w:World}:∀{kvs:List 0x45}{ws:List (Value×Value)},VV (kvs.map fun kv=>(kV kv.1,kv.2)) ws->∃rs,Carries (bQ P w) ws rs/\KV kvs rs
 |[],_,r=>by rw[A4b]at r;cases r;exact⟨[],True.intro,.nil⟩
 | p::kvs,_,r=>by
  rw[A0r]at r;cases r with
  | @cons a b as bs h t=>
   obtain⟨rs,c,q⟩:=tG (P:=P) (w:=w) t;obtain⟨b1,b2⟩:=b;exact⟨(p.1,b2)::rs,⟨pA h.1,rfl,c⟩,.cons ⟨rfl,h.2⟩ q⟩
def nR(Je:List (TE×TE)):TE:=fun σ H Q=>∀p,H p=none->nZ Je σ (upd H p (.dK [])) fun ps H2=>H2 p=some (.dK [])/\∃kvs:List 0x45,ps=kvs.map (fun kv=>(kV kv.1,kv.2))/\kvs.length<=15/\Q 0x3E (upd H2 p (.dK (cG [] kvs)))
def Fi{keys:List (Option Expr)}{values:List Expr}(h:PPs X pos keys values Je)(hall:keys.all (·.isSome)=true)(hl:keys.length=values.length)(h0:keys≠[])
  (h15:keys.length<=15):PE X (.Dict keys values pos) (nR Je):=by
 intro pins s σ H Q I q;have hn:=I.hok.fresh (A0g s.heap.objs.size);have I1:=I.laid (a:=s.heap.objs.size) (o:=.dK []) (h':=s.heap.push {cls:=.type "dict",data:=.dict #[]}) (t':=s.toks) (fun _ _ q=>A0b _ q) 0x2F (zB s.heap I.big);refine wpAny_Dict_walk (knd:=bQ X.prog X.w) hall hl h0 h15 (cN (h pins _ σ _ _ I1 (q _ hn)) fun ws s2 zq=>?_);obtain⟨ps,H2,I2,rel,e,kvs,ep,lk,q2⟩:=zq;subst ep;obtain⟨rs,c,rk⟩:=tG (P:=X.prog) (w:=X.w) rel;obtain⟨z,hd,vs0,r0,dd⟩:=nQ I2.hok e;cases r0;refine⟨rs,c,dd,fun h' yK hs=>⟨.ref s.heap.objs.size,_,?_,rfl,q2⟩⟩;have hz:(cG [] kvs).length<=sizeLine:=by
  have h1:=iH kvs [];rw[A3p]at h1;rw[A1H];lia
 have he:∃q,h'.get? s.heap.objs.size=some q:=let⟨q,_,_,hq,_⟩:=yK;⟨q,hq⟩
 exact kJ I2 0x76 hs he (xG hz hd (rk.merge .nil) yK)
structure M1(X:Cx)(o:Expr)(m:Str)(apos:Pos)(e:Expr)(cpos:Pos):Prop where
 base:attributeBase o m X.env (eval o X.env)=eval o X.env
 few:((backTo cpos (starEach [e] X.env)).all (fun x=>!x.1)&&(backToKw cpos (keywordEach [] X.env)).all (fun x=>x.1.isSome)
  &&decide (([e]:List Expr).length+([]:List Keyword).length+(if([]:List Keyword).isEmpty then 0 else 1)<30))=true
 line:0x69=true
 trees:backTo cpos (starEach [e] X.env)=[0x5B]
structure M2(X:Cx)(o:Expr)(m:Str)(apos:Pos)(e f:Expr)(cpos:Pos):Prop where
 base:attributeBase o m X.env (eval o X.env)=eval o X.env
 few:((backTo cpos (starEach [e,f] X.env)).all (fun x=>!x.1)&&(backToKw cpos (keywordEach [] X.env)).all (fun x=>x.1.isSome)
  &&decide (([e,f]:List Expr).length+([]:List Keyword).length+(if([]:List Keyword).isEmpty then 0 else 1)<30))=true
 line:0x69=true
 trees:backTo cpos (starEach [e,f] X.env)=[0x5B,(false,eval f X.env)]
def IsD(H:Hp)(a:Addr):Prop:=(∃kvs,Rd H a 0x18)\/∃kvs,Rd H a (.dT kvs)
def Kh(I:Inv X pins σ H s)(d:IsD H a):
  s.TypeIs 0x48 "dict"/\(∀b,Value.ref a=.ref b->∃ob,s.heap.get? b=some ob/\ob.dict=none)/\0x7D=false:=by
 rcases d with⟨kvs,e⟩|⟨kvs,e⟩
 ·obtain⟨_,hd,vs,_,dd⟩:=tu I.hok e;refine⟨dd.typeIs,fun b q=>?_,hd⟩;cases q;obtain⟨ob,_,_,h1,h2,_⟩:=dd;exact⟨ob,h1,h2.2.1⟩
 ·obtain⟨_,hd,xs,_,dd⟩:=tD I.hok e;refine⟨dd.typeIs,fun b q=>?_,hd⟩;cases q;obtain⟨ob,_,_,h1,h2,_⟩:=dd;exact⟨ob,h1,h2.2.1⟩
section
variable{d:V}{r:Value}{o:Option V}
def Vj(hu:A.units+1<cLine)(I:Inv X pins σ H s)(g:fP H a y o)(ry:RelV y u)(rd:RelV d r)(h:∀w' s',Inv X pins σ H s'->RelV (o.getD d) w'->Q w' s'):
  wpAny 0xA A (call (.builtin "dict.get") [.ref a,u,r]) Q E s:=by
 rcases g with⟨kvs,k,e,ey,l⟩|⟨kvs,k,b,e,ey,eb,l⟩
 ·subst ey;obtain⟨z,hd,vs,rel,dd⟩:=tu I.hok e;refine A3g A3P dd.typeIs PySem.F.entry_dict_get (PySem.F.args_dict_get_3 _ _ _) (meets_dict_get_default 0x4F a (pA ry) hd r) ⟨_,dd.mapOf,h _ _ (I.tok _) ?_⟩;rw[l];exact(rel.val k).getD rd
 ·subst ey;cases(show u=Value.ref b from ry)
  obtain⟨z,hd,xs,rel,dd⟩:=tD I.hok e;refine A3g A3P dd.typeIs PySem.F.entry_dict_get (PySem.F.args_dict_get_3 _ _ _) (meetsH_dict_get_default (tupleKind 0x4F) a b hd r) ⟨A2M hu,k,xs,qt I.hok eb,dd,h _ _ (I.tok _) ?_⟩;rw[l];exact(rel.val k).getD rd
end
inductive zE(ty tx:TE)(σ:L2.St)(Q:VK)(x:V)(H1:Hp):Prop
 |mk(a:Addr)(_:x=.ref a)(_:IsD H1 a)(_:ty σ H1 fun y H2=>tx σ H2 fun z H3=>∃o,fP H3 a y o/\Q (o.getD z) H3):zE ty tx σ Q x H1
def Vk(td ty tx:TE):TE:=fun σ H Q=>td σ H fun x H1=>zE ty tx σ Q x H1
inductive zF(ty:TE)(σ:L2.St)(Q:VK)(x:V)(H1:Hp):Prop
 |mk(a:Addr)(_:x=.ref a)(_:IsD H1 a)(_:ty σ H1 fun y H2=>∃kvs k v,H2 a=some 0x18/\y=kV k/\bH kvs k=some v/\Q v (upd H2 a (.dK (iQ kvs k)))):zF ty σ Q x H1
def Vl(td ty:TE):TE:=fun σ H Q=>td σ H fun x H1=>zF ty σ Q x H1
section
variable{o f:Expr}{ty tx:TE}
def Kl(hu:X.A.units+1<cLine)(ho:PE X o td)(he:PE X e ty)(hf:PE X f tx)(m:M2 X o "get" apos e f cpos):PE X (.Call (.Attribute o "get" apos) [e,f] [] cpos) (Vk td ty tx):=by
 intro pins s σ H Q I h;refine wpAny_Call_method m.base m.few m.line A1R A3P PySem.F.type_dict_get (cN (ho pins s σ H _ I h) fun u s1 zq=>?_);obtain⟨x,H1,I1,rx,a,ex,d,q1⟩:=zq;subst ex;obtain rfl:u=Value.ref a:=rx;obtain⟨t1,t2,_⟩:=Kh I1 d;refine⟨t1,t2,?_⟩;rw[m.trees];refine A1p rfl (A3V (A3t (cN (he pins s1 σ H1 _ I1 q1) fun iv s2 ⟨y,H2,I2,ry,q2⟩=>
  A3t (cN (hf pins s2 σ H2 _ I2 q2) fun fv s3 ⟨z,H3,I3,rz,ov,g,q3⟩=>A4t ?_))))
 exact Vj hu I3 g ry rz fun w' s4 I4 bU=>⟨_,H3,I4,bU,q3⟩
def pD(ho:PE X o td)(he:PE X e ty)(m:M1 X o "pop" apos e cpos):PE X (.Call (.Attribute o "pop" apos) [e] [] cpos) (Vl td ty):=by
 intro pins s σ H Q I h;refine wpAny_Call_method m.base m.few m.line A1R PySem.F.slot_dict_pop PySem.F.type_dict_pop (cN (ho pins s σ H _ I h) fun u s1 zq=>?_);obtain⟨x,H1,I1,rx,a,ex,d,q1⟩:=zq;subst ex;obtain rfl:u=Value.ref a:=rx;obtain⟨t1,t2,_⟩:=Kh I1 d;refine⟨t1,t2,?_⟩;rw[m.trees];refine A1p rfl (A3V (A3t (cN (he pins s1 σ H1 _ I1 q1) fun iv s2 ⟨y,H2,I2,ry,kvs,k,v,ea,ey,l,q2⟩=>A4t ?_)));subst ey;exact Zg I2 ea ry l 0x6F fun w' s3 I3 bU=>⟨v,_,I3,bU,q2⟩
end
section
variable{a b:Expr}{ta:TA}{p:Pos}
end
def Fj{fx fy:Nat->V}{D:Ends}(Pv:Nat->St->Hp->Prop)
  (hJ:∀i σ H,Pv i σ H->(i<n->J.go i H/\∀v H',J.Az i H v H'->∃p,v=.ref p/\H p=none/\H'=upd H p (.tup [fx i,fy i]))/\(n<=i->J.stop i H))(h0:Pv 0 σ H)
  (hs:∀i σ H p,i<n->Pv i σ H->H p=none->g 0x3E σ (upd H p (.tup [fx i,fy i])) fun σ2 H2=>tb {D with nx:=Pv (i+1),ct:=Pv (i+1),bk:=D.nx} σ2 H2)(hd:∀σ H,Pv n σ H->D.nx σ H):
  ∃ W:Nat->Nat->St->Hp->Prop,(∃m,W 0 m σ H)/\∀i m σ H,W i m σ H->
   (J.stop i H/\D.nx σ H)\/(J.go i H/\∃N:St->Hp->Prop,(∀σ' H',N σ' H'->∃m',m'<m/\W (i+1) m' σ' H')/\∀v H',J.Az i H v H'->g v σ H' fun σ2 H2=>tb {D with nx:=N,ct:=N,bk:=D.nx} σ2 H2):=by
 refine⟨fun i m σ H=>m=n-i/\i<=n/\Pv i σ H,⟨_,rfl,A1i _,h0⟩,?_⟩;rintro i m σ H ⟨rfl,hi,p⟩;obtain⟨h1,h2⟩:=hJ i σ H p
 by_cases hlt:i<n
 ·obtain⟨hg,hy⟩:=h1 hlt;refine .inr ⟨hg,Pv (i+1),fun σ' H' p'=>⟨_,by lia,rfl,hlt,p'⟩,fun v H' y=>?_⟩;obtain⟨q,rfl,hq,rfl⟩:=hy v H' y;exact hs i σ H q hlt p hq
 ·have e:i=n:=by lia
  subst e;exact .inl ⟨h2 0x2F,hd σ H p⟩
def kO(P:Params):List DictEntry->List (Str×V)->Prop
 |[],[]=>True
 |e::r,(k,v)::q=>((∃t,e.key=.str k t)/\e.hash=PyData.keyHash P k/\RelV v e.val)/\kO P r q
 |_,_=>False
theorem kO.lit{P:Params}:∀{es:List DictEntry}{kvs:List (Str×V)},kO P es kvs->KeysLit P es
 |[],[],_=>trivial
 |e::r,(k,v)::q,⟨⟨⟨t,h1⟩,h2,_⟩,h⟩=>⟨⟨k,t,h1,h2⟩,h.lit⟩
theorem kO.rel{P:Params}(x:Str):∀{es:List DictEntry}{kvs:List (Str×V)},kO P es kvs->j8 (kvs.lookup x) ((es.find? fun e=>Value.isStrOf x e.key).map (·.val))
 |[],[],_=>trivial
 | e::r,(k,v)::q,⟨⟨⟨t,h1⟩,h2,h3⟩,h⟩=>by
  have hk:Value.isStrOf x e.key=(k==x):=by rw[h1];rfl
  by_cases hx:x=k
  ·subst hx;have:Value.isStrOf x e.key=true:=by rw[hk];simp
   rw[A1U,this,A0Y];simp only[A2y];exact h3
  ·have h4:Value.isStrOf x e.key=false:=by rw[hk];simpa using fun z:k=x=>hx z.symm
   have h5:(x==k)=false:=by simpa using hx
   rw[A1U,h4,A0Y,h5];exact h.rel x
structure KD(K:PySem.W.Frag)(P:Params)(a:Addr)(kvs:List (Str×V)):Prop where
 ex:∃es n,K.lookup a=some ⟨.type "dict",none,.dict es n,#[]⟩/\kO P es.toList kvs
 lo:0x7D=false
def KD.map{kvs:List (Str×V)}(d:KD K w.params a kvs)(X:K.In h):∃f,h.MapOf 0x2A a f/\∀x,j8 (kvs.lookup x) (f x):=by
 obtain⟨es,n,hl,he⟩:=d.ex;refine⟨_,mapOf_K X hl he.lit,fun x=>?_⟩;obtain⟨l⟩:=es;have:=he.rel x;unfold findBy;rw[List.find?_toArray];exact this
inductive Ti(K:W.Frag)(P:Params)(neg:Bool)(x y:V)(H:Hp)(Q:VK):Prop
 |mk(z:Str)(a:Addr)(kvs:List (Prod Str V))(_:x=.str z)(_:y=.ref a)(_:KD K P a kvs)(_:Q (.bl (neg !=(kvs.lookup z).isSome)) H):Ti K P neg x y H Q
def Qi:mQ X (compareOp .In) (Ti X.K X.w.params false):=by
 intro pins s σ H x y v u Q I rx ry h;obtain⟨z,a,kvs,rfl,rfl,d,q⟩:=h;obtain⟨t,rfl⟩:=rx;cases ry;obtain⟨f,hm,hr⟩:=d.map (prog:=X.prog) I.pZ;refine wpAny_in_of (A4O X.prog X.w z t) d.lo hm ?_;rw[<-(hr z).iy];exact⟨.bl _,H,I.tok _,rfl,by simpa using q⟩
inductive Tj(K:W.Frag)(P:Params)(x y:V)(H:Hp)(Q:VK):Prop
 |mk(a:Addr)(kvs:List (Prod Str V))(z:Str)(v:V)(_:x=.ref a)(_:y=.str z)(_:KD K P a kvs)(_:kvs.lookup z=some v)(_:Q v H):Tj K P x y H Q
def Zn:Y9 X (Tj X.K X.w.params):=by
 intro value slice pins s σ H x y v u Q I rx ry h hs;obtain⟨a,kvs,z,w',rfl,rfl,d,hl,q⟩:=h;cases rx;obtain⟨t,rfl⟩:=ry;obtain⟨f,hm,hr⟩:=d.map (prog:=X.prog) I.pZ;obtain⟨u',hu,ru⟩:=j8.some_of (v:=w') (o:=f z) (by rw[<-hl];exact hr z);exact tail_any hm.typeIs slot_dict_getitem.lookup (wpAny_getItem_of (A4O X.prog X.w z t) hm hu ⟨w',H,I.tok _,ru,q⟩) hs
end L2
namespace HT
open PySem PySem.Spec PyProof.Rows
end HT
namespace L2
open PySem PySem.Spec PyProof.Rows PySem.W
theorem xH:∀{ss:List Str}{us:List Value},Vals 0x2C us->StrsAre us ss
 |[],_,r=>by rw[A4b]at r;cases r;exact .nil
 | x::ss,_,r=>by
  rw[A0r]at r;cases r with
  | cons r1 r2=>
   obtain⟨t,rfl⟩:=r1;exact .cons x t (xH r2)
theorem pF:∀{ss:List Str}{us:List Value},StrsAre us ss->Vals 0x2C us
 |_,_,.nil=>.nil
 |_,_,.cons y t r=>.cons ⟨t,rfl⟩ (pF r)
inductive Km(K:W.Frag)(xs:List V)(H:Hp)(Q:VK):Prop
 |mk(p:Addr)(ss:List Str)(_:xs=[.ref p])(_:bF K H p 0x2C)(_:ss.length<64)(_:∀l ss',H l=none->ss'.Perm ss->sortedS ss'=true->Q (.ref l) (upd H l (.lst (ss'.map V.str)))):Km K xs H Q
def dw:gw X (.builtin "sorted") (Km X.K):=by
 intro pins s σ H xs us Q I r h;obtain⟨p,ss,rfl,hq,hl,q⟩:=h;obtain⟨u,rfl,ru⟩:=vals1 r;cases ru;obtain⟨its,rv,pl,hz⟩:=I.list hq;have hlen:=rv.length;rw[bY]at hlen;refine sorted_strs pl.isList (xH rv) 0x1 fun out ss' h1 h2 h3=>?_;obtain⟨e,he⟩:=sortedAll_at s.heap its out;have hle:ss'.length<64:=by rw[h2.length_eq];exact hl
 have new:cI X.prog X.w (upd H 0x14 (.lst (ss'.map V.str))) (sortedAll s.heap its out) 0x14 (.lst (ss'.map V.str)):=
  ⟨by rw[bY];exact A0L (A1O hle) 0x6,out.toList,e,pF h1,by rw[he]⟩
 exact⟨.ref 0x14,_,I.laid (t':=s.toks) (fun b o q=>sortedAll_old q) (A3x _) new,rfl,q _ ss' (I.hok.fresh (A3x _)) h2 h3⟩
section
variable{o:Obj}
def Inv.freeze(I:Inv X pins σ H s)(e:H a=some 0x18):∃o,Inv X pins σ (upd H a 0x3B) s/\∀o u,X.H₀ a≠some (.gD o u):=by
 obtain⟨z,hd,vs,rel,dd⟩:=nQ I.hok e;obtain⟨o,es,ep,ho,r⟩:=id dd;refine⟨o,kJ (t':=s.toks) I 0x76 (Heap.SameBut.refl a s.heap) ⟨o,ho⟩ ⟨ho,z,hd,vs,rel,dd⟩,fun o' u q=>?_⟩;have:=I.base.rY a o' u q;rw[e]at this;cases this
def Inv.Zo(I:Inv X pins σ H s)(e:H a=some 0x3B)(n:∀o u,X.H₀ a≠some (.gD o u)):Inv X pins σ (upd H a 0x18) s:=by
 have nn:∀{b},H b=none->b≠a:=fun q h=>by rw[h,e]at q;cases q
 have nt:∀{b xs},H b=some 0x52->b≠a:=fun q h=>by rw[h,e]at q;cases q
 have no:∀{b y},H b=some (.own y)->b≠a:=fun q h=>by rw[h,e]at q;cases q
 refine⟨I.ok,I.os,I.bare,⟨I.base.keep,I.base.slot,fun b ob q hb hx=>?_,I.base.there,fun b xs q=>?_,fun b ob u q=>?_,fun b ps q=>?_⟩,I.loc,I.cell,?_,fun x c q=>?_,fun p hp=>?_,fun b u q=>?_,I.len⟩
 ·have z:=I.base.free b ob q hb hx;rw[ak (nn z)];exact z
 ·have z:=I.base.tups b xs q;rw[ak (nt z)];exact z
 ·by_cases h:b=a
  ·subst h;exact absurd q (n ob u)
  ·rw[ak h];exact I.base.rY b ob u q
 ·obtain⟨more,z⟩:=I.base.wG b ps q;exact⟨more,by rw[ak (fun h=>by rw[h,e]at z;cases z)];exact z⟩
 ·rw[ak (nn I.free)];exact I.free
 ·rw[ak (nn (I.jA x c q))];exact I.jA x c q
 ·obtain⟨q1,q2,q3⟩:=I.pin p hp;exact⟨q1,by rw[ak (nn q2)];exact q2,q3⟩
 ·by_cases h:b=a
  ·subst h;rw[ao]at q;cases q;obtain⟨_,z⟩:=I.hok _ _ e;exact z.stay (fun _ _ _ q=>q) (fun c q=>by rw[ak (no q)];exact q) fun c xs q=>by rw[ak (nt q)];exact q
  ·rw[ak h]at q;exact(I.hok b u q).stay (fun _ _ _ q=>q) (fun c q=>by rw[ak (no q)];exact q) fun c xs q=>by rw[ak (nt q)];exact q
inductive Qj(t:TE)(σ:L2.St)(H:Hp)(Q:VK):Prop
 |mk(a:Addr)(kvs:List (Prod L2.Key V))(_:H a=some 0x18)(_:∀o,t σ (upd H a 0x3B) fun v H'=>H' a=some 0x3B/\Q v (upd H' a 0x18)):Qj t σ H Q
def o9{t:TE}(he:PE X e t):PE X e (Qj t):=by
 intro pins s σ H Q I ⟨a,kvs,ea,h⟩;obtain⟨o,I1,n⟩:=I.freeze ea;exact A1j (he pins s σ _ _ I1 (h o)) (fun v s' ⟨x,H',I',r,e',q⟩=>⟨x,_,I'.Zo e' n,r,q⟩) fun _ _ y=>y
def Yc(a:Addr)(o:Obj)(kvs:List 0x45):It:=⟨fun i H=>H a=some 0x3B/\i<kvs.length,fun i H v H'=>H'=H/\∃kv,kvs[i]?=some kv/\v=kV kv.1,fun i H=>H a=some 0x3B/\kvs.length<=i⟩
def Ko{k:Key}(h:(bQ P w).is k u=true):RelV (kV k) u:=by
 rcases dD (show rW k u=true from h)with⟨i,t,rfl,rfl⟩|⟨x,t,rfl,rfl⟩
 ·exact⟨t,rfl⟩
 ·exact⟨t,rfl⟩
def KV.at{κ:Type}:∀{kvs:List (κ×V)}{vs:List (κ×Value)},KV kvs vs->∀{i:Nat}{kv:κ×V},kvs[i]?=some kv->∃u,vs[i]?=some (kv.1,u)/\RelV kv.2 u:=by
 intro kvs vs r;unfold KV at r
 induction r with
 |nil=>intro i kv h;simp at h
 | @cons p q ps qs h t ih=>
  intro i kv hi;cases i with
  | zero=>
   simp only[A2z,Option.some.injEq]at hi;subst hi;obtain⟨q1,q2⟩:=q;obtain⟨h1,h2⟩:=h;simp only at h1;subst h1;exact⟨q2,rfl,h2⟩
  | succ j=>
   simp only[A3z]at hi ⊢;exact ih hi
def qu(I:Inv X pins σ H s)(e:H a=some 0x3B){es:Array DictEntry}(hd:o.data=.dict es ep):0x7D=false/\∃vs,KV kvs vs/\s.heap.DictAt 0x4F a vs ep:=by
 obtain⟨ho,z,hs,vs,rel,o',es',ep',ho',r⟩:=I.hok _ _ e;rw[ho]at ho';cases ho';obtain⟨r1,r2,r3⟩:=r;rw[hd]at r2;injection r2 with q1 q2;subst q1 q2;exact⟨hs,vs,rel,o,es,ho,r1,hd,r3⟩
def HW(it:Addr){es:Array DictEntry}(hd:o.data=.dict es ep):
  Turn P w K tg (Yc a o kvs) [it] it (fun i h=>h.IsKeyIter it a i kvs.length ep) where
 mem:=by simp
 obj:=fun i h st b hb=>by
  have e:b=it:=by simpa using hb
  subst e;obtain⟨ob,e,c,d⟩:=st;exact⟨ob,e,fun v z=>by rw[d]at z;cases z⟩
 keep:=fun i h h' st k=>by
  obtain⟨ob,e,r⟩:=st;exact⟨ob,k it 0x8 ob e,r⟩
 item:=by
  intro X hP hw hK hc i pins s σ H E I hf st hg;subst hP hw hK;obtain⟨f0,f1,f2,f3,f4,f5⟩:=hf it 0x8;obtain⟨hg1,hg2⟩:=hg;obtain⟨hs,vs,rel,dat⟩:=qu I hg1 hd;have hl:kvs.length=vs.length:=rel.length;obtain⟨u,hu,ru⟩:=rel.at (jo hg2);rw[hl]at st;refine wpAny_pyNext_dict_item st dat hu fun key h' hkey hit' hsb=>?_;have I1:Inv X pins σ H {s with heap:=h'}:=I.turned (t':=s.toks) (fun b ob hb e=>hsb.extBut b ob hb e) f0 f1 f3 f4 f5;obtain⟨ob,e,cc,d⟩:=id hit';refine⟨_,rfl,Ea (s:={s with heap:=h'}) e cc d 0x6 ⟨kV (kvs[i]).1,H,I1,Ko hkey,⟨rfl,_,jo hg2,rfl⟩,?_,fun b hb=>(hf b hb).1⟩⟩;rw[hl];exact hit'
 done:=by
  intro X hP hw hK hc i pins s σ H E I hf st hg;subst hP hw hK;obtain⟨f0,f1,f2,f3,f4,f5⟩:=hf it 0x8;obtain⟨hg1,hg2⟩:=hg;obtain⟨hs,vs,rel,dat⟩:=qu I hg1 hd;have hl:kvs.length=vs.length:=rel.length;rw[hl]at st hg2;exact wpAny_pyNext_dict_end 0x95 st dat (A1M hg2) fun h' eb=>⟨rfl,I.turned (t':=s.toks) (fun b ob hb e=>eb b ob hb e) f0 f1 f3 f4 f5⟩
 self:=fun A i s Q E st h=>wpAny_pyIter_keyiter st h
inductive Fl(R:It->Hp->Prop)(x:V)(H1:Hp):Prop
 |mk(a:Addr)(o:Obj)(kvs:List 0x20)(_:x=.ref a)(_:H1 a=some 0x3B)(_:R (Yc a o kvs) H1):Fl R x H1
def Tn(tl:TE):TI:=fun σ H R=>tl σ H fun x H1=>Fl R x H1
def mX{l:Expr}(hl:PE X l tl):PI X tg l (Tn tl):=by
 intro pins s σ H R I h;refine cN (hl pins s σ H _ I h) fun v s1 zq=>?_;obtain⟨x,H1,I1,r1,a,o,kvs,ex,ea,q⟩:=zq;subst ex;cases r1;obtain⟨ho,z,hs,vs,rel,o',es,ep,ho',hx,hdd,r⟩:=id (I1.hok _ _ ea);rw[ho]at ho';cases ho';have dat:s1.heap.DictAt 0x4F a vs ep:=⟨o,es,ho,hx,hdd,r⟩;have hlen:kvs.length=vs.length:=rel.length;refine wpAny_pyIter_dict hs dat ?_;refine⟨s1.heap.objs.size,[s1.heap.objs.size],_,_,H1,rfl,I1.kept (t':=s1.toks) fun b o e=>A0b _ e,HW _ hdd,⟨_,A0m _ rfl,rfl,by rw[hlen];rfl⟩,fun b hb=>?_,q⟩;have e:b=s1.heap.objs.size:=by simpa using hb
 subst e;exact I1.wL 0x2F (I1.hok.fresh 0x2F)
def vM{o:Obj}{k:Nat}{Q:VK}(Pv:Nat->List V->Hp->Prop)(hl:∀i ys H,Pv i ys H->H a=some 0x3B)(h0:Pv 0 [] (upd H1 D 0x6D))(hD:∀i ys H,Pv i ys H->H D=some 0x57)
  (hs:∀i ys H kv,kvs[i]?=some kv->Pv i ys H->z6 D σ k ix g tt te (kV kv.1) ys H (Pv (i+1)))(hd:∀ys H,Pv kvs.length ys H->Q 0x86 H):nY (Yc a o kvs) D σ k ix g tt te Q H1:=
 xq (n:=kvs.length) (item:=fun i=>match kvs[i]? with|some kv=>kV kv.1|none=>.non) Pv (fun i ys H p=>⟨fun h=>⟨⟨hl i ys H p,h⟩,fun v H' y=>by
  obtain⟨e,kv,hc,rfl⟩:=y;exact⟨e,by rw[hc]⟩⟩,fun h=>⟨hl i ys H p,h⟩⟩) h0 hD (fun i ys H h p=>by
   have e:kvs[i]?=some kvs[i]:=jo h;simp only[e];exact hs i ys H _ e p) hd
end
end L2
namespace PySem
def jU:entryFor table "dict_itemiterator.__iter__"=some Builtin.«dict_keyiterator.__iter__»:=
 A4j (id':="dict_keyiterator.__iter__") 0x84 rfl 0x4 0x84
end PySem
namespace L2
open PySem PySem.Spec PyProof.Rows PySem.W
def Zq(a:Addr)(o:Obj)(kvs:List 0x45):It:=⟨fun i H=>H a=some 0x3B/\i<kvs.length,fun i H v H'=>∃p kv,kvs[i]?=some kv/\v=.ref p/\H p=none/\H'=upd H p (.tup [kV kv.1,kv.2]),fun i H=>H a=some 0x3B/\kvs.length<=i⟩
section
variable{o:Obj}
def BP(it:Addr){es:Array DictEntry}(hd:o.data=.dict es ep):
  Turn P w K (.Tuple elts x1 tp) (Zq a o kvs) [it] it (fun i h=>∃ok ov,IsItemIter h it a i kvs.length ep ok ov) where
 mem:=by simp
 obj:=fun i h ⟨ok,ov,st⟩ b hb=>by
  have e:b=it:=by simpa using hb
  subst e;exact⟨_,st,fun v z=>by cases z⟩
 keep:=fun i h h' ⟨ok,ov,st⟩ k=>⟨ok,ov,k it 0x8 _ st⟩
 item:=by
  intro X hP hw hK hc i pins s σ H E I hf ⟨ok,ov,st⟩ hg;subst hP hw hK;obtain⟨hg1,hg2⟩:=hg;obtain⟨hs,vs,rel,dat⟩:=qu I hg1 hd;have hl:kvs.length=vs.length:=rel.length;obtain⟨u,hu,ru⟩:=rel.at (jo hg2);rw[hl]at st;refine wpAny_pyNext_items_item st dat hu fun key h' hkey ho hT hsz hk=>⟨_,rfl,wpAny_letOwnedTupleGo_items ho fun h2 he2 sb=>?_⟩;have hilt:it<s.heap.objs.size:=A0q st;have hT2:=sb.extBut _ _ (A2L hilt) hT;have kk:∀b ob,b∉[it]->s.heap.get? b=some ob->h2.get? b=some ob:=fun b ob hb q=>by
   have hb':b≠it:=by simpa using hb
   exact sb.extBut _ _ hb' (hk b ob hb' q)
  refine⟨.ref s.heap.objs.size,upd H s.heap.objs.size (.tup [kV (kvs[i]).1,(kvs[i]).2]),I.Eu (t':=s.toks) hf kk 0x2F ⟨vg 0x8 |> A1O,[key,u],.cons (Ko hkey) (.cons ru .nil),⟨_,hT2,rfl,_,rfl⟩⟩,rfl,⟨_,kvs[i],jo hg2,rfl,I.fresh,rfl⟩,?_,fun b hb=>?_⟩
  ·rw[hl];exact⟨_,_,he2⟩
  ·have e:b=it:=by simpa using hb
   subst e;rw[ak (A0I hilt)];exact(hf _ 0x8).1
 done:=by
  intro X hP hw hK hc i pins s σ H E I hf ⟨ok,ov,st⟩ hg;subst hP hw hK;obtain⟨f0,f1,f2,f3,f4,f5⟩:=hf it 0x8;obtain⟨hg1,hg2⟩:=hg;obtain⟨hs,vs,rel,dat⟩:=qu I hg1 hd;have hl:kvs.length=vs.length:=rel.length;rw[hl]at st hg2;exact wpAny_pyNext_items_end 0x95 st dat (A1M hg2) fun h' eb=>⟨rfl,I.turned (t':=s.toks) (fun b ob hb e=>eb b ob hb e) f0 f1 f3 f4 f5⟩
 self:=fun A i s Q E ⟨ok,ov,st⟩ h=>by
  have hT:s.TypeIs 0x4E "dict_itemiterator":=⟨_,st,rfl⟩;refine A3L hT A3o (A0X A3o hT PySem.jU ?_ (PySem.F.args_dict_itemiterator_iter_1 _))
  show wpAny _ _ (ret 0x4E) _ _ s
  exact A0d ⟨_,rfl,"dict_itemiterator",_,hT,PySem.F.slot_dict_itemiterator_next.lookup,h⟩
inductive zG(R:It->Hp->Prop)(x:V)(H1:Hp):Prop
 |mk(a:Addr)(o:Obj)(kvs:List 0x20)(_:x=.ref a)(_:H1 a=some 0x3B)(_:R (Zq a o kvs) H1):zG R x H1
def Vm(tl:TE):TI:=fun σ H R=>tl σ H fun x H1=>zG R x H1
def zH{l:Expr}(hl:PE X l tl)(hbase:attributeBase l "items" X.env (eval l X.env)=eval l X.env:=by rfl)(hline:0x69=true:=by rfl):
  PI X (.Tuple elts x1 tp) (.Call (.Attribute l "items" apos) [] [] cpos) (Vm tl):=by
 intro pins s σ H R I h;refine A2x hbase hline (cN (hl pins s σ H _ I h) fun v s1 zq=>?_);obtain⟨x,H1,I1,r1,a,o,kvs,ex,ea,q⟩:=zq;subst ex;cases r1;obtain⟨ho,z,hs,vs,rel,o',es,ep,ho',hx,hdd,r⟩:=id (I1.hok _ _ ea);rw[ho]at ho';cases ho';have dat:s1.heap.DictAt 0x4F a vs ep:=⟨o,es,ho,hx,hdd,r⟩;have hT:s1.TypeIs 0x48 "dict":=dat.dictOf.typeIs;refine⟨"dict","dict.items",A1R,PySem.F.slot_dict_items,PySem.F.type_dict_items,hT,(fun b e=>by injection e with e;subst e;exact⟨o,ho,hx.2.1⟩),?_⟩;refine A1p rfl (A3k ?_);refine A3g PySem.F.slot_dict_items hT PySem.F.entry_dict_items (PySem.F.args_dict_items_1 _) (meets_dict_items 0x4F a hs) ⟨⟨vs,dat.dictOf⟩,?_⟩;have hlen:kvs.length=vs.length:=rel.length;have hne:a≠s1.heap.objs.size:=A0I dat.lt_size;have I2:Inv X pins σ H1 {s1 with heap:=s1.heap.push {cls:=.type "dict_items",data:=.fields #[.ref a]}}:=I1.kept (t':=s1.toks) fun b o e=>A0b _ e;have Vn:(s1.heap.push {cls:=.type "dict_items",data:=.fields #[.ref a]}).DictAt 0x4F a vs ep:=dat.at' fun o e=>A0b _ e
 show wpAny _ _ (pyIter (.ref s1.heap.objs.size)) _ _ _
 refine wpAny_pyIter_items (s:={s1 with heap:=s1.heap.push {cls:=.type "dict_items",data:=.fields #[.ref a]}}) ⟨_,A0m _ rfl,rfl,rfl⟩ Vn ?_;refine⟨_,[_],_,_,H1,rfl,I2.kept (t':=s1.toks) fun b o e=>A0b _ e,BP _ hdd,⟨_,_,by rw[hlen];exact A0m _ rfl⟩,fun b hb=>?_,q⟩;have e:=A0e.mp hb;subst e;exact I2.wL 0x2F (I2.hok.fresh 0x2F)
def qR(h:H a=some 0x3B):(i<kvs.length->(Zq a o kvs).go i H/\∀v H',(Zq a o kvs).Az i H v H'->∃p,v=.ref p/\H p=none/\H'=upd H p (.tup [(kvs.map fun kv=>kV kv.1).getD i .non,(kvs.map fun kv=>kv.2).getD i .non]))/\(kvs.length<=i->(Zq a o kvs).stop i H):=by
 refine⟨fun hi=>⟨⟨h,hi⟩,fun v H' ⟨p,kv,e1,e2,e3,e4⟩=>⟨p,e2,e3,?_⟩⟩,fun hi=>⟨h,hi⟩⟩;rw[e4,qN,qN,lJ,lJ,e1];rfl
end
end L2
namespace M
open PySem L2
def top(i:Nat):Stmt:=PySem.Challenge.pw_manrent_k12_twins_of_lands.main.body.getD i (.Pass ⟨0,0,0,0⟩)
abbrev Kq:Stmt:=inClass (top 15) 0
abbrev BR:Stmt:=inClass (top 15) 1
abbrev pG:Stmt:=inClass (top 15) 2
abbrev xJ:Stmt:=inClass (top 15) 3
abbrev Kr:Stmt:=inClass (top 15) 4
abbrev Vo:Stmt:=inClass (top 15) 5
abbrev tH:Stmt:=inClass (top 15) 6
abbrev tK:Stmt:=inClass (top 15) 7
abbrev BW:Stmt:=inClass (top 15) 8
abbrev Fo:Stmt:=inClass (top 15) 9
abbrev xK:Stmt:=inClass (top 15) 10
abbrev Fp:Stmt:=inClass (top 15) 11
abbrev BZ:Stmt:=inClass (top 15) 12
abbrev tL:Stmt:=inClass (top 15) 13
abbrev xM:Stmt:=inClass (top 15) 14
abbrev Ks:Stmt:=inClass (top 15) 15
abbrev Ca:Stmt:=inClass (top 15) 16
abbrev Ku:Stmt:=inClass (top 15) 17
abbrev Cd:Stmt:=inClass (top 15) 18
abbrev Vp:Stmt:=inClass (top 15) 19
def aJ{p:Addr}(h:H p=none)(o:HO):Same H (upd H p o):=fun b u q=>by rw[ak (aA q h)];exact q
def bC{l:Addr}(s:Same H H2)(h:H l=none):Same H (upd H2 l o):=fun b u q=>by rw[ak (aA q h)];exact s b u q
def small(h:n<=1000000):n<=sizeLine:=A0L h 0x6
def bO(h:n<1000000):n<sizeLine:=A0o h 0x6
def u1{k:Nat}(r:fK k A):A.units+1<cLine:=by have:=r.un;lia
structure eO(K:PySem.W.Frag)(C:Addr):Prop where
 cl:Cls K C
 n1:jq K C "lord_of"
 n2:jq K C "holder_of"
 n3:jq K C "own_of"
 n4:jq K C "service_of"
 n5:jq K C "breadth_of"
abbrev F5(a1 a2 a3 a4 a5:Addr):List (Str×V):=[("lord_of",.ref a1),("holder_of",.ref a2),("own_of",.ref a3),("service_of",.ref a4),("breadth_of",.ref a5)]
structure bT(C:Addr)(H:Hp)(x dx a1 a2 a3 a4 a5:Addr)(lo ho ow se br:List 0x45):Prop where
 o:H x=some (.ins C dx (F5 a1 a2 a3 a4 a5))
 l1:H a1=some (.dK lo)
 l2:H a2=some (.dK ho)
 l3:H a3=some (.dK ow)
 l4:H a4=some (.dK se)
 l5:H a5=some (.dK br)
def bT.same{x a1 a2 a3 a4 a5:Addr}{se br:List 0x45}(k:bT C H x dx a1 a2 a3 a4 a5 lo ho ow se br)(s:Same H H'):bT C H' x dx a1 a2 a3 a4 a5 lo ho ow se br:=⟨s _ _ k.o,s _ _ k.l1,s _ _ k.l2,s _ _ k.l3,s _ _ k.l4,s _ _ k.l5⟩
structure xO(a1 a2 a3 a4 a5:Addr):Prop where
 n12:a1≠a2
 n13:a1≠a3
 n14:a1≠a4
 n15:a1≠a5
 n23:a2≠a3
 n24:a2≠a4
 n25:a2≠a5
 n34:a3≠a4
 n35:a3≠a5
 n45:a4≠a5
inductive Ch(lo:List 0x45):Str->List Str->Prop
 |crown {e:Str}:bH lo 0x15=some .non->Ch lo e [e]
 |up {e p:Str}{l:List Str}:bH lo 0x15=some (.str p)->Ch lo p l->Ch lo e (e::l)
def gn{e:Str}(h:H a=some 0x18)(hv:bH kvs 0x15=some v):fP H a (V.str e) 0x8B:=by
 have:=fP.k (k:=.inr e) h;rw[hv]at this;exact this
inductive rH(C:Addr)(vs:List V)(H:Hp)(Q:VK)(cP:XK):Prop
 |mk(x dx a1 a2 a3 a4 a5:Addr)(lo ho ow se br:List 0x20)(e:Str)(_:vs=[.ref x,.str e])(_:bT C H x dx a1 a2 a3 a4 a5 lo ho ow se br)(_:Q (.bl (bH lo 0x15).isSome) H):rH C vs H Q cP
inductive gP(C:Addr)(vs:List V)(H:Hp)(Q:VK)(cP:XK):Prop
 |mk(x dx a1 a2 a3 a4 a5:Addr)(lo ho ow se br:List 0x20)(e:Str)(_:vs=[.ref x,.str e])(_:bT C H x dx a1 a2 a3 a4 a5 lo ho ow se br)(_:(bH lo 0x15).isSome=true)(_:Q .non H):gP C vs H Q cP
inductive pH(C:Addr)(vs:List V)(H:Hp)(Q:VK)(cP:XK):Prop
 |mk(x dx a1 a2 a3 a4 a5:Addr)(lo ho ow se br:List 0x20)(e:Str)(v:V)(_:vs=[.ref x,.str e])(_:bT C H x dx a1 a2 a3 a4 a5 lo ho ow se br)(_:(bH lo 0x15).isSome=true)(_:bH ho 0x15=some v)(_:Q v H):pH C vs H Q cP
inductive Ce(C:Addr)(vs:List V)(H:Hp)(Q:VK)(cP:XK):Prop
 |mk(x dx a1 a2 a3 a4 a5:Addr)(lo ho ow se br:List 0x20)(e:Str)(v:V)(_:vs=[.ref x,.str e])(_:bT C H x dx a1 a2 a3 a4 a5 lo ho ow se br)(_:(bH lo 0x15).isSome=true)(_:bH lo 0x15=some v)(_:Q v H):Ce C vs H Q cP
inductive Kv(C:Addr)(vs:List V)(H:Hp)(Q:VK)(cP:XK):Prop
 |mk(x dx a1 a2 a3 a4 a5:Addr)(lo ho ow se br:List 0x20)(e:Str)(v:V)(_:vs=[.ref x,.str e])(_:bT C H x dx a1 a2 a3 a4 a5 lo ho ow se br)(_:(bH lo 0x15).isSome=true)(_:bH ow 0x15=some v)(_:Q v H):Kv C vs H Q cP
inductive qw(C:Addr)(vs:List V)(H:Hp)(Q:VK)(cP:XK):Prop
 |mk(x dx a1 a2 a3 a4 a5:Addr)(lo ho ow se br:List 0x20)(e:Str)(v:V)(_:vs=[.ref x,.str e])(_:bT C H x dx a1 a2 a3 a4 a5 lo ho ow se br)(_:(bH lo 0x15).isSome=true)(_:bH br 0x15=some v)(_:Q v H):qw C vs H Q cP
inductive qy(C:Addr)(vs:List V)(H:Hp)(Q:VK)(cP:XK):Prop
 |mk(x dx a1 a2 a3 a4 a5:Addr)(lo ho ow se br:List 0x20)(e:Str)(v:V)(_:vs=[.ref x,.str e])(_:bT C H x dx a1 a2 a3 a4 a5 lo ho ow se br)(_:(bH lo 0x15).isSome=true)(_:bH se 0x15=some v)(_:Q v H):qy C vs H Q cP
inductive rJ(C:Addr)(vs:List V)(H:Hp)(Q:VK)(cP:XK):Prop
 |mk(x dx a1 a2 a3 a4 a5:Addr)(lo ho ow se br:List 0x20)(e:Str)(l:List Str)(_:vs=[.ref x,.str e])(_:bT C H x dx a1 a2 a3 a4 a5 lo ho ow se br)(_:(bH lo 0x15).isSome=true)(_:Ch lo e l)(_:l.length<=1000)(_:∀r H',Same H H'->H r=none->H' r=some (.lst (l.map V.str))->Q 0x6E H'):rJ C vs H Q cP
inductive tM(C:Addr)(vs:List V)(H:Hp)(Q:VK)(cP:XK):Prop
 |mk(x dx a1 a2 a3 a4 a5:Addr)(lo ho ow se br:List 0x20)(e man:Str)(_:vs=[.ref x,.str e,.str man])(_:bT C H x dx a1 a2 a3 a4 a5 lo ho ow se br)(_:ho.length<=900)(_:Q .non (upd H a2 (.dK (putK ho 0x15 (.str man))))):tM C vs H Q cP
def qz(H:Hp)(a1 a2 a3 a4 a5:Addr)(lo ho ow se br:List 0x45)(n:Str)(lord holder:Str)(acres:Int)(t:Addr):Hp:=
 upd (upd (upd (upd (upd H a1 (.dK (putK lo 0x21 (.str lord)))) a2 (.dK (putK ho 0x21 (.str holder)))) a3 (.dK (putK ow 0x21 (.int acres)))) a4 (.dK (putK se 0x21 0x72))) a5 (.dK (putK br 0x21 (.int acres)))
inductive Fq(C:Addr)(vs:List V)(H:Hp)(Q:VK)(cP:XK):Prop
 |mk(x dx a1 a2 a3 a4 a5:Addr)(lo ho ow se br:List 0x20)(n lord holder:Str)(acres:Int)(t:Addr)(_:vs=[.ref x,.str n,.str lord,.str holder,.int acres,.ref t])(_:bT C H x dx a1 a2 a3 a4 a5 lo ho ow se br)(_:xO a1 a2 a3 a4 a5)(_:lo.length<=900)(_:ho.length<=900)(_:ow.length<=900)(_:se.length<=900)(_:br.length<=900)(_:Q .non (qz H a1 a2 a3 a4 a5 lo ho ow se br n lord holder acres t)):Fq C vs H Q cP
section
def Qk:aX A5c A5c (aH BR):=0x0
def Kw(T:eO K C)(F:gF K "there" "Land.there" BR f fd):aP P w K mg base bV 1 f fd A5c (rH C):=by
 refine F.ok Qk 0x3 0x5;obtain⟨x,dx,a1,a2,a3,a4,a5,lo,ho,ow,se,br,e,rfl,L,k⟩:=h;refine⟨_,aF (bh (Jp (Vi 0x17 0xE 0x1C) 0x13)),?_⟩;exact⟨_,rfl,_,rfl,x,C,dx,_,_,rfl,L.o,T.cl,T.n1,rfl,a1,_,rfl,fP.k (k:=.inr e) L.l1,k⟩
def Ky:aX A5c A5c (aH Cd):=0x0
def HX(T:eO K C)(F:gF K "check_there" "Land.check_there" Cd f fd)(G1:aP P w K mg base bV 1 g1 d1 A5c (rH C))(m1:Meth K C "there" g1)(b1:Binds K d1 A5c []):aP P w K mg base bV 2 f fd A5c (gP C):=by
 refine F.ok Ky 0x3 0x5;obtain⟨x,dx,a1,a2,a3,a4,a5,lo,ho,ow,se,br,e,rfl,L,he,k⟩:=h;refine⟨_,aF (bM (fL (dg 0x26)) bR aV),?_⟩;refine⟨_,rfl,x,dx,_,rfl,L.o,rfl,_,rfl,x,dx,a1,a2,a3,a4,a5,lo,ho,ow,se,br,e,rfl,L,_,rfl,?_⟩;rw[he];exact bZ k
def Kz:aX A5c A5c (aH xJ):=0x0
def HY(T:eO K C)(F:gF K "holder" "Land.holder" xJ f fd)(G1:aP P w K mg base bV 2 g1 d1 A5c (gP C))(m1:Meth K C "check_there" g1)(b1:Binds K d1 A5c []):aP P w K mg base bV 3 f fd A5c (pH C):=by
 refine F.ok Kz 0x3 0x5;obtain⟨x,dx,a1,a2,a3,a4,a5,lo,ho,ow,se,br,e,v,rfl,L,he,hv,k⟩:=h;refine⟨_,aq (bJ 0x26) (aF (bh 0x3C)),?_⟩;refine⟨_,rfl,x,dx,_,rfl,L.o,rfl,_,rfl,x,dx,a1,a2,a3,a4,a5,lo,ho,ow,se,br,e,rfl,L,he,?_⟩;exact⟨_,rfl,x,C,dx,_,_,rfl,L.o,T.cl,T.n2,rfl,_,rfl,_,v,rfl,gn L.l2 hv,k⟩
def Vq:aX A5c A5c (aH Kr):=0x0
def Ql(T:eO K C)(F:gF K "lord" "Land.lord" Kr f fd)(G1:aP P w K mg base bV 2 g1 d1 A5c (gP C))(m1:Meth K C "check_there" g1)(b1:Binds K d1 A5c []):aP P w K mg base bV 3 f fd A5c (Ce C):=by
 refine F.ok Vq 0x3 0x5;obtain⟨x,dx,a1,a2,a3,a4,a5,lo,ho,ow,se,br,e,v,rfl,L,he,hv,k⟩:=h;refine⟨_,aq (bJ 0x26) (aF (bh 0x3C)),?_⟩;refine⟨_,rfl,x,dx,_,rfl,L.o,rfl,_,rfl,x,dx,a1,a2,a3,a4,a5,lo,ho,ow,se,br,e,rfl,L,he,?_⟩;exact⟨_,rfl,x,C,dx,_,_,rfl,L.o,T.cl,T.n1,rfl,_,rfl,_,v,rfl,gn L.l1 hv,k⟩
def Zr:aX A5c A5c (aH Vo):=0x0
def Vr(T:eO K C)(F:gF K "own" "Land.own" Vo f fd)(G1:aP P w K mg base bV 2 g1 d1 A5c (gP C))(m1:Meth K C "check_there" g1)(b1:Binds K d1 A5c []):aP P w K mg base bV 3 f fd A5c (Kv C):=by
 refine F.ok Zr 0x3 0x5;obtain⟨x,dx,a1,a2,a3,a4,a5,lo,ho,ow,se,br,e,v,rfl,L,he,hv,k⟩:=h;refine⟨_,aq (bJ 0x26) (aF (bh 0x3C)),?_⟩;refine⟨_,rfl,x,dx,_,rfl,L.o,rfl,_,rfl,x,dx,a1,a2,a3,a4,a5,lo,ho,ow,se,br,e,rfl,L,he,?_⟩;exact⟨_,rfl,x,C,dx,_,_,rfl,L.o,T.cl,T.n3,rfl,_,rfl,_,v,rfl,gn L.l3 hv,k⟩
def Ia:aX A5c A5c (aH tH):=0x0
def Cg(T:eO K C)(F:gF K "breadth" "Land.breadth" tH f fd)(G1:aP P w K mg base bV 2 g1 d1 A5c (gP C))(m1:Meth K C "check_there" g1)(b1:Binds K d1 A5c []):aP P w K mg base bV 3 f fd A5c (qw C):=by
 refine F.ok Ia 0x3 0x5;obtain⟨x,dx,a1,a2,a3,a4,a5,lo,ho,ow,se,br,e,v,rfl,L,he,hv,k⟩:=h;refine⟨_,aq (bJ 0x26) (aF (bh 0x3C)),?_⟩;refine⟨_,rfl,x,dx,_,rfl,L.o,rfl,_,rfl,x,dx,a1,a2,a3,a4,a5,lo,ho,ow,se,br,e,rfl,L,he,?_⟩;exact⟨_,rfl,x,C,dx,_,_,rfl,L.o,T.cl,T.n5,rfl,_,rfl,_,v,rfl,gn L.l5 hv,k⟩
def Ib:aX A5c A5c (aH tK):=0x0
def Ci(T:eO K C)(F:gF K "service" "Land.service" tK f fd)(G1:aP P w K mg base bV 2 g1 d1 A5c (gP C))(m1:Meth K C "check_there" g1)(b1:Binds K d1 A5c []):aP P w K mg base bV 3 f fd A5c (qy C):=by
 refine F.ok Ib 0x3 0x5;obtain⟨x,dx,a1,a2,a3,a4,a5,lo,ho,ow,se,br,e,v,rfl,L,he,hv,k⟩:=h;refine⟨_,aq (bJ 0x26) (aF (bh 0x3C)),?_⟩;refine⟨_,rfl,x,dx,_,rfl,L.o,rfl,_,rfl,x,dx,a1,a2,a3,a4,a5,lo,ho,ow,se,br,e,rfl,L,he,?_⟩;exact⟨_,rfl,x,C,dx,_,_,rfl,L.o,T.cl,T.n4,rfl,_,rfl,_,v,rfl,gn L.l4 hv,k⟩
def xP:aX ["self","estate","row"] A5c (aH BW):=0x0
def KC(T:eO K C)(F:gF K "chain" "Land.chain" BW f fd)(G1:aP P w K mg base bV 2 g1 d1 A5c (gP C))(m1:Meth K C "check_there" g1)(b1:Binds K d1 A5c []):aP P w K mg base bV 3 f fd A5c (rJ C):=by
 refine F.ok xP 0x3 0x5;obtain⟨x,dx,a1,a2,a3,a4,a5,lo,ho,ow,se,br,e,l,rfl,L,he,hc,hl,k⟩:=h;refine⟨_,aq (bJ 0x26)
  (aq (aW (i:=2) xP.nd rfl 0x9 (dZ aC))
  (aq (lR A0M (aQ Eh 0xE rZ 0x7C)
   (aq (bJ (jD A0J A0R A0S cX 0x37 0x4D))
   (aF (aW (i:=1) xP.nd rfl 0x9 0x3C))))
  (aF (bh 0x37)))),?_⟩
 refine⟨_,rfl,x,dx,_,rfl,L.o,rfl,_,rfl,x,dx,a1,a2,a3,a4,a5,lo,ho,ow,se,br,e,rfl,L,he,?_⟩;refine⟨small 0x8,fun r hr0=>?_⟩;refine⟨fun m σ Hx=>∃(l0 l1:List Str)(cur:V),m=l1.length/\l=l0++l1/\σ=[some (.ref x),some cur,some 0x6E]/\Same H Hx/\Hx r=some (.lst (l0.map V.str))/\((cur=.non/\l1=[])\/∃y,cur=.str y/\Ch lo y l1),
  ⟨_,[],l,.str e,rfl,rfl,rfl,aJ hr0 _,ao,.inr ⟨e,rfl,hc⟩⟩,?_⟩
 rintro m σ Hx ⟨l0,l1,cur,rfl,hl0,rfl,sx,rx,hcur⟩;have Lx:=L.same sx;rcases hcur with⟨rfl,rfl⟩|⟨y,rfl,hy⟩
 ·refine⟨_,rfl,rfl,_,rfl,bZ ?_⟩;rw[A2h]at hl0;subst hl0;exact⟨_,rfl,k r Hx sx hr0 rx⟩
 ·refine⟨_,rfl,rfl,_,rfl,dJ ?_⟩;have step:∀(l2:List Str)(nx:V),l1=y::l2->bH lo (.inr y)=some nx->((nx=.non/\l2=[])\/∃z,nx=.str z/\Ch lo z l2)->_:=fun l2 nx e1 e2 e3=>(⟨e1,e2,e3⟩:l1=y::l2/\bH lo (.inr y)=some nx/\((nx=.non/\l2=[])\/∃z,nx=.str z/\Ch lo z l2));obtain⟨l2,nx,e1,e2,e3⟩:∃l2 nx,l1=y::l2/\bH lo (.inr y)=some nx/\((nx=.non/\l2=[])\/∃z,nx=.str z/\Ch lo z l2):=by
   cases hy with
   |crown h=>exact⟨[],.non,rfl,h,.inl ⟨rfl,rfl⟩⟩
   |up h hc=>exact⟨_,_,rfl,h,.inr ⟨_,rfl,hc⟩⟩
  subst e1;refine⟨fun σ' H'=>∃(l0' l1':List Str)(cur:V),l1'.length<(y::l2).length/\l=l0'++l1'/\σ'=[some (.ref x),some cur,some 0x6E]/\Same H H'/\H' r=some (.lst (l0'.map V.str))/\((cur=.non/\l1'=[])\/∃y,cur=.str y/\Ch lo y l1'),
   fun σ' H' ⟨l0',l1',cur,q1,q⟩=>⟨_,q1,l0',l1',cur,rfl,q⟩,?_⟩
  have hll:l0.length+(l2.length+1)=l.length:=by rw[hl0,lG,rT]
  refine⟨_,rfl,.inl ⟨rfl,_,bF.of rx⟩,_,rfl,r,_,_,rfl,rfl,rx,0x7F,?_⟩;have s2:=bC sx hr0 (o:=.lst (l0.map V.str++[V.str y]));refine⟨_,rfl,x,C,dx,_,_,rfl,s2 _ _ L.o,T.cl,T.n1,rfl,_,rfl,_,nx,rfl,gn (s2 _ _ L.l1) e2,?_⟩;exact⟨l0++[y],l2,nx,by simp,by rw[hl0];simp,rfl,s2,by rw[ao,lN];rfl,e3⟩
def KH:aX ["self","estate","man"] ["self","estate","man"] (aH xM):=0x0
def Ie(T:eO K C)(F:gF K "convey" "Land.convey" xM f fd):aP P w K mg base bV 1 f fd ["self","estate","man"] (tM C):=by
 refine F.ok KH 0x3 0x5;obtain⟨x,dx,a1,a2,a3,a4,a5,lo,ho,ow,se,br,e,man,rfl,L,hl,k⟩:=h;refine⟨_,aF (eY 0x17 0x1C 0xE 0x37 rfl),?_⟩;exact⟨_,rfl,_,rfl,x,C,dx,_,_,rfl,L.o,T.cl,T.n2,rfl,_,rfl,a2,_,rfl,gY.k (k:=.inr e) L.l2 (bO 0x1),k⟩
def Zt:aX A5m A5m (aH Vp):=0x0
def Vs(T:eO K C)(F:gF K "add_estate" "Land.add_estate" Vp f fd):aP P w K mg base bV 1 f fd A5m (Fq C):=by
 refine F.ok Zt 0x3 0x5;obtain⟨x,dx,a1,a2,a3,a4,a5,lo,ho,ow,se,br,n,lord,holder,acres,t,rfl,L,ap,e1,e2,e3,e4,e5,k⟩:=h;refine⟨_,aq (eY 0x17 0x1C 0xE 0x37 rfl) (aq (eY 0x17 0x1C 0xE 0x70 rfl) (aq (eY 0x17 0x1C 0xE (pv 4) rfl)
  (aq (eY 0x17 0x1C 0xE (pv 5) rfl) (aF (eY 0x17 0x1C 0xE (pv 4) rfl))))),?_⟩
 have x1:=bB L.o L.l1 0xD;have x2:=bB L.o L.l2 0xD;have x3:=bB L.o L.l3 0xD;have x4:=bB L.o L.l4 0xD;refine⟨_,rfl,_,rfl,x,C,dx,_,_,rfl,L.o,T.cl,T.n1,rfl,_,rfl,a1,_,rfl,gY.k (k:=.inr n) L.l1 (bO 0x1),?_⟩;refine⟨_,rfl,_,rfl,x,C,dx,_,_,rfl,by rw[ak x1];exact L.o,T.cl,T.n2,rfl,_,rfl,a2,_,rfl,gY.k (k:=.inr n) (by rw[ak (A0k ap.n12)];exact L.l2) (bO 0x1),?_⟩;refine⟨_,rfl,_,rfl,x,C,dx,_,_,rfl,by rw[ak x2,ak x1];exact L.o,T.cl,T.n3,rfl,_,rfl,a3,_,rfl,gY.k (k:=.inr n) (by rw[ak (A0k ap.n23),ak (A0k ap.n13)];exact L.l3) (bO 0x1),?_⟩;refine⟨_,rfl,_,rfl,x,C,dx,_,_,rfl,by rw[ak x3,ak x2,ak x1];exact L.o,T.cl,T.n4,rfl,_,rfl,a4,_,rfl,gY.k (k:=.inr n) (by rw[ak (A0k ap.n34),ak (A0k ap.n24),ak (A0k ap.n14)];exact L.l4) (bO 0x1),?_⟩;exact⟨_,rfl,_,rfl,x,C,dx,_,_,rfl,by rw[ak x4,ak x3,ak x2,ak x1];exact L.o,T.cl,T.n5,rfl,_,rfl,a5,_,rfl,gY.k (k:=.inr n) (by rw[ak (A0k ap.n45),ak (A0k ap.n35),ak (A0k ap.n25),ak (A0k ap.n15)];exact L.l5) (bO 0x1),k⟩
open PyProof.Rows
def iz(kv:Key×V):Str:=match kv.1 with
 | .inr s=>s
 | .inl _=>""
def TK(kvs:List 0x45):Prop:=∀kv∈kvs,kV kv.1=V.str (iz kv)
def TV(kvs:List 0x45):Prop:=∀kv∈kvs,kv.2=.non\/∃s,kv.2=.str s
def jm{p:Key×V->Bool}{kv:Key×V}(h:kvs[i]?=some kv):((kvs.take (i+1)).filter p).map (fun kv=>V.str (iz kv))=((kvs.take i).filter p).map (fun kv=>V.str (iz kv))++(if p kv=true then[V.str (iz kv)]else[]):=by
 rw[A1S,h,A4k,lN]
 congr 1
 cases e:p kv<;>simp[e]
def tO{p:Key×V->Bool}(h:kvs.length<=n):(((kvs.take i).filter p).map (fun kv=>V.str (iz kv))).length<=n:=by
 rw[bY];have:=A0s p (kvs.take i);rw[A0T]at this;lia
def strs_map(l:List 0x45):l.map (fun kv=>V.str (iz kv))=(l.map iz).map V.str:=by rw[A0N];rfl
def dU{y:Str}:decide (V.str x=V.str y)=decide (x=y):=A3h.mpr ⟨fun e=>by injection e,fun e=>by rw[e]⟩
inductive mY(C:Addr)(vs:List V)(H:Hp)(Q:VK)(cP:XK):Prop
 |mk(x dx a1 a2 a3 a4 a5:Addr)(lo ho ow se br:List (Prod L2.Key V))(_:vs=[.ref x])(_:bT C H x dx a1 a2 a3 a4 a5 lo ho ow se br)(_:TK lo)(_:lo.length<64)(_:∀r ss H',Same H H'->H r=none->H' r=some 0x8E->ss.Perm ((lo.filter fun kv=>!decide (iz kv="")).map iz)->sortedS ss=true->Q 0x6E H'):mY C vs H Q cP
inductive xQ(C:Addr)(vs:List V)(H:Hp)(Q:VK)(cP:XK):Prop
 |mk(x dx a1 a2 a3 a4 a5:Addr)(lo ho ow se br:List (Prod L2.Key V))(man:Str)(_:vs=[.ref x,.str man])(_:bT C H x dx a1 a2 a3 a4 a5 lo ho ow se br)(_:TK ho)(_:TV ho)(_:ho.length<64)(_:∀r ss H',Same H H'->H r=none->H' r=some 0x8E->ss.Perm ((ho.filter fun kv=>decide (kv.2=.str man)).map iz)->sortedS ss=true->Q 0x6E H'):xQ C vs H Q cP
inductive pI(C:Addr)(vs:List V)(H:Hp)(Q:VK)(cP:XK):Prop
 |mk(x dx a1 a2 a3 a4 a5:Addr)(lo ho ow se br:List (Prod L2.Key V))(e:Str)(_:vs=[.ref x,.str e])(_:bT C H x dx a1 a2 a3 a4 a5 lo ho ow se br)(_:(bH lo 0x15).isSome=true)(_:TK lo)(_:TV lo)(_:lo.length<64)(_:∀r ss H',Same H H'->H r=none->H' r=some 0x8E->ss.Perm ((lo.filter fun kv=>decide (kv.2=.str e)).map iz)->sortedS ss=true->Q 0x6E H'):pI C vs H Q cP
def Zu:aX A5J A5J (aH pG):=0x0
def scE1:Scope:={kind:=.function,names:=[0x40,("name",.local),("CROWN",.globalImplicit)],isGenerator:=false,isCoroutine:=false}
def csE1:cM A5J (aH pG) scE1 ["name"] [] []:=0x7
def ndE1:((["name"]:List Str)++([]:List Str)).Nodup:=by decide+kernel
def jV{Hz:Hp}{o:Obj}(h:H a=some 0x18)(s:Same (upd H a 0x3B) Hz):Same H (upd Hz a 0x18):=fun b u q=>by
 by_cases e:b=a
 ·subst e;rw[h]at q;cases q;exact ao
 ·rw[ak e];exact s b u (by rw[ak e];exact q)
def Cj(T:eO K C){tc:Tok}(mC:mg "CROWN"=some (.str "" tc))(ms:mg "sorted"=none)(F:gF K "estates" "Land.estates" pG f fd):aP P w K mg base bV 1 f fd A5J (mY C):=by
 refine F.ok Zu 0x3 0x5;obtain⟨x,dx,a1,a2,a3,a4,a5,lo,ho,ow,se,br,rfl,L,tk,hl,k⟩:=h;refine⟨_,aF (bh (aY dw rfl ms fB (aj (o9 (gj rfl csE1 (mX 0x1C) (fun s H fp C'=>⟨bf (i:=0) ndE1 rfl 0x9,fM (aQ lD 0x11 0x62 0x7C),pv 0⟩))) aC))),?_⟩;have nx:=bB L.o L.l1 0xD;refine⟨a1,lo,L.l1,fun o=>⟨_,rfl,x,C,dx,_,_,rfl,by rw[ak nx];exact L.o,T.cl,T.n1,rfl,a1,o,lo,rfl,ao,fun D hD=>?_⟩⟩;have nD:a1≠D:=aA (show(upd H a1 (.gD o (.dK lo))) a1=some (.gD o (.dK lo))from ao) hD
 have Yd:H D=none:=by rw[ak (A0k nD)]at hD;exact hD
 refine vM (o:=o) (fun i ys Hz=>ys=((lo.take i).filter fun kv=>!decide (iz kv="")).map (fun kv=>V.str (iz kv))/\Same (upd H a1 (.gD o (.dK lo))) Hz/\Hz D=some 0x57) (fun i ys Hz h=>h.2.1 _ _ ao) ⟨rfl,aJ hD _,ao⟩ (fun i ys Hz h=>h.2.2) ?_ ?_
 ·rintro i ys Hz kv hkv ⟨rfl,sz,gJ⟩;rw[tk kv (oF hkv)];refine⟨Kp.set rfl 0x39,?_⟩;refine⟨_,rfl,rfl,_,rfl,?_⟩;rw[dU];refine gA 0x24 0x24
  ·refine⟨_,rfl,gJ,A0Q (tO (A1O hl)) 0x6,?_,bC sz hD,ao⟩;rw[jm hkv,A0i c]
  ·refine⟨?_,sz,gJ⟩;rw[jm hkv,A0f c,A2h]
 ·rintro ys Hz ⟨rfl,sz,gJ⟩;rw[A1x]at gJ;refine⟨sz _ _ ao,?_⟩;have s2:=jV L.l1 sz;have hDt:(upd Hz a1 (.dK lo)) D=some (.lst (((lo.filter fun kv=>!decide (iz kv="")).map iz).map V.str)):=by rw[ak (A0k nD),gJ,strs_map]
  refine⟨D,_,rfl,bF.of hDt,?_,fun l ss hl0 hp hs=>?_⟩
  ·rw[bY];exact A0Q (A0s _ _) hl
  ·exact k l ss _ (bC s2 (s2.free hl0)) (s2.free hl0) ao hp hs
def Vt:aX ["self","man"] ["self","man"] (aH Fo):=0x0
def Zv:Scope:={kind:=.function,names:=[0x40,("name",.local),("holder",.local),("man",.free)],isGenerator:=false,isCoroutine:=false}
def Zw:cM ["self","man"] (aH Fo) Zv ["name","holder"] ["man"] [1]:=0x7
def Tp:((["name","holder"]:List Str)++(["man"]:List Str)).Nodup:=by decide+kernel
def xR{α:Type}{g:Key×V->α}{d:α}{kv:Key×V}(h:kvs[i]?=some kv):(kvs.map g).getD i d=g kv:=by rw[qN,lJ,h];rfl
def Qo(T:eO K C)(ms:mg "sorted"=none)(F:gF K "held" "Land.held" Fo f fd):aP P w K mg base bV 1 f fd ["self","man"] (xQ C):=by
 refine F.ok Vt 0x3 0x5;obtain⟨x,dx,a1,a2,a3,a4,a5,lo,ho,ow,se,br,man,rfl,L,tk,tv,hl,k⟩:=h;refine⟨_,aF (bh (aY dw rfl ms fB (aj (o9 (gj rfl Zw (zH 0x1C) (fun s H fp C'=>⟨rG (K:=K) (n:=2) rfl (cg (bf (i:=0) Tp rfl 0x9) (cg (bf (i:=1) Tp rfl 0x9) iG)),fM (aQ cU 0xE 0x37 0x7C),pv 0⟩))) aC))),?_⟩;have nx:=bB L.o L.l2 0xD;refine⟨a2,ho,L.l2,fun o=>⟨_,rfl,x,C,dx,_,_,rfl,by rw[ak nx];exact L.o,T.cl,T.n2,rfl,a2,o,ho,rfl,ao,fun D hD=>?_⟩⟩;have nD:a2≠D:=aA (show(upd H a2 (.gD o (.dK ho))) a2=some (.gD o (.dK ho))from ao) hD
 refine oY (n:=ho.length) (fx:=fun i=>(ho.map fun kv=>kV kv.1).getD i .non) (fy:=fun i=>(ho.map fun kv=>kv.2).getD i .non) (fun i ys Hz=>ys=((ho.take i).filter fun kv=>decide (kv.2=.str man)).map (fun kv=>V.str (iz kv))/\Same (upd H a2 (.gD o (.dK ho))) Hz/\Hz D=some 0x57)
  (fun i ys Hz h=>qR (h.2.1 _ _ ao)) ⟨rfl,aJ hD _,ao⟩ (fun i ys Hz h=>h.2.2) ?_ ?_
 ·rintro i ys Hz p hi ⟨rfl,sz,gJ⟩ hp;have hkv:ho[i]?=some ho[i]:=jo hi;rw[xR hkv,xR hkv];have hm:=A1Z hi;rw[tk _ hm];have npD:D≠p:=aA gJ hp;have sp:=aJ hp (.tup [V.str (iz ho[i]),(ho[i]).2]);refine⟨p,_,rfl,bI.of ao,rfl,_,_,rfl,_,_,rfl,rfl,Kp.set rfl (Kp.set rfl 0x39),?_⟩;have hsc:Jz (ho[i]).2 (V.str man)=true:=by
   rcases tv _ hm with e|⟨z,e⟩<;>rw[e]<;>rfl
  refine⟨_,rfl,_,rfl,hsc,_,rfl,?_⟩;refine gA 0x24 0x24
  ·refine⟨_,rfl,sp _ _ gJ,A0Q (tO (A1O hl)) 0x6,?_,bC (sz.trans sp) hD,ao⟩;rw[jm hkv,A0i c]
  ·refine⟨?_,sz.trans sp,sp _ _ gJ⟩;rw[jm hkv,A0f c,A2h]
 ·rintro ys Hz ⟨rfl,sz,gJ⟩;rw[A1x]at gJ;refine⟨sz _ _ ao,?_⟩;have s2:=jV L.l2 sz;have hDt:(upd Hz a2 (.dK ho)) D=some (.lst (((ho.filter fun kv=>decide (kv.2=.str man)).map iz).map V.str)):=by rw[ak (A0k nD),gJ,strs_map]
  refine⟨D,_,rfl,bF.of hDt,?_,fun l ss hl0 hp hs=>?_⟩
  ·rw[bY];exact A0Q (A0s _ _) hl
  ·exact k l ss _ (bC s2 (s2.free hl0)) (s2.free hl0) ao hp hs
def scUn:aX A5c A5c (aH xK):=0x0
def Zx:Scope:={kind:=.function,names:=[0x40,("name",.local),("lord",.local),("estate",.free)],isGenerator:=false,isCoroutine:=false}
def Zy:cM A5c (aH xK) Zx ["name","lord"] ["estate"] [1]:=0x7
def Tq:((["name","lord"]:List Str)++(["estate"]:List Str)).Nodup:=by decide+kernel
def KJ(T:eO K C)(ms:mg "sorted"=none)(F:gF K "under" "Land.under" xK f fd)(G1:aP P w K mg base bV 2 g1 d1 A5c (gP C))(m1:Meth K C "check_there" g1)(b1:Binds K d1 A5c []):aP P w K mg base bV 3 f fd A5c (pI C):=by
 refine F.ok scUn 0x3 0x5;obtain⟨x,dx,a1,a2,a3,a4,a5,lo,ho,ow,se,br,man,rfl,L,he,tk,tv,hl,k⟩:=h;refine⟨_,aq (bJ 0x26) (aF (bh (aY dw rfl ms fB (aj (o9 (gj rfl Zy (zH 0x1C) (fun s H fp C'=>⟨rG (K:=K) (n:=2) rfl (cg (bf (i:=0) Tq rfl 0x9) (cg (bf (i:=1) Tq rfl 0x9) iG)),fM (aQ cU 0xE 0x37 0x7C),pv 0⟩))) aC)))),?_⟩;refine⟨_,rfl,x,dx,_,rfl,L.o,rfl,_,rfl,x,dx,a1,a2,a3,a4,a5,lo,ho,ow,se,br,man,rfl,L,he,?_⟩;have nx:=bB L.o L.l1 0xD;refine⟨a1,lo,L.l1,fun o=>⟨_,rfl,x,C,dx,_,_,rfl,by rw[ak nx];exact L.o,T.cl,T.n1,rfl,a1,o,lo,rfl,ao,fun D hD=>?_⟩⟩;have nD:a1≠D:=aA (show(upd H a1 (.gD o (.dK lo))) a1=some (.gD o (.dK lo))from ao) hD
 refine oY (n:=lo.length) (fx:=fun i=>(lo.map fun kv=>kV kv.1).getD i .non) (fy:=fun i=>(lo.map fun kv=>kv.2).getD i .non) (fun i ys Hz=>ys=((lo.take i).filter fun kv=>decide (kv.2=.str man)).map (fun kv=>V.str (iz kv))/\Same (upd H a1 (.gD o (.dK lo))) Hz/\Hz D=some 0x57)
  (fun i ys Hz h=>qR (h.2.1 _ _ ao)) ⟨rfl,aJ hD _,ao⟩ (fun i ys Hz h=>h.2.2) ?_ ?_
 ·rintro i ys Hz p hi ⟨rfl,sz,gJ⟩ hp;have hkv:lo[i]?=some lo[i]:=jo hi;rw[xR hkv,xR hkv];have hm:=A1Z hi;rw[tk _ hm];have npD:D≠p:=aA gJ hp;have sp:=aJ hp (.tup [V.str (iz lo[i]),(lo[i]).2]);refine⟨p,_,rfl,bI.of ao,rfl,_,_,rfl,_,_,rfl,rfl,Kp.set rfl (Kp.set rfl 0x39),?_⟩;have hsc:Jz (lo[i]).2 (V.str man)=true:=by
   rcases tv _ hm with e|⟨z,e⟩<;>rw[e]<;>rfl
  refine⟨_,rfl,_,rfl,hsc,_,rfl,?_⟩;refine gA 0x24 0x24
  ·refine⟨_,rfl,sp _ _ gJ,A0Q (tO (A1O hl)) 0x6,?_,bC (sz.trans sp) hD,ao⟩;rw[jm hkv,A0i c]
  ·refine⟨?_,sz.trans sp,sp _ _ gJ⟩;rw[jm hkv,A0f c,A2h]
 ·rintro ys Hz ⟨rfl,sz,gJ⟩;rw[A1x]at gJ;refine⟨sz _ _ ao,?_⟩;have s2:=jV L.l1 sz;have hDt:(upd Hz a1 (.dK lo)) D=some (.lst (((lo.filter fun kv=>decide (kv.2=.str man)).map iz).map V.str)):=by rw[ak (A0k nD),gJ,strs_map]
  refine⟨D,_,rfl,bF.of hDt,?_,fun l ss hl0 hp hs=>?_⟩
  ·rw[bY];exact A0Q (A0s _ _) hl
  ·exact k l ss _ (bC s2 (s2.free hl0)) (s2.free hl0) ao hp hs
inductive jF(C:Addr)(vs:List V)(H:Hp)(Q:VK)(cP:XK):Prop
 |mk(x dx a1 a2 a3 a4 a5:Addr)(lo ho ow se br:List 0x20)(e n man:Str)(acres service own:Int)(_:vs=[.ref x,.str e,.str n,.str man,.int acres,.int service])(_:bT C H x dx a1 a2 a3 a4 a5 lo ho ow se br)(_:xO a1 a2 a3 a4 a5)(_:bH ow 0x15=some (.int own))(_:lo.length<=900)(_:ho.length<=900)(_:ow.length<=800)(_:se.length<=900)(_:br.length<=900)(_:∀t,H t=none->Q .non (qz (upd (upd H a3 (.dK 0x1F)) t (.tup [.int service,.int 1])) a1 a2 a3 a4 a5 lo ho 0x1F se br n e man acres t)):jF C vs H Q cP
def moved(lo:List 0x45)(ss:List Str)(p:Str):List 0x45:=ss.foldl (fun acc n=>putK acc 0x21 (.str p)) lo
def tQ(lo:List 0x45)(ss:List Str)(n p:Str):moved lo (ss++[n]) p=putK (moved lo ss p) 0x21 (.str p):=by
 unfold moved;rw[A3M];rfl
def vN(lo:List 0x45)(p:Str)(ss:List Str):(moved lo ss p).length<=lo.length+ss.length:=by
 unfold moved
 induction ss generalizing lo with
 |nil=>exact A0g _
 | cons n r ih=>
  rw[A1f,rT];have h1:=ih (putK lo 0x21 (.str p));have h2:=dG lo 0x21 (.str p);lia
inductive Ck(C:Addr)(vs:List V)(H:Hp)(Q:VK)(cP:XK):Prop
 |mk(x dx a1 a2 a3 a4 a5:Addr)(lo ho ow se br:List (Prod L2.Key V))(e p:Str)(own1 xT:Int)(_:vs=[.ref x,.str e])(_:bT C H x dx a1 a2 a3 a4 a5 lo ho ow se br)(_:xO a1 a2 a3 a4 a5)(_:bH lo 0x15=some (.str p))(_:bH ow 0x15=some (.int own1))(_:bH ow (.inr p)=some (.int xT))(_:(bH ho 0x15).isSome=true)(_:(bH se 0x15).isSome=true)(_:(bH br 0x15).isSome=true)(_:TK lo)(_:TV lo)(_:lo.length<64)(_:ow.length<=800)(_:∀ss H',ss.Perm ((lo.filter fun kv=>decide (kv.2=.str e)).map iz)->(bH (moved lo ss p) 0x15).isSome=true->bT C H' x dx a1 a2 a3 a4 a5 (iQ (moved lo ss p) 0x15) (iQ ho 0x15) (iQ (putK ow (.inr p) (.int (xT+own1))) 0x15) (iQ se 0x15) (iQ br 0x15)->(∀c o,c≠a1->c≠a2->c≠a3->c≠a4->c≠a5->H c=some o->H' c=some o)->Q .non H'):Ck C vs H Q cP
def Cm{k:Key}(h:(bH lo k).isSome=true):∀ss:List Str,(bH (moved lo ss p) k).isSome=true:=by
 intro ss;unfold moved
 induction ss generalizing lo with
 |nil=>exact h
 | cons n r ih=>
  rw[A1f];refine ih ?_;rw[bD]
  by_cases q:k=.inr n
  ·rw[A0i q];rfl
  ·rw[A0f q];exact h
def Qp:aX A5j A5j (aH BZ):=0x0
def KN(T:eO K C)(F:gF K "grant" "Land.grant" BZ f fd)(G1:aP P w K mg base bV 1 g1 d1 A5m (Fq C))(m1:Meth K C "add_estate" g1)(b1:Binds K d1 A5m []):
  aP P w K mg base bV 2 f fd A5j (jF C):=by
 refine F.ok Qp 0x3 0x5;obtain⟨x,dx,a1,a2,a3,a4,a5,lo,ho,ow,se,br,e,n,man,acres,service,own,rfl,L,ap,hn,e1,e2,e3,e4,e5,k⟩:=h;refine⟨_,aq (mW 0x17 0x1C 0xE (pv 4) wN (fun _ _ _=>rfl))
  (aF (bJ (bG 0x11 T.cl m1 G1 hr b1 .nil aU (aj 0x37 (aj 0xE (aj 0x70 (aj (pv 4) (aj (cB (aj (pv 5) 0x5A)) aC)))))))),?_⟩
 refine⟨_,rfl,x,C,dx,_,_,rfl,L.o,T.cl,T.n3,rfl,_,rfl,a3,_,rfl,gn L.l3 hn,_,rfl,_,_,rfl,rfl,_,gY.k (k:=.inr e) L.l3 (bO 0x1),?_⟩;have L1:bT C (upd H a3 (.dK 0x1F)) x dx a1 a2 a3 a4 a5 lo ho 0x1F se br:=
  ⟨by rw[ak (bB L.o L.l3 0xD)];exact L.o,by rw[ak ap.n13];exact L.l1,by rw[ak ap.n23];exact L.l2,ao,by rw[ak (A0k ap.n34)];exact L.l4,by rw[ak (A0k ap.n35)];exact L.l5⟩
 refine⟨_,rfl,x,dx,_,rfl,L1.o,rfl,_,rfl,_,rfl,_,rfl,_,rfl,_,rfl,small 0x8,fun t ht=>?_⟩;have nt:t≠a3:=fun q=>by rw[q,ao]at ht;cases ht
 have ht0:H t=none:=by rw[ak nt]at ht;exact ht
 have hl:=dG ow 0x15 (.int (own-acres));exact⟨x,dx,a1,a2,a3,a4,a5,lo,ho,_,se,br,n,e,man,acres,t,rfl,L1.same (aJ ht _),ap,e1,e2,by lia,e4,e5,k t ht0⟩
def Cp:aX ["self","estate","lord","name"] A5c (aH Ks):=0x0
def Qq(T:eO K C)(F:gF K "fall_back" "Land.fall_back" Ks f fd)(G1:aP P w K mg base bV 3 g1 d1 A5c (pI C))(m1:Meth K C "under" g1)(b1:Binds K d1 A5c []):
  aP P w K mg base bV 4 f fd A5c (Ck C):=by
 refine F.ok Cp 0x3 0x5;obtain⟨x,dx,a1,a2,a3,a4,a5,lo,ho,ow,se,br,e,p,own1,xT,rfl,L,ap,hlo,ho1,ho2,hh,hse,hbr,tk,tv,hl,how,k⟩:=h;refine⟨_,aq (aW (i:=2) Cp.nd rfl 0x9 0x3C)
  (aq (mW 0x17 0x1C 0x37 0x3C JH (fun _ _ _=>rfl))
  (aq (eZ A0M rfl (eU 0x26) (bf (i:=3) Cp.nd rfl 0x9) (aF (eY 0x17 0x1C 0x70 0x37 rfl)))
  (aq (pC 0x1C 0xE) (aq (pC 0x1C 0xE) (aq (pC 0x1C 0xE) (aq (pC 0x1C 0xE) (aF (pC 0x1C 0xE)))))))),?_⟩
 refine⟨_,rfl,x,C,dx,_,_,rfl,L.o,T.cl,T.n1,rfl,_,rfl,_,_,rfl,gn L.l1 hlo,?_⟩;refine⟨_,rfl,x,C,dx,_,_,rfl,L.o,T.cl,T.n3,rfl,_,rfl,a3,_,rfl,gn L.l3 ho2,_,rfl,x,C,dx,_,_,rfl,L.o,T.cl,T.n3,rfl,_,rfl,_,_,rfl,gn L.l3 ho1,_,_,rfl,rfl,_,gY.k (k:=.inr p) L.l3 (bO 0x1),?_⟩;have L1:bT C (upd H a3 (.dK (putK ow (.inr p) (.int (xT+own1))))) x dx a1 a2 a3 a4 a5 lo ho (putK ow (.inr p) (.int (xT+own1))) se br:=
  ⟨by rw[ak (bB L.o L.l3 0xD)];exact L.o,by rw[ak ap.n13];exact L.l1,by rw[ak ap.n23];exact L.l2,ao,by rw[ak (A0k ap.n34)];exact L.l4,by rw[ak (A0k ap.n35)];exact L.l5⟩
 have fr1:∀c o,c≠a3->H c=some o->(upd H a3 (.dK (putK ow (.inr p) (.int (xT+own1))))) c=some o:=fun c o hc q=>by rw[ak hc];exact q
 have hown:(bH (putK ow (.inr p) (.int (xT+own1))) 0x15).isSome=true:=by
  rw[bD]
  by_cases q:(Sum.inr e:Key)=.inr p
  ·rw[A0i q];rfl
  ·rw[A0f q,ho1];rfl
 generalize upd H a3 (.dK (putK ow (.inr p) (.int (xT+own1))))=H1 at L1 fr1 ⊢;generalize putK ow (.inr p) (.int (xT+own1))=ow1 at L1 hown k ⊢;refine⟨_,rfl,x,dx,_,rfl,L1.o,rfl,_,rfl,x,dx,a1,a2,a3,a4,a5,lo,ho,ow1,se,br,e,rfl,L1,by rw[hlo];rfl,tk,tv,hl,fun r ss H2 s2 hr0 hr2 hp hs=>?_⟩;have hsl:ss.length<=lo.length:=by
  rw[hp.length_eq,bY];exact A0s _ _
 have L2:=L1.same s2;refine⟨r,rfl,⟨_,bF.of hr2⟩,lV (K:=K) (a:=r) (xs:=ss.map V.str) (fun i σ Hx=>(∃u3,σ=[some (.ref x),some (.str e),some (.str p),u3])/\Hx r=some 0x8E/\bT C Hx x dx a1 a2 a3 a4 a5 (moved lo (ss.take i) p) ho ow1 se br/\∀c o,c≠a1->H1 c=some o->Hx c=some o)
  ⟨⟨none,rfl⟩,hr2,L2,fun c o _ q=>s2 c o q⟩ (fun i σ Hx _ h=>bF.of h.2.1) ?_ ?_⟩
 ·rintro i v σ Hx hv ⟨⟨u3,rfl⟩,rx,Lx,fx⟩;rw[lJ]at hv;obtain⟨n,hn,rfl⟩:=A1b.mp hv;have hml:=vN lo p (ss.take i);rw[A0T]at hml;refine⟨_,rfl,_,rfl,x,C,dx,_,_,rfl,Lx.o,T.cl,T.n1,rfl,_,rfl,a1,_,rfl,gY.k (k:=.inr n) Lx.l1 (bO 0x1),?_⟩;have em:moved lo (ss.take (i+1)) p=putK (moved lo (ss.take i) p) 0x21 (.str p):=by rw[A1S,hn];exact tQ _ _ _ _
  refine⟨⟨_,rfl⟩,by rw[ak (bB rx Lx.l1 0xD)];exact rx,⟨by rw[ak (bB Lx.o Lx.l1 0xD)];exact Lx.o,by rw[em];exact ao,by rw[ak (A0k ap.n12)];exact Lx.l2,by rw[ak (A0k ap.n13)];exact Lx.l3,by rw[ak (A0k ap.n14)];exact Lx.l4,by rw[ak (A0k ap.n15)];exact Lx.l5⟩,fun c o hc q=>by rw[ak hc];exact fx c o hc q⟩
 ·rintro σ Hx ⟨⟨u3,rfl⟩,rx,Lx,fx⟩;rw[bY,A1x]at Lx;have hmv:=Cm (p:=p) (show(bH lo 0x15).isSome=true by rw[hlo];rfl) ss
  have x1:=bB Lx.o Lx.l1 0xD;have x2:=bB Lx.o Lx.l2 0xD;have x3:=bB Lx.o Lx.l3 0xD;have x4:=bB Lx.o Lx.l4 0xD;have x5:=bB Lx.o Lx.l5 0xD;refine⟨_,rfl,x,C,dx,_,_,rfl,Lx.o,T.cl,T.n1,rfl,_,rfl,a1,_,.inr e,rfl,Lx.l1,rfl,hmv,?_⟩;refine⟨_,rfl,x,C,dx,_,_,rfl,by rw[ak x1];exact Lx.o,T.cl,T.n2,rfl,_,rfl,a2,_,.inr e,rfl,by rw[ak (A0k ap.n12)];exact Lx.l2,rfl,hh,?_⟩;refine⟨_,rfl,x,C,dx,_,_,rfl,by rw[ak x2,ak x1];exact Lx.o,T.cl,T.n3,rfl,_,rfl,a3,_,.inr e,rfl,by rw[ak (A0k ap.n23),ak (A0k ap.n13)];exact Lx.l3,rfl,hown,?_⟩;refine⟨_,rfl,x,C,dx,_,_,rfl,by rw[ak x3,ak x2,ak x1];exact Lx.o,T.cl,T.n4,rfl,_,rfl,a4,_,.inr e,rfl,by rw[ak (A0k ap.n34),ak (A0k ap.n24),ak (A0k ap.n14)];exact Lx.l4,rfl,hse,?_⟩;refine⟨_,rfl,x,C,dx,_,_,rfl,by rw[ak x4,ak x3,ak x2,ak x1];exact Lx.o,T.cl,T.n5,rfl,_,rfl,a5,_,.inr e,rfl,by rw[ak (A0k ap.n45),ak (A0k ap.n35),ak (A0k ap.n25),ak (A0k ap.n15)];exact Lx.l5,rfl,hbr,?_⟩;refine k ss _ hp hmv ⟨?_,?_,?_,?_,?_,ao⟩ fun c o c1 c2 c3 c4 c5 q=>?_
  ·rw[ak x5,ak x4,ak x3,ak x2,ak x1];exact Lx.o
  ·rw[ak ap.n15,ak ap.n14,ak ap.n13,ak ap.n12,ao]
  ·rw[ak ap.n25,ak ap.n24,ak ap.n23,ao]
  ·rw[ak ap.n35,ak ap.n34,ao]
  ·rw[ak ap.n45,ao]
  ·rw[ak c5,ak c4,ak c3,ak c2,ak c1];exact fx c o c1 (fr1 c o c3 q)
end
abbrev Vu:Stmt:=top 13
abbrev KQ:Stmt:=top 11
abbrev Cq:Stmt:=top 12
abbrev KR:Stmt:=top 18
abbrev zJ:Stmt:=top 19
abbrev Vv:Stmt:=top 20
def tR(v:Int):Prop:=0<=v/\v<1000003
def xU{fs:List Int}{v:Int}(h:∀x∈fs,tR x)(hv:tR v):∀x∈fs++[v],tR x:=fun x hx=>by
 rcases A0u.mp hx with z|z
 ·exact h x z
 ·rw[A0e.mp z];exact hv
def rK(fs:List Int)(v:Int):fs.map V.int++[V.int v]=(fs++[v]).map V.int:=by simp
inductive Cr(K:W.Frag)(vs:List V)(H:Hp)(Q:VK)(cP:XK):Prop
 |mk(a:Addr)(ns:List Int)(many:Int)(_:vs=[.ref a,.int many])(_:bF K H a 0x43)(_:ns.length<=63)(_:0<=many)(_:many<=100000)(_:∀(r:Addr)(H':Hp)(fs:List Int),Same H H'->H r=none->H' r=some (.lst 0x44)->(fs.length:Int)=many->(∀v∈fs,tR v)->Q 0x6E H'):Cr K vs H Q cP
def jL:aX ["_law_script","_law_many","_law_feed_here","_law_salt","_law_cell","_law_rest","_law_k"] ["_law_script","_law_many"] (aH KR):=0x0
def Qs(F:gF K "_law_feed" "_law_feed" KR f fd)(mr:mg "range"=none)(ml:mg "len"=none):aP P w K mg base bV 1 f fd ["_law_script","_law_many"] (Cr K):=by
 refine F.ok jL 0x3 0x5;obtain⟨a,ns,many,rfl,hS,h63,hm0,hm1,k⟩:=h;refine⟨_,aq (aW (i:=2) jL.nd rfl 0x9 (dZ aC))
  (aq (aW (i:=3) jL.nd rfl 0x9 au)
  (aq (eZ A0M rfl (eU (fj jc 0x11 j9 (cW au))) (bf (i:=4) jL.nd rfl 0x9)
   (aq (aW (i:=3) jL.nd rfl 0x9 (aO bL (aO cL (aO cL (aO iU 0x70 au) (aO bL (pv 4) au)) au) au))
   (aq (aW (i:=5) jL.nd rfl 0x9 (aO nU (pv 4) (aO V4 au au)))
   (aq (bM (aQ yU (pv 5) au 0x7C)
     (aF (bJ (jD A0J A0R A0S cX 0x37 (aj (aO bL (pv 4) au) aC)))) aV)
   (aF (eZ A0M rfl 0x92 (bf (i:=6) jL.nd rfl 0x9)
    (aF (bM (aQ Ef (pv 5) au 0x7C)
     (aq (bJ (jD A0J A0R A0S cX 0x37 (aj (aO bL (pv 5) au) aC)))
     (aF (aW (i:=5) jL.nd rfl 0x9 (aO mU (pv 5) au)))) aV))))))))
  (aq (eZ A0M rfl (cT rfl mr (aj (aO nU 0xE (aY dh rfl ml A1m 0x5D)) aC)) (bf (i:=6) jL.nd rfl 0x9)
   (aq (aW (i:=3) jL.nd rfl 0x9 (aO bL (aO cL (aO cL (aO cL (aO iU (aO iU 0x70 0x70) 0x70) (aO iU au 0x70)) (aO iU au (pv 6))) au) au))
   (aF (bJ (jD A0J A0R A0S cX 0x37 (aj (aO bL (aO mU 0x70 au) au) aC))))))
  (aF (bh (fj jc 0x37 j9 (cW 0xE))))))),?_⟩
 refine⟨small 0x8,fun l hl=>?_⟩;have s1:Same H (upd H l 0x6D):=aJ hl _;refine⟨_,rfl,_,rfl,a,_,rfl,s1.seq hS,fun p hp=>?_⟩;have Zz:p≠l:=fun e=>by rw[e,ao]at hp;cases hp
 have hp0:H p=none:=by rw[ak Zz]at hp;exact hp
 refine⟨p,rfl,⟨_,bF.of ao⟩,lV (K:=K) (a:=p) (xs:=gH 0x43 none (some 63)) (fun i σ H2=>∃(fs:List Int)(salt:Int)(c r k:Option V),σ=[some 0x48,some (.int many),some (.ref l),some (.int salt),c,r,k]/\Same H H2/\
   H2 p=some (.lst (gH 0x43 none (some 63)))/\H2 l=some (.lst 0x44)/\fs.length<=61*i/\(∀v∈fs,tR v)/\0<=salt/\salt<2147483647)
  ⟨[],29,none,none,none,rfl,bC s1 hp0,ao,by rw[ak (A0k Zz),ao];rfl,A1i _,(fun v hv=>nomatch hv),by decide,by decide⟩ (fun i σ H2 _ ⟨_,_,_,_,_,_,_,hq,_⟩=>bF.of hq) ?_ ?_⟩
 ·rintro i y σ H2 hi ⟨fs,salt,c,r,kk,rfl,s2,hq,hL,hlen,hok,z0,z1⟩;have hil:i<(gH 0x43 none (some 63)).length:=(A0p.mp hi).1;have hcl:=jC 0x43 none (some 63);rw[bY]at hcl;obtain⟨cell,rfl⟩:∃z,y=V.int z:=by
   have hm:y∈gH 0x43 none (some 63):=oF hi;have hm2:y∈ns.map V.int:=A2j (A3c hm);obtain⟨z,_,rfl⟩:=A0h.mp hm2;exact⟨z,rfl⟩
  refine⟨_,rfl,_,_,rfl,rfl,.inl ⟨by lia,by lia⟩,_,rfl,_,_,rfl,rfl,(by show(0:Int)<2147483629;decide),_,_,rfl,rfl,_,_,rfl,rfl,_,_,rfl,rfl,(by show(0:Int)<2147483647;decide),?_⟩
  refine⟨_,rfl,_,_,rfl,rfl,⟨by decide,by decide,by decide⟩,_,_,rfl,rfl,?_⟩;have z0':0<=(salt*69621+cell%2147483629+11)%2147483647:=A0P _ 0x6;have z1':(salt*69621+cell%2147483629+11)%2147483647<2147483647:=A0x _ 0x6;refine⟨_,rfl,_,_,rfl,rfl,_,rfl,?_⟩;refine gA 0x24 0x24
  ·refine⟨_,rfl,.inl ⟨rfl,_,bF.of hL⟩,_,rfl,_,_,rfl,rfl,(by show(0:Int)<1000003;decide),l,_,_,rfl,rfl,hL,0x7F,?_⟩
   have hgs:∃gs:List Int,(upd H2 l (.lst (fs.map V.int++[V.int (cell%1000003)]))) l=some (.lst (gs.map V.int))/\gs.length<=61*i+1/\∀v∈gs,tR v:=
    ⟨fs++[cell%1000003],by rw[ao,rK],by rw[lG,A0w];lia,xU hok ⟨A0P _ 0x6,A0x _ 0x6⟩⟩
   have s3:Same H (upd H2 l (.lst (fs.map V.int++[V.int (cell%1000003)]))):=bC s2 hl;have hq3:(upd H2 l (.lst (fs.map V.int++[V.int (cell%1000003)]))) p=some (.lst (gH 0x43 none (some 63))):=by rw[ak Zz];exact hq
   generalize upd H2 l (.lst (fs.map V.int++[V.int (cell%1000003)]))=H3 at hgs s3 hq3;obtain⟨gs,hL3,hg1,hg2⟩:=hgs;refine⟨60,rfl,by decide,by decide,dH (lo:=0) (n:=60) (fun j σ H4=>∃(hs:List Int)(rest m9:Int)(k:Option V),σ=[some 0x48,some (.int many),some (.ref l),some (.int m9),some (.int cell),some (.int rest),k]/\0<=m9/\m9<2147483647/\Same H H4/\
    H4 p=some (.lst (gH 0x43 none (some 63)))/\H4 l=some (.lst (hs.map V.int))/\hs.length<=61*i+1+j/\(∀v∈hs,tR v)) ⟨gs,_,_,kk,rfl,z0',z1',s3,hq3,hL3,hg1,hg2⟩ ?_ ?_⟩
   ·rintro j σ H4 hj ⟨hs,rest,m9,k',rfl,x0,x1,s4,Qt,Bb,hh1,Ig⟩;refine⟨_,rfl,_,_,rfl,rfl,_,rfl,?_⟩;refine gA 0x24 0x24
    ·refine⟨_,rfl,.inl ⟨rfl,_,bF.of Bb⟩,_,rfl,_,_,rfl,rfl,(by show(0:Int)<1009;decide),l,_,_,rfl,rfl,Bb,0x7F,?_⟩
     refine⟨_,rfl,_,_,rfl,rfl,⟨by decide,by decide⟩,?_⟩;exact⟨hs++[rest%1009],_,_,_,rfl,x0,x1,bC s4 hl,by rw[ak Zz];exact Qt,by rw[ao,rK],by rw[lG,A0w];lia,
      xU Ig ⟨A0P _ 0x6,by have:=A0x rest (show(0:Int)<1009 by decide);lia⟩⟩
    ·exact⟨hs,_,_,_,rfl,x0,x1,s4,Qt,Bb,by lia,Ig⟩
   ·rintro σ H4 ⟨hs,rest,m9,k',rfl,x0,x1,s4,Qt,Bb,hh1,Ig⟩;exact⟨hs,_,_,_,_,rfl,s4,Qt,Bb,by lia,Ig,x0,x1⟩
  ·obtain⟨gs,hL3,hg1,hg2⟩:∃gs:List Int,H2 l=some (.lst (gs.map V.int))/\gs.length<=61*i+1/\∀v∈gs,tR v:=⟨fs,hL,by lia,hok⟩;refine⟨60,rfl,by decide,by decide,dH (lo:=0) (n:=60) (fun j σ H4=>∃(hs:List Int)(rest m9:Int)(k:Option V),σ=[some 0x48,some (.int many),some (.ref l),some (.int m9),some (.int cell),some (.int rest),k]/\0<=m9/\m9<2147483647/\Same H H4/\
    H4 p=some (.lst (gH 0x43 none (some 63)))/\H4 l=some (.lst (hs.map V.int))/\hs.length<=61*i+1+j/\(∀v∈hs,tR v)) ⟨gs,_,_,kk,rfl,z0',z1',s2,hq,hL3,hg1,hg2⟩ ?_ ?_⟩
   ·rintro j σ H4 hj ⟨hs,rest,m9,k',rfl,x0,x1,s4,Qt,Bb,hh1,Ig⟩;refine⟨_,rfl,_,_,rfl,rfl,_,rfl,?_⟩;refine gA 0x24 0x24
    ·refine⟨_,rfl,.inl ⟨rfl,_,bF.of Bb⟩,_,rfl,_,_,rfl,rfl,(by show(0:Int)<1009;decide),l,_,_,rfl,rfl,Bb,0x7F,?_⟩
     refine⟨_,rfl,_,_,rfl,rfl,⟨by decide,by decide⟩,?_⟩;exact⟨hs++[rest%1009],_,_,_,rfl,x0,x1,bC s4 hl,by rw[ak Zz];exact Qt,by rw[ao,rK],by rw[lG,A0w];lia,
      xU Ig ⟨A0P _ 0x6,by have:=A0x rest (show(0:Int)<1009 by decide);lia⟩⟩
    ·exact⟨hs,_,_,_,rfl,x0,x1,s4,Qt,Bb,by lia,Ig⟩
   ·rintro σ H4 ⟨hs,rest,m9,k',rfl,x0,x1,s4,Qt,Bb,hh1,Ig⟩;exact⟨hs,_,_,_,_,rfl,s4,Qt,Bb,by lia,Ig,x0,x1⟩
 ·rintro σ H2 ⟨fs,salt,c,r,kk,rfl,s2,hq,hL,hlen,hok,z0,z1⟩;have hcl:=jC 0x43 none (some 63);rw[bY]at hcl;refine⟨_,rfl,_,rfl,l,_,rfl,.inl (bF.of hL),_,_,rfl,rfl,many-(fs.length:Int),(by rw[bY]),by lia,by lia,?_⟩;refine dH (lo:=0) (n:=(many-(fs.length:Int)).toNat) (fun j σ H4=>∃(hs:List Int)(salt:Int)(k:Option V),σ=[some 0x48,some (.int many),some (.ref l),some (.int salt),c,r,k]/\Same H H4/\
    H4 l=some (.lst (hs.map V.int))/\hs.length=fs.length+j/\(∀v∈hs,tR v)/\0<=salt/\salt<2147483647) ⟨fs,salt,kk,rfl,s2,hL,rfl,hok,z0,z1⟩ ?_ ?_
  ·rintro j σ H4 hj ⟨hs,salt,k',rfl,s4,Bb,hh1,Ig,y0,y1⟩;refine⟨_,rfl,_,rfl,_,_,rfl,rfl,.inl ⟨by lia,by lia⟩,_,rfl,_,_,rfl,rfl,.inr ⟨by lia,by lia⟩,_,rfl,_,_,rfl,rfl,.inl ⟨by decide,by decide⟩,_,_,rfl,rfl,_,rfl,_,_,rfl,rfl,.inl ⟨by decide,by decide⟩,_,_,rfl,rfl,_,_,rfl,rfl,_,_,rfl,rfl,(by show(0:Int)<2147483629;decide),?_⟩
   refine⟨_,rfl,.inl ⟨rfl,_,bF.of Bb⟩,_,rfl,_,_,rfl,rfl,⟨by decide,by decide⟩,_,_,rfl,rfl,(by show(0:Int)<1009;decide),l,_,_,rfl,rfl,Bb,0x7F,?_⟩
   refine⟨hs++[_],_,_,rfl,bC s4 hl,by rw[ao,rK],by rw[lG,A0w];lia,xU Ig ⟨A0P _ 0x6,?_⟩,A0P _ 0x6,?_⟩
   ·have:=A0x ((salt*salt*salt+48271*salt+13*(0+(j:Int))+5)%2147483629/1013) (show(0:Int)<1009 by decide)
    lia
   ·have:=A0x (salt*salt*salt+48271*salt+13*(0+(j:Int))+5) (show(0:Int)<2147483629 by decide)
    lia
  ·rintro σ H4 ⟨hs,salt,k',rfl,s4,Bb,hh1,Ig,y0,y1⟩;refine⟨_,rfl,_,rfl,many,rfl,l,_,rfl,bF.of Bb,fun q hq'=>?_⟩;have hcut:gH (hs.map V.int) none (some many)=(hs.take many.toNat).map V.int:=by
    unfold gH;have e1:HT.fY (hs.map V.int).length 0 none=0:=rfl;have e2:HT.fY (hs.map V.int).length (hs.map V.int).length (some many)=min many.toNat (hs.map V.int).length:=by
     have em:many=((many.toNat:Nat):Int):=by lia
     generalize many.toNat=mm at em ⊢;rw[em,HT.jB]
    rw[e1,e2,List.drop_zero,A4K,Nat.sub_zero,bY];rw[List.take_eq_take_iff,bY];lia
   refine k q _ (hs.take many.toNat) (bC s4 (s4.free hq')) (s4.free hq') (by rw[ao,hcut]) ?_ fun v hv=>Ig v (A3c hv);rw[A0T];lia
def Tr:V->Bool
 | .non| .bl _| .int _| .str _=>true
 |_=>false
def Qu(H:Hp):Nat->V->V->Prop
 |0,_,_=>False
 | n+1,x,y=>(x=y/\Tr x=true)\/(∃p q xs ys,x=.ref p/\y=.ref q/\H p=some 0x52/\H q=some (.tup ys)/\xs.length=ys.length/\xs.length<=1000/\∀(i:Nat)(x y:V),xs[i]?=some x->ys[i]?=some y->Qu H n x y)\/
  (∃p q xs ys,x=.ref p/\y=.ref q/\H p=some 0x53/\H q=some 0x57/\xs.length=ys.length/\xs.length<=1000/\∀(i:Nat)(x y:V),xs[i]?=some x->ys[i]?=some y->Qu H n x y)
theorem Qu.same(s:Same H H'):∀{n:Nat}{x y:V},Qu H n x y->Qu H' n x y
 |0,_,_,h=>h
 | n+1,x,y,h=>by
  rcases h with h|⟨p,q,xs,ys,e1,e2,e3,e4,e5,e6,e7⟩|⟨p,q,xs,ys,e1,e2,e3,e4,e5,e6,e7⟩
  ·exact .inl h
  ·exact .inr (.inl ⟨p,q,xs,ys,e1,e2,s _ _ e3,s _ _ e4,e5,e6,fun i x y h1 h2=>(e7 i x y h1 h2).same s⟩)
  ·exact .inr (.inr ⟨p,q,xs,ys,e1,e2,s _ _ e3,s _ _ e4,e5,e6,fun i x y h1 h2=>(e7 i x y h1 h2).same s⟩)
inductive kW(n:Nat)(vs:List V)(H:Hp)(Q:VK)(cP:XK):Prop
 |mk(x y:V)(_:vs=[x,y])(_:Qu H n x y)(_:∀H',Same H H'->Q (.bl true) H'):kW n vs H Q cP
structure Ms(K:PySem.W.Frag)(mg:Str->Option Value)(x:Str)(g:Addr)(gd:FuncData)(ps:List Str):Prop where
 b:Binds K gd ps []
 k:PySem.W.keepIn K (.ref g)=true
 m:mg x=some (.ref g)
structure MgS(mg:Str->Option Value):Prop where
 Pn:mg "isinstance"=none
 bool:mg "bool"=none
 int:mg "int"=none
 str:mg "str"=none
 list:mg "list"=none
 tuple:mg "tuple"=none
 len:mg "len"=none
 all:mg "all"=none
 zip:mg "zip"=none
def Vw:aX A5k A5k (aH zJ):=0x0
def scS1:Scope:={kind:=.function,names:=[0x40,0x46,("_law_other",.local),("_law_same",.globalImplicit)],isGenerator:=false,isCoroutine:=false}
def ZC:cM A5k (aH zJ) scS1 A5s [] []:=0x7
def Qw:((A5s:List Str)++([]:List Str)).Nodup:=by decide+kernel
def all_true{bs:List Bool}(h:∀b∈bs,b=true):bs.all id=true:=A1w.mpr fun b hb=>h b hb
def KY(n:Nat):List.replicate n (V.bl true)=(List.replicate n true).map V.bl:=by rw[A4l]
def KZ(F:gF K "_law_same" "_law_same" zJ f fd)(m:MgS mg)(M:Ms K mg "_law_same" f fd A5k)(G:aP P w K mg base bV n f fd A5k (kW n)):aP P w K mg base bV (n+1) f fd A5k (kW (n+1)):=by
 refine F.ok Vw 0x3 0x5;obtain⟨x,y,rfl,heq,k⟩:=h;refine⟨_,aq (bM (Jq (Jo 0xE)) (aF (bh (Jp (Jo 0x11)))) aV)
  (aq (bM (dg (aY (cF (K:=K)) rfl m.Pn cj (aj 0xE (aj (gK rfl m.bool xu rfl (v:=.ty "bool")) aC))))
   (aF (bh (lO (aY (cF (K:=K)) rfl m.Pn cj (aj 0x11 (aj (gK rfl m.bool xu rfl (v:=.ty "bool")) aC))) (sE (fW cU 0x11 0xE 0x7C))))) aV)
  (aq (bM (dg (aY (cF (K:=K)) rfl m.Pn cj (aj 0xE (aj (gK rfl m.tuple za rfl (v:=.ty "tuple")) aC))))
   (aq (bM (PW.pt (oM (fL (dg (aY (cF (K:=K)) rfl m.Pn cj (aj 0x11 (aj (gK rfl m.tuple za rfl (v:=.ty "tuple")) aC))))) (kj (aQ lD (aY (mV (K:=K)) rfl m.len A1m (aj 0x11 aC)) (aY (mV (K:=K)) rfl m.len A1m 0x4D) 0x7C)))) (aF (bh uV)) aV)
   (aF (bh (aY (jR (K:=K) rfl hr.hd) rfl m.all sX (aj (gj rfl ZC (Ke rfl m.zip (aj 0x11 0x4D))
    (fun s H fp C=>⟨rG (K:=K) (n:=2) rfl (cg (bf (i:=0) Qw rfl 0x9) (cg (bf (i:=1) Qw rfl 0x9) iG)),jE,aZ G hr rfl M.m M.k M.b .nil aU (aj 0x11 0x4D)⟩)) aC))))) aV)
  (aq (bM (dg (aY (cF (K:=K)) rfl m.Pn cj (aj 0xE (aj (gK rfl m.list kI rfl (v:=.ty "list")) aC))))
   (aq (bM (PW.pt (oM (fL (dg (aY (cF (K:=K)) rfl m.Pn cj (aj 0x11 (aj (gK rfl m.list kI rfl (v:=.ty "list")) aC))))) (kj (aQ lD (aY (mV (K:=K)) rfl m.len A1m (aj 0x11 aC)) (aY (mV (K:=K)) rfl m.len A1m 0x4D) 0x7C)))) (aF (bh uV)) aV)
   (aF (bh (aY (jR (K:=K) rfl hr.hd) rfl m.all sX (aj (gj rfl ZC (sZ rfl m.zip (aj 0x11 0x4D))
    (fun s H fp C=>⟨rG (K:=K) (n:=2) rfl (cg (bf (i:=0) Qw rfl 0x9) (cg (bf (i:=1) Qw rfl 0x9) iG)),jE,aZ G hr rfl M.m M.k M.b .nil aU (aj 0x11 0x4D)⟩)) aC))))) aV)
  (aq (bM (dg (aY (cF (K:=K)) rfl m.Pn cj (aj 0xE (aj (gK rfl m.str K8 rfl (v:=.ty "str")) aC))))
   (aF (bh (lO (aY (cF (K:=K)) rfl m.Pn cj (aj 0x11 (aj (gK rfl m.str K8 rfl (v:=.ty "str")) aC))) (sE (fW cU 0x11 0xE 0x7C))))) aV)
  (aF (bh (lO (aY (cF (K:=K)) rfl m.Pn cj (aj 0x11 (aj (gK rfl m.int Bw rfl (v:=.ty "int")) aC)))
   (lO (Uz (aY (cF (K:=K)) rfl m.Pn cj (aj 0x11 (aj (gK rfl m.bool xu rfl (v:=.ty "bool")) aC)))) (sE (fW cU 0x11 0xE 0x7C)))))))))),?_⟩
 rcases heq with⟨rfl,hsc⟩|⟨p,q,xs,ys,rfl,rfl,hp,hq,hl,hz,hi⟩|⟨p,q,xs,ys,rfl,rfl,hp,hq,hl,hz,hi⟩
 ·cases x with
  |non=>exact⟨_,rfl,_,rfl,dJ ⟨_,rfl,k _ 0x41⟩⟩
  | bl b=>
   refine⟨_,rfl,_,rfl,bZ ?_⟩;refine⟨_,rfl,_,_,_,true,rfl,.bl b,rfl,_,rfl,dJ ?_⟩;refine⟨_,rfl,_,_,_,true,rfl,.bl b,rfl,_,rfl,dJ ?_⟩;refine⟨_,rfl,_,rfl,rfl,?_⟩
   show Q (.bl (decide (V.bl b=V.bl b))) H
   rw[A0t rfl];exact k _ 0x41
  | int i=>
   refine⟨_,rfl,_,rfl,bZ ?_⟩;refine⟨_,rfl,_,_,_,false,rfl,.int i,rfl,_,rfl,bZ ?_⟩;refine⟨_,rfl,_,_,_,false,rfl,.int i,rfl,_,rfl,bZ ?_⟩;refine⟨_,rfl,_,_,_,false,rfl,.int i,rfl,_,rfl,bZ ?_⟩;refine⟨_,rfl,_,_,_,false,rfl,.int i,rfl,_,rfl,bZ ?_⟩;refine⟨_,rfl,_,_,_,true,rfl,.int i,rfl,_,rfl,dJ ?_⟩;refine⟨_,rfl,_,_,_,false,rfl,.int i,rfl,_,rfl,_,rfl,dJ ?_⟩;refine⟨_,rfl,_,rfl,rfl,?_⟩
   show Q (.bl (decide (V.int i=V.int i))) H
   rw[A0t rfl];exact k _ 0x41
  | str z=>
   refine⟨_,rfl,_,rfl,bZ ?_⟩;refine⟨_,rfl,_,_,_,false,rfl,.str z,rfl,_,rfl,bZ ?_⟩;refine⟨_,rfl,_,_,_,false,rfl,.str z,rfl,_,rfl,bZ ?_⟩;refine⟨_,rfl,_,_,_,false,rfl,.str z,rfl,_,rfl,bZ ?_⟩;refine⟨_,rfl,_,_,_,true,rfl,.str z,rfl,_,rfl,dJ ?_⟩;refine⟨_,rfl,_,_,_,true,rfl,.str z,rfl,_,rfl,dJ ?_⟩;refine⟨_,rfl,_,rfl,rfl,?_⟩
   show Q (.bl (decide (V.str z=V.str z))) H
   rw[A0t rfl];exact k _ 0x41
  |DR _=>cases hsc
  |flt _=>cases hsc
  |ref _=>cases hsc
  |ty _=>cases hsc
 ·refine⟨_,rfl,_,rfl,bZ ?_⟩;refine⟨_,rfl,_,_,_,false,rfl,.tup hq,rfl,_,rfl,bZ ?_⟩;refine⟨_,rfl,_,_,_,true,rfl,.tup hq,rfl,_,rfl,dJ ?_⟩;refine⟨_,rfl,_,_,_,true,rfl,.tup hp,rfl,_,rfl,bZ ?_⟩;refine⟨_,rfl,p,xs,rfl,.inr (bI.of hp),_,rfl,q,ys,rfl,.inr (bI.of hq),rfl,_,rfl,?_⟩;refine Ep (by rw[hl]) ?_;refine⟨_,rfl,_,rfl,p,q,rfl,⟨_,bI.of hp⟩,⟨_,bI.of hq⟩,fun D hD=>?_⟩;refine oY (n:=xs.length) (fx:=fun i=>xs.getD i .non) (fy:=fun i=>ys.getD i .non) (fun i zs H2=>zs=List.replicate i (V.bl true)/\Same H H2/\H2 D=some (.lst zs)) (fun i zs H2 ⟨_,s2,_⟩=>zm (bI.of (s2 _ _ hp)) (bI.of (s2 _ _ hq)) hl) ⟨rfl,aJ hD _,ao⟩ (fun i zs H2 h=>h.2.2) ?_ ?_
  ·rintro i zs H2 r hir ⟨rfl,s2,hD2⟩ hr2;have nrD:D≠r:=aA hD2 hr2;have e1:xs[i]?=some (xs.getD i .non):=by rw[qN,jo hir];rfl
   have e2:ys[i]?=some (ys.getD i .non):=by rw[qN,jo 0x1];rfl
   have s3:Same H (upd H2 r (.tup [xs.getD i .non,ys.getD i .non])):=bC s2 (s2.free hr2);refine⟨r,_,rfl,bI.of ao,rfl,_,_,rfl,_,_,rfl,rfl,Kp.set rfl (Kp.set rfl 0x39),?_⟩;refine iM ?_;refine⟨_,rfl,_,rfl,_,_,rfl,(hi i _ _ e1 e2).same s3,fun H4 s4=>⟨s4 _ _ (by rw[ak nrD];exact hD2),?_,?_,bC (s3.trans s4) hD,ao⟩⟩
   ·rw[A1K];exact bO 0x1
   ·rw[List.replicate_succ']
  ·rintro zs H2 ⟨rfl,s2,hD2⟩;refine⟨D,List.replicate xs.length true,rfl,bF.of (by rw[<-KY];exact hD2),?_⟩;rw[all_true fun b hb=>A2r hb];exact k _ s2
 ·refine⟨_,rfl,_,rfl,bZ ?_⟩;refine⟨_,rfl,_,_,_,false,rfl,.lst hq,rfl,_,rfl,bZ ?_⟩;refine⟨_,rfl,_,_,_,false,rfl,.lst hq,rfl,_,rfl,bZ ?_⟩;refine⟨_,rfl,_,_,_,true,rfl,.lst hq,rfl,_,rfl,dJ ?_⟩;refine⟨_,rfl,_,_,_,true,rfl,.lst hp,rfl,_,rfl,bZ ?_⟩;refine⟨_,rfl,p,xs,rfl,.inl (bF.of hp),_,rfl,q,ys,rfl,.inl (bF.of hq),rfl,_,rfl,?_⟩;refine Ep (by rw[hl]) ?_;refine⟨_,rfl,_,rfl,p,q,rfl,⟨_,bF.of hp⟩,⟨_,bF.of hq⟩,fun D hD=>?_⟩;refine oY (n:=xs.length) (fx:=fun i=>xs.getD i .non) (fy:=fun i=>ys.getD i .non) (fun i zs H2=>zs=List.replicate i (V.bl true)/\Same H H2/\H2 D=some (.lst zs)) (fun i zs H2 ⟨_,s2,_⟩=>lY (bF.of (s2 _ _ hp)) (bF.of (s2 _ _ hq)) hl) ⟨rfl,aJ hD _,ao⟩ (fun i zs H2 h=>h.2.2) ?_ ?_
  ·rintro i zs H2 r hir ⟨rfl,s2,hD2⟩ hr2;have nrD:D≠r:=aA hD2 hr2;have e1:xs[i]?=some (xs.getD i .non):=by rw[qN,jo hir];rfl
   have e2:ys[i]?=some (ys.getD i .non):=by rw[qN,jo 0x1];rfl
   have s3:Same H (upd H2 r (.tup [xs.getD i .non,ys.getD i .non])):=bC s2 (s2.free hr2);refine⟨r,_,rfl,bI.of ao,rfl,_,_,rfl,_,_,rfl,rfl,Kp.set rfl (Kp.set rfl 0x39),?_⟩;refine iM ?_;refine⟨_,rfl,_,rfl,_,_,rfl,(hi i _ _ e1 e2).same s3,fun H4 s4=>⟨s4 _ _ (by rw[ak nrD];exact hD2),?_,?_,bC (s3.trans s4) hD,ao⟩⟩
   ·rw[A1K];exact bO 0x1
   ·rw[List.replicate_succ']
  ·rintro zs H2 ⟨rfl,s2,hD2⟩;refine⟨D,List.replicate xs.length true,rfl,bF.of (by rw[<-KY];exact hD2),?_⟩;rw[all_true fun b hb=>A2r hb];exact k _ s2
theorem Ft(F:gF K "_law_same" "_law_same" zJ f fd)(m:MgS mg)(M:Ms K mg "_law_same" f fd A5k):∀n:Nat,aP P w K mg base bV n f fd A5k (kW n)
 |0=>⟨fun vs H Q E ⟨x,y,_,h,_⟩=>h.elim,fun A outer s H args us vs Q E _ _ _ _ ⟨x,y,_,h,_⟩=>h.elim⟩
 |n+1=>KZ F m M (Ft F m M n)
def sgn(t b:Int):Int:=if b<0 then -((Int.gcd t b:Nat):Int)else((Int.gcd t b:Nat):Int)
def mj(t b:Int):Int:=t.fdiv (sgn t b)
def jr(t b:Int):Int:=b.fdiv (sgn t b)
def jG{t b:Int}(h:b≠0):0<Int.gcd t b:=Int.gcd_pos_of_ne_zero_right t h
def La{t b:Int}(h:b≠0):sgn t b≠0:=by
 have:=jG (t:=t) h;unfold sgn
 split<;>lia
def ZD(t b:Int):sgn t b∣ t:=by
 unfold sgn
 split
 ·exact(Int.neg_dvd).mpr (Int.gcd_dvd_left t b)
 ·exact Int.gcd_dvd_left t b
def ZF(t b:Int):sgn t b∣ b:=by
 unfold sgn
 split
 ·exact(Int.neg_dvd).mpr (Int.gcd_dvd_right t b)
 ·exact Int.gcd_dvd_right t b
def xV(t b:Int):(sgn t b).natAbs=Int.gcd t b:=by
 unfold sgn
 split<;>lia
def Fv{s t:Int}(hs:s≠0)(h:s∣ t):s*t.fdiv s=t:=by
 obtain⟨q,rfl⟩:=h;rw[Int.mul_fdiv_cancel_left _ hs]
def rM{t b:Int}(h:b≠0):sgn t b*mj t b=t:=Fv (La h) (ZD t b)
def pJ{t b:Int}(h:b≠0):sgn t b*jr t b=b:=Fv (La h) (ZF t b)
def tU{t b:Int}(h:b≠0):0<jr t b:=by
 have e:=pJ (t:=t) h;have g:=jG (t:=t) h;have hs:sgn t b=if b<0 then -((Int.gcd t b:Nat):Int)else((Int.gcd t b:Nat):Int):=rfl
 by_cases hb:b<0
 ·rw [A0i hb]at hs
  by_cases hp:0<jr t b
  ·exact hp
  ·have:0<=sgn t b*jr t b:=by rw[hs];exact Int.mul_nonneg_of_nonpos_of_nonpos 0x1 0x1
   lia
 ·rw [A0f hb]at hs
  by_cases hp:0<jr t b
  ·exact hp
  ·have:sgn t b*jr t b<=0:=by rw[hs];exact Int.mul_nonpos_of_nonneg_of_nonpos 0x1 0x1
   lia
def Qx{t b:Int}(h:b≠0):Int.gcd (mj t b) (jr t b)=1:=by
 have e1:=rM (t:=t) h;have e2:=pJ (t:=t) h;have g:=jG (t:=t) h;have e3:Int.gcd (sgn t b*mj t b) (sgn t b*jr t b)=(sgn t b).natAbs*Int.gcd (mj t b) (jr t b):=Int.gcd_mul_left _ _ _;rw[e1,e2,xV]at e3;exact Nat.eq_of_mul_eq_mul_left g (by rw[<-e3,Nat.mul_one])
def Vx{x y k:Int}(hg:Int.gcd x y=1)(hy:0<y)(hk:0<k):mj (x*k) (y*k)=x/\jr (x*k) (y*k)=y:=by
 have e:Int.gcd (x*k) (y*k)=k.natAbs:=by rw[Int.gcd_mul_right,hg,Nat.one_mul]
 have hpos:0<y*k:=A2K hy hk;have es:sgn (x*k) (y*k)=k:=by
  unfold sgn;rw[A0f 0x1,e];lia
 unfold mj jr;rw[es];exact⟨Int.mul_fdiv_cancel _ 0x1,Int.mul_fdiv_cancel _ 0x1⟩
def Qy{t b:Int}(h:b≠0):(jr t b).natAbs<=b.natAbs:=by
 have e:=A1r Int.natAbs (pJ (t:=t) h);rw[Int.natAbs_mul,xV]at e;rw[<-e];exact Nat.le_mul_of_pos_left _ (jG h)
def Qz{t b:Int}(h:b≠0):(mj t b).natAbs<=t.natAbs:=by
 have e:=A1r Int.natAbs (rM (t:=t) h);rw[Int.natAbs_mul,xV]at e;rw[<-e];exact Nat.le_mul_of_pos_left _ (jG h)
def zK{a b:Int}(ha:0<=a)(hb:0<b):Int.gcd b (a%b)=Int.gcd a b:=by
 obtain⟨m,rfl⟩:=Int.eq_ofNat_of_zero_le ha;obtain⟨n,rfl⟩:=Int.eq_ofNat_of_zero_le (Int.le_of_lt hb);have e:((m:Int)%(n:Int))=((m%n:Nat):Int):=by lia
 rw[e]
 show Nat.gcd n (m%n)=Nat.gcd m n
 rw[Nat.gcd_comm m n,Nat.gcd_rec n m,Nat.gcd_comm n (m%n)]
def Fw(t b:Int):Int.gcd (if t<0 then -t else t) (if b<0 then -b else b)=Int.gcd t b:=by
 have e:∀x:Int,(if x<0 then -x else x).natAbs=x.natAbs:=fun x=>by split<;>lia
 unfold Int.gcd;rw[e,e]
def gcd_le_right{t b:Int}(h:b≠0):Int.gcd t b<=b.natAbs:=by
 exact Nat.gcd_le_right _ 0x1
def qT(H:Hp)(p:Addr)(t b:Int):Prop:=H p=some (.tup [.int t,.int b])
inductive Lb(vs:List V)(H:Hp)(Q:VK)(cP:XK):Prop
 |mk(a b:Int)(_:vs=[.int a,.int b])(_:0<=a)(_:0<=b)(_:Q (.int ((Int.gcd a b:Nat):Int)) H):Lb vs H Q cP
inductive vO(vs:List V)(H:Hp)(Q:VK)(cP:XK):Prop
 |mk(t b:Int)(_:vs=[.int t,.int b])(_:b≠0)(_:b.natAbs<lZ)(_:∀p,H p=none->Q 0x3E (upd H p (.tup [.int (mj t b),.int (jr t b)]))):vO vs H Q cP
def Tt:aX ["a","b"] ["a","b"] (aH Vu):=0x0
def Vy(F:gF K "common_measure" "common_measure" Vu f fd):aP P w K mg base bV 1 f fd ["a","b"] Lb:=by
 refine F.ok Tt 0x3 0x5;obtain⟨a,b,rfl,ha,hb,k⟩:=h;refine⟨_,aq (lR A0M (aQ lD 0xE au 0x7C) (aF (Jv (i:=0) (j:=1) rfl Tt.nd rfl rfl 0x6 rfl rfl (aj 0xE (aj (aO bL 0x11 0xE) aC)) (by rfl))))
  (aF (bh 0x11)),?_⟩
 refine yS (fun σ H2=>H2=H/\∃x y:Int,σ=[some (.int x),some (.int y)]/\0<=x/\0<=y/\Int.gcd x y=Int.gcd a b) (fun σ _=>match σ with|[_,some (.int y)]=>y.toNat|_=>0) ⟨rfl,a,b,rfl,ha,hb,rfl⟩ ?_ ?_
 ·rintro σ H2 ⟨rfl,x,y,rfl,hx,hy,hg⟩;refine⟨_,rfl,rfl,_,rfl,?_⟩
  by_cases h0:y=0
  ·subst h0;refine Ep rfl ?_;refine⟨_,rfl,?_⟩;have e:x=((Int.gcd a b:Nat):Int):=by rw[<-hg,Int.gcd_zero_right];lia
   rw[e];exact k
  ·have e:decide (V.int y=V.int 0)=false:=by rw[rC];simpa using h0
   rw[e];refine dJ ?_;refine⟨_,rfl,_,rfl,_,rfl,_,_,rfl,rfl,(by show 0<y;lia),_,_,rfl,⟨rfl,y,x%y,rfl,hy,A0P _ h0,by rw[zK hx 0x1];exact hg⟩,?_⟩
   show(x%y).toNat<y.toNat
   have:=A0x x (show 0<y by lia)
   lia
 ·rintro σ H2 Q1 Q2 hq ⟨v,hv,hsc,c,hc,h⟩;exact⟨v,hv,hsc,c,hc,hq _ _ h⟩
def Cu:aX ["top","bottom","measure"] ["top","bottom"] (aH KQ):=0x0
def QB(F:gF K "part" "part" KQ f fd)(ma:mg "abs"=none){g:Addr}{gd:FuncData}(G:aP P w K mg base bV 1 g gd ["a","b"] Lb)(M:Ms K mg "common_measure" g gd ["a","b"]):aP P w K mg base bV 2 f fd ["top","bottom"] vO:=by
 refine F.ok Cu 0x3 0x5;obtain⟨t,b,rfl,hb,hbig,k⟩:=h;refine⟨_,aq (aW (i:=2) Cu.nd rfl 0x9 (aZ G hr rfl M.m M.k M.b .nil aU (aj (aY oN rfl ma xr (aj 0x11 aC)) (aj (aY oN rfl ma xr 0x4D) aC))))
  (aq (bM (aQ yU 0xE au 0x7C) (aF (aW (i:=2) Cu.nd rfl 0x9 (uW qg 0x37))) aV)
  (aF (bh (cB (aj (aO oZ 0x11 0x37) (aj (aO oZ 0xE 0x37) aC)))))),?_⟩
 refine⟨_,rfl,_,rfl,_,rfl,_,rfl,_,_,rfl,by split<;>lia,by split<;>lia,?_⟩;rw[Fw];have hg:=jG (t:=t) hb;have hle:=gcd_le_right (t:=t) hb;refine⟨_,rfl,_,_,rfl,rfl,_,rfl,?_⟩;refine gA 0x24 0x24
 ·have c':=yI c;have es:sgn t b=-((Int.gcd t b:Nat):Int):=by unfold sgn;rw[A0i c']
  have Le:(-((Int.gcd t b:Nat):Int)).natAbs<lZ:=A0Q 0x1 hbig;refine⟨_,rfl,_,rfl,_,rfl,_,rfl,_,_,rfl,rfl,⟨by lia,Le⟩,_,rfl,_,rfl,_,_,rfl,rfl,⟨by lia,Le⟩,(by show 2<=sizeLine;decide),fun p hp=>?_⟩
  have q:=k p hp;unfold mj jr at q;rw[es]at q;exact q
 ·have c':=A4m (A4z.mpr c);have es:sgn t b=((Int.gcd t b:Nat):Int):=by unfold sgn;rw[A0f c']
  have Le:(((Int.gcd t b:Nat):Int)).natAbs<lZ:=A0Q 0x1 hbig;refine⟨_,rfl,_,rfl,_,_,rfl,rfl,⟨by lia,Le⟩,_,rfl,_,rfl,_,_,rfl,rfl,⟨by lia,Le⟩,(by show 2<=sizeLine;decide),fun p hp=>?_⟩
  have q:=k p hp;unfold mj jr at q;rw[es]at q;exact q
def zL:aX ["_law_top","_law_bottom","_law_one","_law_other"] ["_law_top","_law_bottom"] (aH Vv):=0x0
def Vz(F:gF K "_law_low" "_law_low" Vv f fd)(ma:mg "abs"=none):aP P w K mg base bV 1 f fd ["_law_top","_law_bottom"] vO:=by
 refine F.ok zL 0x3 0x5;obtain⟨t,b,rfl,hb,hbig,k⟩:=h;refine⟨_,aq (aW (i:=2) zL.nd rfl 0x9 (aY oN rfl ma xr (aj 0x11 aC)))
  (aq (aW (i:=3) zL.nd rfl 0x9 (aY oN rfl ma xr 0x4D))
  (aq (lR A0M (aQ lD 0x70 au 0x7C) (aF (Jv (i:=2) (j:=3) rfl zL.nd rfl rfl 0x6 rfl rfl (aj 0x70 (aj (aO bL 0x37 0x70) aC)) (by rfl))))
  (aq (bM (aQ yU 0xE au 0x7C) (aF (aW (i:=2) zL.nd rfl 0x9 (aO nU au 0x37))) aV)
  (aF (bh (cB (aj (aO oZ 0x11 0x37) (aj (aO oZ 0xE 0x37) aC)))))))),?_⟩
 have hg:=jG (t:=t) hb;have hle:=gcd_le_right (t:=t) hb;refine⟨_,rfl,_,rfl,_,rfl,_,rfl,?_⟩;refine yS (fun σ H2=>H2=H/\∃x y:Int,σ=[some (.int t),some (.int b),some (.int x),some (.int y)]/\0<=x/\0<=y/\Int.gcd x y=Int.gcd t b) (fun σ _=>match σ with|[_,_,_,some (.int y)]=>y.toNat|_=>0) ⟨rfl,_,_,rfl,by split<;>lia,by split<;>lia,Fw t b⟩ ?_ ?_
 ·rintro σ H2 ⟨rfl,x,y,rfl,hx,hy,hxy⟩;refine⟨_,rfl,rfl,_,rfl,?_⟩
  by_cases h0:y=0
  ·subst h0;refine Ep rfl ?_;have e:x=((Int.gcd t b:Nat):Int):=by rw[<-hxy,Int.gcd_zero_right];lia
   subst e;refine⟨_,rfl,_,_,rfl,rfl,_,rfl,?_⟩;refine gA 0x24 0x24
   ·have c':=yI c;have es:sgn t b=0-((Int.gcd t b:Nat):Int):=by unfold sgn;rw[A0i c'];lia
    have Le:(0-((Int.gcd t b:Nat):Int)).natAbs<lZ:=A0Q 0x1 hbig;refine⟨_,rfl,_,_,rfl,rfl,_,rfl,_,rfl,_,_,rfl,rfl,⟨by lia,Le⟩,_,rfl,_,rfl,_,_,rfl,rfl,⟨by lia,Le⟩,(by show 2<=sizeLine;decide),fun p hp=>?_⟩
    have q:=k p hp;unfold mj jr at q;rw[es]at q;exact q
   ·have c':=A4m (A4z.mpr c);have es:sgn t b=((Int.gcd t b:Nat):Int):=by unfold sgn;rw[A0f c']
    have Le:(((Int.gcd t b:Nat):Int)).natAbs<lZ:=A0Q 0x1 hbig;refine⟨_,rfl,_,rfl,_,_,rfl,rfl,⟨by lia,Le⟩,_,rfl,_,rfl,_,_,rfl,rfl,⟨by lia,Le⟩,(by show 2<=sizeLine;decide),fun p hp=>?_⟩
    have q:=k p hp;unfold mj jr at q;rw[es]at q;exact q
  ·have e:decide (V.int y=V.int 0)=false:=by rw[rC];simpa using h0
   rw[e];refine dJ ?_;refine⟨_,rfl,_,rfl,_,rfl,_,_,rfl,rfl,(by show 0<y;lia),_,_,rfl,⟨rfl,y,x%y,rfl,hy,A0P _ h0,by rw[zK hx 0x1];exact hxy⟩,?_⟩
   show(x%y).toNat<y.toNat
   have:=A0x x (show 0<y by lia)
   lia
 ·rintro σ H2 Q1 Q2 hq ⟨v,hv,hsc,c,hc,h⟩;exact⟨v,hv,hsc,c,hc,hq _ _ h⟩
def QC:10^1200<lZ:=by unfold lZ;decide+kernel
def iY{e:Nat}(h:n<10^e)(he:e<=1200):n<lZ:=Nat.lt_trans (A0o h (A2k 0x6 he)) QC
def Bd(e:Nat)(x:Int×Int):Prop:=x.1.natAbs<10^e/\0<x.2/\x.2.natAbs<10^e
def Bd.mono{e f:Nat}{x:Int×Int}(h:Bd e x)(he:e<=f):Bd f x:=⟨A0o h.1 (A2k 0x6 he),h.2.1,A0o h.2.2 (A2k 0x6 he)⟩
def oH(t b:Int):Int×Int:=(mj t b,jr t b)
def Tv(x y:Int×Int):Int×Int:=oH (x.1*y.2-y.1*x.2) (x.2*y.2)
def mD{a b:Int}{e f:Nat}(ha:a.natAbs<10^e)(hb:b.natAbs<10^f):(a*b).natAbs<10^(e+f):=by
 rw[Int.natAbs_mul,Nat.pow_add];exact Nat.mul_lt_mul'' ha hb
def Cv{t b:Int}{e:Nat}(hb:0<b)(h1:t.natAbs<10^e)(h2:b.natAbs<10^e):Bd e (oH t b):=
 ⟨A0Q (Qz 0x1) h1,tU 0x1,A0Q (Qy 0x1) h2⟩
inductive Lf(vs:List V)(H:Hp)(Q:VK)(cP:XK):Prop
 |mk(p q:Addr)(x y:Prod Int Int)(_:vs=[.ref p,.ref q])(_:qT H p x.1 x.2)(_:qT H q y.1 y.2)(_:Bd 500 x)(_:Bd 500 y)(_:∀r,H r=none->Q 0x6E (upd H r (.tup [.int (Tv x y).1,.int (Tv x y).2]))):Lf vs H Q cP
def QD:aX ["a","b"] ["a","b"] (aH Cq):=0x0
def Lg(F:gF K "minus" "minus" Cq f fd){g:Addr}{gd:FuncData}(G:aP P w K mg base bV 2 g gd ["top","bottom"] vO)(M:Ms K mg "part" g gd ["top","bottom"]):aP P w K mg base bV 3 f fd ["a","b"] Lf:=by
 refine F.ok QD 0x3 0x5;obtain⟨p,q,x,y,rfl,hp,hq,bx,by',k⟩:=h;refine⟨_,aF (bh (aZ G hr rfl M.m M.k M.b .nil aU (aj (aO nU (aO jg (aK aR 0x11 au 0x2) 0x19) (aO jg 0x19 (aK aR 0x11 au 0x2))) (aj (aO jg (aK aR 0x11 au 0x2) 0x19) aC)))),?_⟩;have b1:=iY bx.1 0x6;have b2:=iY bx.2.2 0x6;have b3:=iY by'.1 0x6;have b4:=iY by'.2.2 0x6;exact⟨_,rfl,p,_,_,_,rfl,rfl,bI.of hp,aD (j:=0) rfl,_,rfl,q,_,_,_,rfl,rfl,bI.of hq,aD (j:=1) rfl,_,_,rfl,rfl,⟨b1,b4⟩,_,rfl,q,_,_,_,rfl,rfl,bI.of hq,aD (j:=0) rfl,_,rfl,p,_,_,_,rfl,rfl,bI.of hp,aD (j:=1) rfl,_,_,rfl,rfl,⟨b3,b2⟩,_,_,rfl,rfl,
  _,rfl,p,_,_,_,rfl,rfl,bI.of hp,aD (j:=1) rfl,_,rfl,q,_,_,_,rfl,rfl,bI.of hq,aD (j:=1) rfl,_,_,rfl,rfl,⟨b2,b4⟩,_,_,rfl,A4P (A2K bx.2.1 by'.2.1),iY (mD bx.2.2 by'.2.2) 0x6,k⟩
inductive qC(C:Addr)(vs:List V)(H:Hp)(Q:VK)(cP:XK):Prop
 |mk(x dx a1 a2 a3 a4 a5:Addr)(lo ho ow se br:List 0x20)(e n man p:Str)(t0:Addr)(acres own oJ:Int)(sx:Prod Int Int)(_:vs=[.ref x,.str e,.str n,.str man,.int acres])(_:bT C H x dx a1 a2 a3 a4 a5 lo ho ow se br)(_:xO a1 a2 a3 a4 a5)(_:bH lo 0x15=some (.str p))(_:bH ow 0x15=some (.int own))(_:bH se 0x15=some (.ref t0))(_:bH br 0x15=some (.int oJ))(_:qT H t0 sx.1 sx.2)(_:Bd 400 sx)(_:0<oJ)(_:oJ.natAbs<10^5)(_:acres.natAbs<10^5)(_:lo.length<=800)(_:ho.length<=800)(_:ow.length<=800)(_:se.length<=800)(_:br.length<=800)(_:∀g r H',H g=none->H r=none->g≠r->bT C H' x dx a1 a2 a3 a4 a5 (putK lo 0x21 (.str p)) (putK ho 0x21 (.str man)) (putK 0x1F 0x21 (.int acres)) (putK 0x81 0x21 (.ref g)) (putK 0x49 0x21 (.int acres))->qT H' g (0x1D).1 (0x1D).2->qT H' r (Tv sx 0x1D).1 (Tv sx 0x1D).2->(∀c o,c≠a1->c≠a2->c≠a3->c≠a4->c≠a5->H c=some o->H' c=some o)->Q .non H'):qC C vs H Q cP
def qD:aX ["self","estate","new","man","acres","service","going"] A5H (aH tL):=0x0
def Cw(T:eO K C)(F:gF K "part_off" "Land.part_off" tL f fd)(G1:aP P w K mg base bV 1 g1 d1 A5m (Fq C))(m1:Meth K C "add_estate" g1)(b1:Binds K d1 A5m [])
  (G2:aP P w K mg base bV 2 g2 d2 ["top","bottom"] vO)(M2:Ms K mg "part" g2 d2 ["top","bottom"])(G3:aP P w K mg base bV 3 g3 d3 ["a","b"] Lf)(M3:Ms K mg "minus" g3 d3 ["a","b"]):
  aP P w K mg base bV 4 f fd A5H (qC C):=by
 refine F.ok qD 0x3 0x5;obtain⟨x,dx,a1,a2,a3,a4,a5,lo,ho,ow,se,br,e,n,man,p,t0,acres,own,oJ,sx,rfl,L,ap,hlo,how,hse,hbr,h0,bx,hb0,hb1,hac,e1,e2,e3,e4,e5,k⟩:=h;have G1:=aP.mono (k:=3) G1 0x1;have G2:=aP.mono (k:=3) G2 0x1;refine⟨_,aq (aW (i:=5) qD.nd rfl 0x9 0x3C)
  (aq (aW (i:=6) qD.nd rfl 0x9 (aZ G2 hr rfl M2.m M2.k M2.b .nil aU (aj (aO jg (aK aR (pv 5) au 0x2) (pv 4)) (aj (aO jg (aK aR (pv 5) au 0x2) 0x3C) aC))))
  (aq (mW 0x17 0x1C 0xE (pv 4) wN (fun _ _ _=>rfl))
  (aq (mW 0x17 0x1C 0xE (pv 4) wN (fun _ _ _=>rfl))
  (aq (eY 0x17 0x1C 0xE (aZ G3 hr rfl M3.m M3.k M3.b .nil aU (aj (pv 5) (aj (pv 6) aC))) rfl)
  (aF (bJ (bG 0x11 T.cl m1 G1 hr b1 .nil aU (aj 0x37 (aj 0x3C (aj 0x70 (aj (pv 4) (aj (pv 6) aC)))))))))))),?_⟩
 have q1:=iY bx.1 0x6;have q2:=iY bx.2.2 0x6;have q3:=iY hac 0x6;have q4:=iY hb1 0x6;refine⟨_,rfl,x,C,dx,_,_,rfl,L.o,T.cl,T.n4,rfl,_,rfl,_,_,rfl,gn L.l4 hse,?_⟩;refine⟨_,rfl,t0,_,_,_,rfl,rfl,bI.of h0,aD (j:=0) rfl,_,rfl,_,_,rfl,rfl,⟨q1,q3⟩,_,rfl,t0,_,_,_,rfl,rfl,bI.of h0,aD (j:=1) rfl,?_⟩;refine⟨_,rfl,x,C,dx,_,_,rfl,L.o,T.cl,T.n5,rfl,_,rfl,_,_,rfl,gn L.l5 hbr,_,_,rfl,rfl,⟨q2,q4⟩,_,_,rfl,A4P (A2K bx.2.1 hb0),iY (mD bx.2.2 hb1) 0x6,fun g hg=>?_⟩;have L1:=L.same (aJ hg (.tup [.int (0x1D).1,.int (0x1D).2]));have f1:=(aJ hg (.tup [.int (0x1D).1,.int (0x1D).2]));have hg1:(upd H g (.tup [.int (0x1D).1,.int (0x1D).2])) g=some (.tup [.int (0x1D).1,.int (0x1D).2]):=ao;have bg:Bd 405 0x1D:=Cv (A2K bx.2.1 hb0) (mD bx.1 hac) (mD bx.2.2 hb1)
 change(GR _ _) _ _ (upd H g (.tup [.int (0x1D).1,.int (0x1D).2]))
 generalize oH (sx.1*acres) (sx.2*oJ)=go at L1 f1 hg1 bg k ⊢;have h01:=f1 _ _ h0;have Tw:∀c,(upd H g (.tup [.int go.1,.int go.2])) c=none->H c=none/\c≠g:=fun c hc=>by
  by_cases q:c=g
  ·rw[q,ao]at hc;cases hc
  ·rw[ak q]at hc;exact⟨hc,q⟩
 generalize upd H g (.tup [.int go.1,.int go.2])=H1 at L1 f1 hg1 h01 Tw ⊢;refine⟨_,rfl,x,C,dx,_,_,rfl,L1.o,T.cl,T.n3,rfl,_,rfl,a3,_,rfl,gn L1.l3 how,_,rfl,_,_,rfl,rfl,_,gY.k (k:=.inr e) L1.l3 (bO 0x1),?_⟩;have g3:=bB hg1 L1.l3 0xD;have g4:=bB hg1 L1.l4 0xD;have g5:=bB hg1 L1.l5 0xD;have t3:=bB h01 L1.l3 0xD;have t5:=bB h01 L1.l5 0xD;have L2:bT C (upd H1 a3 (.dK 0x1F)) x dx a1 a2 a3 a4 a5 lo ho 0x1F se br:=
  ⟨by rw[ak (bB L1.o L1.l3 0xD)];exact L1.o,by rw[ak ap.n13];exact L1.l1,by rw[ak ap.n23];exact L1.l2,ao,by rw[ak (A0k ap.n34)];exact L1.l4,by rw[ak (A0k ap.n35)];exact L1.l5⟩
 have hg2:(upd H1 a3 (.dK 0x1F)) g=some (.tup [.int go.1,.int go.2]):=by rw[ak g3];exact hg1
 have h02:(upd H1 a3 (.dK 0x1F)) t0=some (.tup [.int sx.1,.int sx.2]):=by rw[ak t3];exact h01
 have f2:∀c o,c≠a3->H c=some o->(upd H1 a3 (.dK 0x1F)) c=some o:=fun c o hc q=>by rw[ak hc];exact f1 c o q
 have Tz:∀c,(upd H1 a3 (.dK 0x1F)) c=none->H c=none/\c≠g:=fun c hc=>by
  by_cases q:c=a3
  ·rw[q,ao]at hc;cases hc
  ·rw[ak q]at hc;exact Tw c hc
 generalize upd H1 a3 (.dK 0x1F)=H2 at L2 hg2 h02 f2 Tz ⊢;have hl2:=dG ow 0x15 (.int (own-acres));generalize putK ow 0x15 (.int (own-acres))=ow2 at L2 hl2 k ⊢;refine⟨_,rfl,x,C,dx,_,_,rfl,L2.o,T.cl,T.n5,rfl,_,rfl,a5,_,rfl,gn L2.l5 hbr,_,rfl,_,_,rfl,rfl,_,gY.k (k:=.inr e) L2.l5 (bO 0x1),?_⟩;have L3:bT C (upd H2 a5 (.dK 0x49)) x dx a1 a2 a3 a4 a5 lo ho ow2 se 0x49:=
  ⟨by rw[ak (bB L2.o L2.l5 0xD)];exact L2.o,by rw[ak ap.n15];exact L2.l1,by rw[ak ap.n25];exact L2.l2,by rw[ak ap.n35];exact L2.l3,by rw[ak ap.n45];exact L2.l4,ao⟩
 have hg3:(upd H2 a5 (.dK 0x49)) g=some (.tup [.int go.1,.int go.2]):=by rw[ak g5];exact hg2
 have h03:(upd H2 a5 (.dK 0x49)) t0=some (.tup [.int sx.1,.int sx.2]):=by rw[ak t5];exact h02
 have f3:∀c o,c≠a3->c≠a5->H c=some o->(upd H2 a5 (.dK 0x49)) c=some o:=fun c o hc hc2 q=>by rw[ak hc2];exact f2 c o hc q
 have TF:∀c,(upd H2 a5 (.dK 0x49)) c=none->H c=none/\c≠g:=fun c hc=>by
  by_cases q:c=a5
  ·rw[q,ao]at hc;cases hc
  ·rw[ak q]at hc;exact Tz c hc
 generalize upd H2 a5 (.dK 0x49)=H3 at L3 hg3 h03 f3 TF ⊢;have hl3:=dG br 0x15 (.int (oJ-acres));generalize putK br 0x15 (.int (oJ-acres))=br2 at L3 hl3 k ⊢;refine⟨_,rfl,_,rfl,t0,g,sx,go,rfl,h03,hg3,bx.mono 0x6,bg.mono 0x6,fun r vP=>?_⟩;obtain⟨hr0,hrg⟩:=TF r vP
 apply 0o1 H3 r vP s4 Ih H4
 have L4:=L3.same s4;have hg4:=s4 _ _ hg3;have f4:∀c o,c≠a3->c≠a5->H c=some o->_:=fun c o hc hc2 q=>s4 _ _ (f3 c o hc hc2 q);refine⟨_,rfl,x,C,dx,_,_,rfl,L4.o,T.cl,T.n4,rfl,_,rfl,a4,_,rfl,gY.k (k:=.inr e) L4.l4 (bO 0x1),?_⟩;have hl4:=dG se 0x15 0x6E;have r4:=bB Ih L4.l4 0xD;have L5:bT C (upd H4 a4 (.dK 0x81)) x dx a1 a2 a3 a4 a5 lo ho ow2 0x81 br2:=
  ⟨by rw[ak (bB L4.o L4.l4 0xD)];exact L4.o,by rw[ak ap.n14];exact L4.l1,by rw[ak ap.n24];exact L4.l2,by rw[ak ap.n34];exact L4.l3,ao,by rw[ak (A0k ap.n45)];exact L4.l5⟩
 have VB:(upd H4 a4 (.dK 0x81)) g=some (.tup [.int go.1,.int go.2]):=by rw[ak g4];exact hg4
 have Fx:(upd H4 a4 (.dK 0x81)) r=some (.tup [.int (Tv sx go).1,.int (Tv sx go).2]):=by rw[ak r4];exact Ih
 have f5:∀c o,c≠a3->c≠a4->c≠a5->H c=some o->(upd H4 a4 (.dK 0x81)) c=some o:=fun c o hc hc4 hc5 q=>by rw[ak hc4];exact f4 c o hc hc5 q
 generalize upd H4 a4 (.dK 0x81)=H5 at L5 VB Fx f5 ⊢;refine⟨_,rfl,x,dx,_,rfl,L5.o,rfl,_,rfl,?_⟩;refine⟨_,rfl,x,C,dx,_,_,rfl,L5.o,T.cl,T.n1,rfl,_,rfl,_,_,rfl,gn L5.l1 hlo,_,rfl,_,rfl,_,rfl,?_⟩;refine⟨x,dx,a1,a2,a3,a4,a5,lo,ho,ow2,_,br2,n,p,man,acres,g,rfl,L5,ap,by lia,by lia,by lia,by lia,by lia,?_⟩;have x1:=bB L5.o L5.l1 0xD;have x2:=bB L5.o L5.l2 0xD;have x3:=bB L5.o L5.l3 0xD;have x4:=bB L5.o L5.l4 0xD;have x5:=bB L5.o L5.l5 0xD;have out:∀c o,c≠a1->c≠a2->c≠a3->c≠a4->c≠a5->H5 c=some o->qz H5 a1 a2 a3 a4 a5 lo ho ow2 0x81 br2 n p man acres g c=some o:=fun c o c1 c2 c3 c4 c5 q=>by
  unfold qz;rw[ak c5,ak c4,ak c3,ak c2,ak c1];exact q
 refine k g r _ hg hr0 (A0k hrg) ⟨out _ _ x1 x2 x3 x4 x5 L5.o,?_,?_,?_,?_,?_⟩ ?_ ?_ fun c o c1 c2 c3 c4 c5 q=>out c o c1 c2 c3 c4 c5 (f5 c o c3 c4 c5 q)
 ·unfold qz;rw[ak ap.n15,ak ap.n14,ak ap.n13,ak ap.n12,ao]
 ·unfold qz;rw[ak ap.n25,ak ap.n24,ak ap.n23,ao]
 ·unfold qz;rw[ak ap.n35,ak ap.n34,ao]
 ·unfold qz;rw[ak ap.n45,ao]
 ·unfold qz;exact ao
 ·exact out _ _ (bB VB L5.l1 0xD) (bB VB L5.l2 0xD) (bB VB L5.l3 0xD) (bB VB L5.l4 0xD) (bB VB L5.l5 0xD) VB
 ·exact out _ _ (bB Fx L5.l1 0xD) (bB Fx L5.l2 0xD) (bB Fx L5.l3 0xD) (bB Fx L5.l4 0xD) (bB Fx L5.l5 0xD) Fx
abbrev Lh:Stmt:=top 9
abbrev VD:Stmt:=top 16
def KTp(K:PySem.W.Frag)(a:Addr)(xs:List V):Prop:=∃(o:Obj)(its:Array Value)(n:Nat),K.lookup a=some o/\o.cls=.type "tuple"/\o.data=.seq its n/\its.size<=sizeLine/\Vals xs its.toList
def KTp.sq(h:KTp K a xs)(H:Hp):bI K H a xs:=.inr h
structure QF(K:PySem.W.Frag)(P:Params)(mg:Str->Option Value):Prop where
 bounds:∃a b1 b2 b3 b4 b5 b6 b7,mg "BOUNDS"=some 0x48/\KD K P a [("day",.ref b1),("acres",.ref b2),("service",.ref b3),("bears",.ref b4),("edge",.ref b5),("number",.ref b6),("entry",.ref b7)]/\KTp K b2 [.int 1,.int 9999]
 crown:∃t,mg "CROWN"=some (.str "" t)
inductive Cy(vs:List V)(H:Hp)(Q:VK)(cP:XK):Prop
 |mk(n:Int)(_:vs=[.str "acres",.int n])(_:1<=n)(_:n<=9999)(_:Q (.bl true) H):Cy vs H Q cP
inductive Li(vs:List V)(H:Hp)(Q:VK)(cP:XK):Prop
 |mk(n:Int)(_:vs=[.int n])(_:1<=n)(_:n<=9999)(_:Q .non H):Li vs H Q cP
abbrev fU(v:V):List 0x45:=[(.inr "",v)]
inductive qF(C:Addr)(vs:List V)(H:Hp)(Q:VK)(cP:XK):Prop
 |mk(x dx:Addr)(n:Int)(_:vs=[.ref x,.int n])(_:H x=some (.ins C dx []))(_:1<=n)(_:n<=9999)(_:∀a1 a2 a3 a4 a5 t H',(∀c o,c≠x->H c=some o->H' c=some o)->bT C H' x dx a1 a2 a3 a4 a5 (fU .non) (fU 0x8D) (fU (.int n)) (fU 0x72) (fU (.int n))->xO a1 a2 a3 a4 a5->H a1=none->H a2=none->H a3=none->H a4=none->H a5=none->H t=none->qT H' t 0 1->Q .non H'):qF C vs H Q cP
def gQ{k v:Expr}{tk:TE}(hk:PE X k tk)(hv:PE X v tv):PE X (.Dict [some k] [v] pos) (nR [(tk,tv)]):=by
 refine Fi ?h ?a ?b ?c ?d
 case a=>exact rfl
 case b=>exact rfl
 case c=>exact List.cons_ne_nil _ _
 case d=>exact A1c rfl
 case h=>exact gO hk hv Fg
def xW{f:Str}{rest:TS}{D:Ends}(h:tv σ H fun y H1=>ta σ H1 fun x H2=>wM K f {D with nx:=rest D} σ y x H2):GR (V6 K ta tv f) rest D σ H:=h
def VF{f:Str}{D:Ends}(h:tv σ H fun y H1=>ta σ H1 fun x H2=>wM K f D σ y x H2):V6 K ta tv f D σ H:=h
def jW{x:Addr}{o':HO}(h0:H x=some o)(h1:H' x=some o')(f:∀c o,c≠x->H c=some o->H' c=some o):∀c,H' c=none->H c=none:=fun c hc=>by
 cases q:H c with
 |none=>rfl
 | some u=>
  by_cases hcx:c=x
  ·rw[hcx,h1]at hc;cases hc
  ·rw[f c u hcx q]at hc;cases hc
def pK{k:Str}{Q:VK}(h:∀p,H p=none->∀Q':VK,(∀y H2,H2 p=some (.dK [])->Q 0x3E (upd H2 p (.dK [(.inr k,y)]))->Q' y H2)->tv σ (upd H p (.dK [])) Q'):nR [(tC (.str k),tv)] σ H Q:=by
 intro p hp
 show tv σ _ _
 refine h p hp _ fun y H2 e q=>?_;exact⟨e,[(.inr k,y)],rfl,A1c rfl,q⟩
def Cz:aX ["sort","piece","least","greatest"] ["sort","piece"] (aH Lh):=0x0
def QG(F:gF K "fits" "fits" Lh f fd)(mo:QF K w.params mg):aP P w K mg base bV 1 f fd ["sort","piece"] Cy:=by
 obtain⟨aB,b1,b2,b3,b4,b5,b6,b7,mB,kB,t2⟩:=mo.bounds;refine F.ok Cz 0x3 0x5;obtain⟨n,rfl,h1,h2,k⟩:=h;refine⟨_,aq (bM (aQ Qi 0x11 (iD rfl mB rfl (v:=.ref aB)) 0x13)
   (aq (Jt (aK Zn (iD rfl mB rfl (v:=.ref aB)) 0x11 0x2) (qb rfl (cg (bf (i:=2) Cz.nd rfl 0x9) (cg (bf (i:=3) Cz.nd rfl 0x9) iG))))
   (aF (bh (JC T6 T6 0x37 0xE 0x70)))) aV) bR,?_⟩
 refine⟨_,rfl,_,aB,_,rfl,rfl,kB,_,rfl,dJ ?_⟩;refine⟨_,rfl,aB,_,_,_,rfl,rfl,kB,rfl,?_⟩;refine⟨b2,_,rfl,t2.sq _,rfl,_,_,rfl,_,_,rfl,rfl,?_⟩;refine⟨_,rfl,_,rfl,_,_,rfl,rfl,_,rfl,?_⟩;rw[A0t h1];refine dJ ⟨_,rfl,_,_,rfl,rfl,?_⟩
 show Q (.bl (decide (n<=9999))) H
 rw[A0t h2];exact k
def ZG:aX ["acres"] ["acres"] (aH VD):=0x0
def VG(F:gF K "check_acres" "check_acres" VD f fd)(G1:aP P w K mg base bV 1 g1 d1 ["sort","piece"] Cy)(M1:Ms K mg "fits" g1 d1 ["sort","piece"]):aP P w K mg base bV 2 f fd ["acres"] Li:=by
 refine F.ok ZG 0x3 0x5;obtain⟨n,rfl,h1,h2,k⟩:=h;refine⟨_,aF (bM (fL (dg (aZ G1 hr rfl M1.m M1.k M1.b .nil aU (aj aG (aj 0x11 aC))))) bR aV),?_⟩;exact⟨_,rfl,n,rfl,h1,h2,_,rfl,bZ k⟩
def VH:aX ["self","acres"] ["self","acres"] (aH Kq):=0x0
def QH(T:eO K C)(F:gF K "__init__" "Land.__init__" Kq f fd)(mo:QF K w.params mg)(G1:aP P w K mg base bV 2 g1 d1 ["acres"] Li)(M1:Ms K mg "check_acres" g1 d1 ["acres"]):aP P w K mg base bV 3 f fd ["self","acres"] (qF C):=by
 obtain⟨tc,mC⟩:=mo.crown;refine F.ok VH 0x3 0x5;obtain⟨x,dx,n,rfl,hx,h1,h2,k⟩:=h;refine⟨_,aq (bJ (aZ G1 hr rfl M1.m M1.k M1.b .nil aU 0x4D))
  (aq (jJ 0x11 (gQ 0x62 rZ) rfl)
  (aq (jJ 0x11 (gQ 0x62 0x62) rfl)
  (aq (jJ 0x11 (gQ 0x62 0xE) rfl)
  (aq (jJ 0x11 (gQ 0x62 (cB (aj au 0x5A))) rfl)
  (aF (jJ 0x11 (gQ 0x62 0xE) rfl)))))),?_⟩
 refine⟨_,rfl,n,rfl,h1,h2,?_⟩;refine xW (pK (k:="") (tv:=tC .non) fun a1 e1 Q1 k1=>k1 _ _ ao ?_);have n1:x≠a1:=aA hx e1;refine⟨_,rfl,x,C,dx,_,rfl,by rw[ak n1,ak n1];exact hx,T.cl,T.n1,A1d rfl,?_⟩;generalize hH1:upd _ x _=H1;have x1:H1 x=some (.ins C dx [("lord_of",.ref a1)]):=by rw[<-hH1,ao];rfl
 have p1:H1 a1=some (.dK (fU .non)):=by rw[<-hH1,ak (A0k n1),ao]
 have f1:∀c o,c≠x->H c=some o->H1 c=some o:=fun c o hc ho=>by rw[<-hH1,ak hc,ak (aA ho e1),ak (aA ho e1)];exact ho
 have z1:∀c,H1 c=none->H c=none:=jW hx x1 f1;clear hH1;refine xW (pK (k:="") (tv:=tC 0x8D) fun a2 e2 Q2 k2=>k2 _ _ ao ?_);have n2:x≠a2:=aA x1 e2;refine⟨_,rfl,x,C,dx,_,rfl,by rw[ak n2,ak n2];exact x1,T.cl,T.n2,A1d rfl,?_⟩;generalize hH2:upd _ x _=H2;have x2:H2 x=some (.ins C dx [("lord_of",.ref a1),("holder_of",.ref a2)]):=by rw[<-hH2,ao];rfl
 have p2:H2 a2=some (.dK (fU 0x8D)):=by rw[<-hH2,ak (A0k n2),ao]
 have f2:∀c o,c≠x->H1 c=some o->H2 c=some o:=fun c o hc ho=>by rw[<-hH2,ak hc,ak (aA ho e2),ak (aA ho e2)];exact ho
 have z2:∀c,H2 c=none->H1 c=none:=jW x1 x2 f2;clear hH2;refine xW (pK (k:="") (tv:=uN 1) fun a3 e3 Q3 k3=>⟨_,rfl,k3 _ _ ao ?_⟩);have n3:x≠a3:=aA x2 e3;refine⟨_,rfl,x,C,dx,_,rfl,by rw[ak n3,ak n3];exact x2,T.cl,T.n3,A1d rfl,?_⟩;generalize TJ:upd _ x _=H3;have x3:H3 x=some (.ins C dx [("lord_of",.ref a1),("holder_of",.ref a2),("own_of",.ref a3)]):=by rw[<-TJ,ao];rfl
 have p3:H3 a3=some (.dK (fU (.int n))):=by rw[<-TJ,ak (A0k n3),ao]
 have f3:∀c o,c≠x->H2 c=some o->H3 c=some o:=fun c o hc ho=>by rw[<-TJ,ak hc,ak (aA ho e3),ak (aA ho e3)];exact ho
 have z3:∀c,H3 c=none->H2 c=none:=jW x2 x3 f3;clear TJ;refine xW (pK (k:="") (tv:=uO (eG (tC (.int 0)) (eG (tC (.int 1)) fX))) fun a4 e4 Q4 k4=>⟨small 0x8,fun t ht=>k4 _ _ (by rw[ak (fun q=>by rw[<-q,ao]at ht;cases ht)];exact ao) ?_⟩);have n4:x≠a4:=aA x3 e4;have t4:t≠a4:=fun q=>by rw[q,ao]at ht;cases ht
 have ht0:H3 t=none:=by rw[ak t4]at ht;exact ht
 have nt:x≠t:=aA x3 ht0;refine⟨_,rfl,x,C,dx,_,rfl,by rw[ak n4,ak nt,ak n4];exact x3,T.cl,T.n4,A1d rfl,?_⟩;generalize Pq:upd _ x _=H4;have x4:H4 x=some (.ins C dx [("lord_of",.ref a1),("holder_of",.ref a2),("own_of",.ref a3),("service_of",.ref a4)]):=by rw[<-Pq,ao];rfl
 have p4:H4 a4=some (.dK (fU 0x72)):=by rw[<-Pq,ak (A0k n4),ao]
 have f4:∀c o,c≠x->H3 c=some o->H4 c=some o:=fun c o hc ho=>by rw[<-Pq,ak hc,ak (aA ho e4),ak (aA ho ht0),ak (aA ho e4)];exact ho
 have pt:H4 t=some (.tup [.int 0,.int 1]):=by rw[<-Pq,ak (A0k nt),ak t4,ao]
 have z4:∀c,H4 c=none->H3 c=none:=jW x3 x4 f4;clear Pq;refine VF (pK (k:="") (tv:=uN 1) fun a5 e5 Q5 k5=>⟨_,rfl,k5 _ _ ao ?_⟩);have n5:x≠a5:=aA x4 e5;refine⟨_,rfl,x,C,dx,_,rfl,by rw[ak n5,ak n5];exact x4,T.cl,T.n5,A1d rfl,?_⟩;generalize hH5:upd _ x _=H5;have x5:H5 x=some (.ins C dx [("lord_of",.ref a1),("holder_of",.ref a2),("own_of",.ref a3),("service_of",.ref a4),("breadth_of",.ref a5)]):=by rw[<-hH5,ao];rfl
 have p5:H5 a5=some (.dK (fU (.int n))):=by rw[<-hH5,ak (A0k n5),ao]
 have f5:∀c o,c≠x->H4 c=some o->H5 c=some o:=fun c o hc ho=>by rw[<-hH5,ak hc,ak (aA ho e5),ak (aA ho e5)];exact ho
 have z5:∀c,H5 c=none->H4 c=none:=jW x4 x5 f5;clear hH5;have q15:=f2 _ _ (A0k n1) p1;have q25:=f3 _ _ (A0k n1) q15;have q35:=f4 _ _ (A0k n1) q25;have q45:=f5 _ _ (A0k n1) q35;have r3:=f3 _ _ (A0k n2) p2;have r4:=f4 _ _ (A0k n2) r3;have r5:=f5 _ _ (A0k n2) r4;have s4:=f4 _ _ (A0k n3) p3;have s5:=f5 _ _ (A0k n3) s4;have u5:=f5 _ _ (A0k n4) p4;refine k a1 a2 a3 a4 a5 t _ (fun c o hc ho=>f5 _ _ hc (f4 _ _ hc (f3 _ _ hc (f2 _ _ hc (f1 _ _ hc ho))))) ⟨x5,q45,r5,s5,u5,p5⟩
  ⟨aA p1 e2,aA q15 e3,aA q25 e4,aA q35 e5,aA p2 e3,aA r3 e4,aA r4 e5,aA p3 e4,aA s4 e5,aA p4 e5⟩
  e1 (z1 _ e2) (z1 _ (z2 _ e3)) (z1 _ (z2 _ (z3 _ e4))) (z1 _ (z2 _ (z3 _ (z4 _ e5)))) (z1 _ (z2 _ (z3 _ ht0))) (f5 _ _ (A0k nt) pt)
abbrev zM:Stmt:=top 22
def Ii:∃k1 x1 k2 x2 x3 k4 x4 k5 x5 x6 k7 x7 x8 x9 k10 x10 k11 x11 k12 x12 k13 x13 x14 x15 x16 x17 x18 j0 j1 j2 j3 j4 j5 j6 j7 p0 p1 p2 p3 p4 p5 p6 p7 q q',eV zM=[.Return (some (.Dict [some (.Constant (.str "lords") j0 p0),some (.Constant (.str "holders") j1 p1),some (.Constant (.str "own") j2 p2),some (.Constant (.str "due") j3 p3),some (.Constant (.str "known") j4 p4),some (.Constant (.str "heirs") j5 p5),some (.Constant (.str "dead") j6 p6),some (.Constant (.str "lieges") j7 p7)] [.Dict [some (.Constant 0x8D k1 x1)] [.Constant .none k2 x2] x3,.Dict [some (.Constant 0x8D k4 x4)] [.Constant 0x8D k5 x5] x6,.Dict [some (.Constant 0x8D k7 x7)] [.Name "_law_acres" x8] x9,.Dict [some (.Constant 0x8D k10 x10)] [.Tuple [.Constant (.int 0) k11 x11,.Constant (.int 1) k12 x12] k13 x13] x14,.List [] x15,.Dict [] [] x16,.List [] x17,.Dict [] [] x18] q)) q']:=⟨_,_,_,_,_,_,_,_,_,_,_,_,_,_,_,_,_,_,_,_,_,_,_,_,_,_,_,_,_,_,_,_,_,_,_,_,_,_,_,_,_,_,_,_,_,rfl⟩
def Lj(hv:∀p,PE X (.Name "_law_acres" p) (uN 0)):yP X (eV zM) (Js (nR [(tC (.str "lords"),nR [(tC 0x8D,tC .non)]),(tC (.str "holders"),nR [(tC 0x8D,tC 0x8D)]),(tC (.str "own"),nR [(tC 0x8D,uN 0)]),(tC (.str "due"),nR [(tC 0x8D,uO (eG (tC (.int 0)) (eG (tC (.int 1)) fX)))]),(tC (.str "known"),PK fX),(tC (.str "heirs"),BL),(tC (.str "dead"),PK fX),(tC (.str "lieges"),BL)])):=by
 obtain⟨k1,x1,k2,x2,x3,k4,x4,k5,x5,x6,k7,x7,x8,x9,k10,x10,k11,x11,k12,x12,k13,x13,x14,x15,x16,x17,x18,j0,j1,j2,j3,j4,j5,j6,j7,p0,p1,p2,p3,p4,p5,p6,p7,q,q',h⟩:=Ii;rw[h];refine aF ?_;refine bh ?_;refine Fi ?h ?a ?b ?c ?d
 case a=>exact rfl
 case b=>exact rfl
 case c=>exact List.cons_ne_nil _ _
 case d=>exact A1c rfl
 case h=>
  refine gO (X:=X) (aG (X:=X)) ?_ ?_
  ·exact gQ (X:=X) (aG (X:=X)) (rZ (X:=X))
  refine gO (X:=X) (aG (X:=X)) ?_ ?_
  ·exact gQ (X:=X) (aG (X:=X)) (aG (X:=X))
  refine gO (X:=X) (aG (X:=X)) ?_ ?_
  ·exact gQ (X:=X) (aG (X:=X)) (hv _)
  refine gO (X:=X) (aG (X:=X)) ?_ ?_
  ·exact gQ (X:=X) (aG (X:=X)) (cB (X:=X) (aj (X:=X) (au (X:=X)) (aj (X:=X) (au (X:=X)) (aC (X:=X)))))
  refine gO (X:=X) (aG (X:=X)) ?_ ?_
  ·exact dZ (X:=X) (aC (X:=X))
  refine gO (X:=X) (aG (X:=X)) ?_ ?_
  ·exact tE (X:=X)
  refine gO (X:=X) (aG (X:=X)) ?_ ?_
  ·exact dZ (X:=X) (aC (X:=X))
  refine gO (X:=X) (aG (X:=X)) ?_ ?_
  ·exact tE (X:=X)
  exact Fg
def iR{a:V}{r:List (TE×TE)}{Q:List (V×V)->Hp->Prop}(h:tv σ H fun y H2=>nZ r σ H2 fun ps H3=>Q ((a,y)::ps) H3):nZ ((tC a,tv)::r) σ H Q:=h
def Lk{Q:List (V×V)->Hp->Prop}(h:Q [] H):nZ [] σ H Q:=h
def tRD{D:Ends}(h:∀p,H p=none->nZ Je σ (upd H p (.dK [])) fun ps H2=>H2 p=some (.dK [])/\∃kvs:List 0x45,ps=kvs.map (fun kv=>(kV kv.1,kv.2))/\kvs.length<=15/\D.rt 0x3E (upd H2 p (.dK (cG [] kvs)))):Js (nR Je) D σ H:=h
def eF(p1 p2 p3 p4 p5 ph pd p8:Addr):List 0x45:=[(.inr "lords",.ref p1),(.inr "holders",.ref p2),(.inr "own",.ref p3),(.inr "due",.ref p4),(.inr "known",.ref p5),(.inr "heirs",.ref ph),(.inr "dead",.ref pd),(.inr "lieges",.ref p8)]
section
variable{p1 p2 p3 p4 p5 ph pd p8:Addr}
def CG:[(V.str "lords",V.ref p1),(V.str "holders",V.ref p2),(V.str "own",V.ref p3),(V.str "due",V.ref p4),(V.str "known",V.ref p5),(V.str "heirs",V.ref ph),(V.str "dead",V.ref pd),(V.str "lieges",V.ref p8)]=(0x35).map fun kv=>(kV kv.1,kv.2):=rfl
def tV:bH (cG [] 0x35) (.inr "lords")=some (.ref p1):=by
 unfold cG eF;simp only[A1f,A3d];rw[bD,A0f 0x4,bD,A0f 0x4,bD,A0f 0x4,bD,A0f 0x4,bD,A0f 0x4,bD,A0f 0x4,bD,A0f 0x4,bD,A0i rfl]
def pL:bH (cG [] 0x35) (.inr "holders")=some (.ref p2):=by
 unfold cG eF;simp only[A1f,A3d];rw[bD,A0f 0x4,bD,A0f 0x4,bD,A0f 0x4,bD,A0f 0x4,bD,A0f 0x4,bD,A0f 0x4,bD,A0i rfl]
def zN:bH (cG [] 0x35) (.inr "own")=some (.ref p3):=by
 unfold cG eF;simp only[A1f,A3d];rw[bD,A0f 0x4,bD,A0f 0x4,bD,A0f 0x4,bD,A0f 0x4,bD,A0f 0x4,bD,A0i rfl]
def zO:bH (cG [] 0x35) (.inr "due")=some (.ref p4):=by
 unfold cG eF;simp only[A1f,A3d];rw[bD,A0f 0x4,bD,A0f 0x4,bD,A0f 0x4,bD,A0f 0x4,bD,A0i rfl]
def tW:bH (cG [] 0x35) (.inr "known")=some (.ref p5):=by
 unfold cG eF;simp only[A1f,A3d];rw[bD,A0f 0x4,bD,A0f 0x4,bD,A0f 0x4,bD,A0i rfl]
def vQ:bH (cG [] 0x35) (.inr "dead")=some (.ref pd):=by
 unfold cG eF;simp only[A1f,A3d];rw[bD,A0f 0x4,bD,A0i rfl]
def zP:(cG [] 0x35).length<=20:=A0L (iH 0x35 []) (show 0+8<=20 by decide)
end
structure fG(H:Hp)(B l h o d kn dd:Addr)(kvs lo ho ow du:List 0x45)(ks:List Str):Prop where
 b:H B=some 0x18
 vl:bH kvs (.inr "lords")=some (.ref l)
 vh:bH kvs (.inr "holders")=some (.ref h)
 vo:bH kvs (.inr "own")=some (.ref o)
 vd:bH kvs (.inr "due")=some (.ref d)
 vk:bH kvs (.inr "known")=some (.ref kn)
 vx:bH kvs (.inr "dead")=some (.ref dd)
 l:H l=some (.dK lo)
 h:H h=some (.dK ho)
 o:H o=some (.dK ow)
 d:H d=some (.dK du)
 k:H kn=some (.lst (ks.map V.str))
 x:H dd=some 0x6D
 len:kvs.length<=20
def fG.same{B l h o:Addr}(k:fG H B l h o d kn dd kvs lo ho ow du ks)(s:Same H H'):fG H' B l h o d kn dd kvs lo ho ow du ks:=
 ⟨s _ _ k.b,k.vl,k.vh,k.vo,k.vd,k.vk,k.vx,s _ _ k.l,s _ _ k.h,s _ _ k.o,s _ _ k.d,s _ _ k.k,s _ _ k.x,k.len⟩
structure BX(H:Hp)(kvs:List 0x45)(l h o d kn dd he lg:Addr):Prop where
 e:kvs=cG [] (eF l h o d kn he dd lg)
 fh:H he=some (.dK [])
 fl:H lg=some (.dK [])
 n1:he∉[l,h,o,d]
 n2:lg∉[l,h,o,d]
def BX.same{l h o:Addr}(b:BX H kvs l h o d kn dd he lg)(s:Same H H'):BX H' kvs l h o d kn dd he lg:=⟨b.e,s _ _ b.fh,s _ _ b.fl,b.n1,b.n2⟩
inductive CJ(vs:List V)(H:Hp)(Q:VK)(cP:XK):Prop
 |mk(n:Int)(_:vs=[.int n])(_:∀B l h o d kn dd t he lg kvs H',Same H H'->H B=none->H l=none->H h=none->H o=none->H d=none->H kn=none->H dd=none->H t=none->H he=none->H lg=none->BX H' kvs l h o d kn dd he lg->xO B l h o d->kn≠dd->fG H' B l h o d kn dd kvs (fU .non) (fU 0x8D) (fU (.int n)) (fU 0x72) []->qT H' t 0 1->Q (.ref B) H'):CJ vs H Q cP
def VJ:aX ["_law_acres"] ["_law_acres"] (aH zM):=0x0
def QJ(F:gF K "_law_book" "_law_book" zM f fd):aP P w K mg base bV 1 f fd ["_law_acres"] CJ:=by
 refine F.ok VJ 0x3 0x5;obtain⟨n,rfl,k⟩:=h;refine⟨Js (nR _),@Lj _ ?hv,?y⟩
 case hv=>exact fun p=>pv 0
 refine tRD fun B hB=>?_;have sB:Same H (upd H B (.dK [])):=aJ hB _;have kB:(upd H B (.dK [])) B=some (.dK []):=ao;generalize upd H B (.dK [])=H0 at sB kB ⊢;refine iR (pK (k:="") (tv:=tC .non) fun p1 e1 Q1 k1=>k1 _ _ ao ?_);generalize hH1:upd _ p1 (.dK [(.inr "",_)])=H1;have s1:Same H0 H1:=fun c u q=>by rw[<-hH1,ak (aA q e1),ak (aA q e1)];exact q
 have c1:H1 p1=some (.dK (fU .non)):=by rw[<-hH1,ao]
 clear hH1;refine iR (pK (k:="") (tv:=tC 0x8D) fun p2 e2 Q2 k2=>k2 _ _ ao ?_);generalize hH2:upd _ p2 (.dK [(.inr "",_)])=H2;have s2:Same H1 H2:=fun c u q=>by rw[<-hH2,ak (aA q e2),ak (aA q e2)];exact q
 have c2:H2 p2=some (.dK (fU 0x8D)):=by rw[<-hH2,ao]
 clear hH2;refine iR (pK (k:="") (tv:=uN 0) fun p3 e3 Q3 k3=>⟨_,rfl,k3 _ _ ao ?_⟩);generalize TJ:upd _ p3 (.dK [(.inr "",_)])=H3;have s3:Same H2 H3:=fun c u q=>by rw[<-TJ,ak (aA q e3),ak (aA q e3)];exact q
 have c3:H3 p3=some (.dK (fU (.int n))):=by rw[<-TJ,ao]
 clear TJ;refine iR (pK (k:="") (tv:=uO (eG (tC (.int 0)) (eG (tC (.int 1)) fX))) fun p4 e4 Q4 k4=>⟨small 0x8,fun t ht=>k4 _ _ (by rw[ak (fun q=>by rw[<-q,ao]at ht;cases ht)];exact ao) ?_⟩);have t4:t≠p4:=fun q=>by rw[q,ao]at ht;cases ht
 have ht0:H3 t=none:=by rw[ak t4]at ht;exact ht
 generalize Pq:upd _ p4 (.dK [(.inr "",_)])=H4;have s4:Same H3 H4:=fun c u q=>by rw[<-Pq,ak (aA q e4),ak (aA q ht0),ak (aA q e4)];exact q
 have pt:H4 t=some (.tup [.int 0,.int 1]):=by rw[<-Pq,ak t4,ao]
 have c4:H4 p4=some (.dK (fU 0x72)):=by rw[<-Pq,ao]
 clear Pq;refine iR ⟨small 0x8,fun p5 e5=>?_⟩
 apply 0o1 H4 p5 e5 s5 c5 H5
 refine iR fun ph eh=>?_
 apply 0o1 H5 ph eh s6 ch H6
 refine iR ⟨small 0x8,fun pd ed=>?_⟩
 apply 0o1 H6 pd ed s7 c7 H7
 refine iR fun p8 e8=>Lk ?_
 apply 0o1 H7 p8 e8 s8 c8 H8
 have w01:=sB.trans s1;have w02:=w01.trans s2;have w03:=w02.trans s3;have w04:=w03.trans s4;have w06:=(w04.trans s5).trans s6;have w78:=s7.trans s8;have w58:=(s5.trans s6).trans w78;have w48:=s4.trans w58;have w38:=s3.trans w48;have w28:=s2.trans w38;have w08:=sB.trans (s1.trans w28);have kB1:=s1 _ _ kB;have kB2:=s2 _ _ kB1;have kB3:=s3 _ _ kB2;have kB8:=w48 _ _ kB3;have n1:=aA kB e1;have n2:=aA kB1 e2;have n3:=aA kB2 e3;have n4:=aA kB3 e4;have out:∀c u,c≠B->H8 c=some u->(upd H8 B (.dK (cG [] 0x35))) c=some u:=fun c u hc q=>by rw[ak hc];exact q
 refine⟨kB8,eF p1 p2 p3 p4 p5 ph pd p8,CG,A1c rfl,?_⟩;have d5:=((s6.trans w78)) _ _ c5;have d7:=s8 _ _ c7;have d1:=w28 _ _ c1;have d2:=w38 _ _ c2;have d3:=w48 _ _ c3;have d4:=w58 _ _ c4;have dt:=w58 _ _ pt;have g1:=((s2.trans s3).trans s4).trans s5 _ _ c1;have g2:=(s3.trans s4).trans s5 _ _ c2;have g3:=s4.trans s5 _ _ c3;have g4:=s5 _ _ c4;have ZJ:=s6.trans s7;have kB5:=s5 _ _ (s4 _ _ kB3);refine k B p1 p2 p3 p4 p5 pd t ph p8 _ _ (bC w08 hB) hB (sB.free e1) (w01.free e2) (w02.free e3) (w03.free e4) (w04.free e5) (w06.free ed) (w03.free ht0) ((w04.trans s5).free eh) ((w06.trans s7).free e8)
  ⟨rfl,out _ _ (aA kB5 eh).symm (w78 _ _ ch),out _ _ (aA (ZJ _ _ kB5) e8).symm c8,by
   simp only[A0c,A0j,A0V,A3v];exact⟨(aA g1 eh).symm,(aA g2 eh).symm,(aA g3 eh).symm,(aA g4 eh).symm⟩,by
   simp only[A0c,A0j,A0V,A3v];exact⟨(aA (ZJ _ _ g1) e8).symm,(aA (ZJ _ _ g2) e8).symm,(aA (ZJ _ _ g3) e8).symm,(aA (ZJ _ _ g4) e8).symm⟩⟩
  ⟨n1,n2,n3,n4,aA c1 e2,aA (s2 _ _ c1) e3,aA (s3 _ _ (s2 _ _ c1)) e4,aA c2 e3,aA (s3 _ _ c2) e4,aA c3 e4⟩
  (aA (s6 _ _ c5) ed)
  ⟨ao,tV,pL,zN,zO,tW,vQ,out _ _ (A0k n1) d1,out _ _ (A0k n2) d2,out _ _ (A0k n3) d3,out _ _ (A0k n4) d4,out _ _ (bB d5 kB8 0xD) d5,out _ _ (bB d7 kB8 0xD) d7,zP⟩
  (out _ _ (bB dt kB8 0xD) dt)
end M
namespace L2
open PySem PySem.W PyProof.Rows
def pat(p:Array Nat)(k:Nat):Nat:=p.getD k 0
structure Ord(n:Nat)(lt:Nat->Nat->Bool):Prop where
 tr:∀i j k,i<n->j<n->k<n->lt i j=true->lt j k=true->lt i k=true
 tot:∀i j,i<n->j<n->i≠j->lt i j=false->lt j i=true
def Ye(n:Nat)(lt:Nat->Nat->Bool)(cmp:Nat->Nat->(Bool->Shared->Prop)->Shared->Prop)(J:Shared->Prop):Prop:=
 ∀i j C s,i<n->j<n->i≠j->J s->(∀s',J s'->C (lt i j) s')->cmp i j C s
def Pm(n:Nat)(p:Array Nat):Prop:=p.Perm (List.range n).toArray
def Pm.size{p:Array Nat}(h:Pm n p):p.size=n:=by
 have:=h.size_eq
 simpa using this
def Pm.lt{p:Array Nat}(h:Pm n p){k:Nat}(hk:k<n):pat p k<n:=by
 have hs:=h.size;have hk':k<p.size:=by lia
 have hm:p[k]∈p.toList:=by simp
 have:=(A3e.mp h).mem_iff.mp hm;simp at this;unfold pat;rw[Array.getD,A4G hk'];exact this
def Pm.ne{p:Array Nat}(h:Pm n p)(hi:i<n)(hj:j<n)(hij:i≠j):pat p i≠pat p j:=by
 have hs:=h.size;have hi':i<p.size:=by lia
 have hj':j<p.size:=by lia
 have nd:p.toList.Nodup:=(A3e.mp h).nodup_iff.mpr (by simpa using List.nodup_range);unfold pat;rw[Array.getD,A4G hi',Array.getD,A4G hj'];intro e;have pw:=A0W.mp nd;rcases A3w hij with h1|h1
 ·exact pw i j (by simpa using hi') (by simpa using hj') h1 (by simpa using e)
 ·exact pw j i (by simpa using hj') (by simpa using hi') h1 (by simpa using e.symm)
def tX{p q:Array Nat}(h:p[i]?=q[j]?):pat p i=pat q j:=by
 unfold pat;rw[A4d,A4d,h]
def Up(lt:Nat->Nat->Bool)(p:Array Nat)(m:Nat):Prop:=∀i j,i<j->j<m->lt (pat p i) (pat p j)=true
def Down(lt:Nat->Nat->Bool)(p:Array Nat)(m:Nat):Prop:=∀i j,i<j->j<m->lt (pat p j) (pat p i)=true
section
variable{lt:Nat->Nat->Bool}{cmp:Nat->Nat->(Bool->Shared->Prop)->Shared->Prop}{J:Shared->Prop}{p:Array Nat}
def Up.snoc(O:Ord n lt)(P:Pm n p){m:Nat}(h1:1<=m)(hm:m<n)(h:Up lt p m)(hl:lt (pat p (m-1)) (pat p m)=true):Up lt p (m+1):=by
 intro i j hij hj
 by_cases e:j=m
 ·subst e
  by_cases e2:i=j-1
  ·subst e2;exact hl
  ·exact O.tr _ _ _ (P.lt 0x1) (P.lt 0x1) (P.lt 0x1) (h i (j-1) 0x1 0x1) hl
 ·exact h i j hij 0x1
def Down.snoc(O:Ord n lt)(P:Pm n p){m:Nat}(h1:1<=m)(hm:m<n)(h:Down lt p m)(hl:lt (pat p m) (pat p (m-1))=true):Down lt p (m+1):=by
 intro i j hij hj
 by_cases e:j=m
 ·subst e
  by_cases e2:i=j-1
  ·subst e2;exact hl
  ·exact O.tr _ _ _ (P.lt 0x1) (P.lt 0x1) (P.lt 0x1) hl (h i (j-1) 0x1 0x1)
 ·exact h i j hij 0x1
theorem CK(O:Ord n lt)(hc:Ye n lt cmp J)(P:Pm n p){G:Nat->Shared->Prop}:∀(f m:Nat)(s:Shared),1<=m->m+f<=n->Up lt p m->J s->
  (∀r s',m<=r->r<=m+f->Up lt p r->(r<m+f->lt (pat p r) (pat p (r-1))=true)->J s'->G r s')->(kas_asc p f m).kasWp cmp G s
 |0,m,s,h1,hf,hU,hJ,k=>k m s 0x2F 0x2F hU (fun h=>absurd h (A1h _)) hJ
 | f+1,m,s,h1,hf,hU,hJ,k=>by
  show cmp (p.getD m 0) (p.getD (m-1) 0) _ s
  refine hc _ _ _ s (P.lt (k:=m) 0x1) (P.lt (k:=m-1) 0x1) (P.ne 0x1 0x1 0x1) hJ fun s' hJ'=>?_
  show KasT.kasWp cmp (if lt (pat p m) (pat p (m-1))=true then .ret m else kas_asc p f (m+1)) G s'
  cases e:lt (pat p m) (pat p (m-1))with
  | true=>
   rw[A0i rfl];exact k m s' 0x2F 0x1 hU (fun _=>e) hJ'
  | false=>
   rw[A0f A0n];have hl:=O.tot _ _ (P.lt (k:=m) 0x1) (P.lt (k:=m-1) 0x1) (P.ne 0x1 0x1 0x1) e;exact CK O hc P f (m+1) s' 0x1 0x1 (hU.snoc O P h1 0x1 hl) hJ' fun r s'' a b c d e'=>k r s'' 0x1 0x1 c (fun h=>d 0x1) e'
theorem Fy(O:Ord n lt)(hc:Ye n lt cmp J)(P:Pm n p){G:Array Nat×Nat×Nat->Shared->Prop}:∀(f m:Nat)(s:Shared),1<=m->m+f<=n->Down lt p m->J s->
  (∀r s',m<=r->r<=m+f->Down lt p r->J s'->G (p,r,0) s')->(kas_desc f p m 0).kasWp cmp G s
 |0,m,s,h1,hf,hU,hJ,k=>k m s 0x2F 0x2F hU hJ
 | f+1,m,s,h1,hf,hU,hJ,k=>by
  show cmp (p.getD m 0) (p.getD (m-1) 0) _ s
  refine hc _ _ _ s (P.lt (k:=m) 0x1) (P.lt (k:=m-1) 0x1) (P.ne 0x1 0x1 0x1) hJ fun s' hJ'=>?_;cases e:lt (pat p m) (pat p (m-1))with
  | true=>
   have e':lt (p.getD m 0) (p.getD (m-1) 0)=true:=e;rw[e'];dsimp only;rw[A0i rfl,A0f (A1h 0)];exact Fy O hc P f (m+1) s' 0x1 0x1 (hU.snoc O P h1 0x1 e) hJ' fun r s'' a b c d=>k r s'' 0x1 0x1 c d
  | false=>
   have e':lt (p.getD m 0) (p.getD (m-1) 0)=false:=e;rw[e'];dsimp only;rw[A0f A0n];have hl:=O.tot _ _ (P.lt (k:=m) 0x1) (P.lt (k:=m-1) 0x1) (P.ne 0x1 0x1 0x1) e;refine hc _ _ _ s' (P.lt (k:=m-1) 0x1) (P.lt (k:=m) 0x1) (P.ne 0x1 0x1 0x1) hJ' fun s'' VL=>?_;have hl':lt (p.getD (m-1) 0) (p.getD m 0)=true:=hl;rw[hl'];dsimp only;rw[A0i rfl];exact k m s'' 0x2F 0x1 hU VL
def Lp(P:Pm n p)(i j:Nat):Pm n (kas_rev p i j):=(mirror_perm p i j _).trans P
def Lq(P:Pm n p){r:Nat}(hr:r<=n)(k:Nat):pat (kas_rev p 0 r) k=if k<r then pat p (r-1-k)else pat p k:=by
 have h:=getElem?_mirror_all (xs:=p) (i:=0) (j:=r) (by rw[P.size];exact hr) k
 by_cases hk:k<r
 ·rw[A0i hk];rw[A0i ⟨A1i _,hk⟩,Nat.zero_add]at h;exact tX h
 ·rw[A0f hk];rw[A0f (fun z=>hk z.2)]at h;exact tX h
def VN(P:Pm n p){r:Nat}(hr:r<=n)(h:Down lt p r):Up lt (kas_rev p 0 r) r:=by
 intro i j hij hj;rw[Lq P hr,Lq P hr,A0i 0x1,A0i hj];exact h _ _ 0x1 0x1
def QK(n:Nat)(lt:Nat->Nat->Bool)(J:Shared->Prop)(G:Nat×Array Nat->Shared->Prop):Prop:=∀q p' s',Pm n p'->1<=q->q<=n->Up lt p' q->J s'->G (q,p') s'
def Lr(O:Ord n lt)(hc:Ye n lt cmp J)(P:Pm n p)(h2:2<=n){G:Nat×Array Nat->Shared->Prop}(hJ:J s)(k:QK n lt J G):(kas_count n p).kasWp cmp G s:=by
 unfold kas_count;rw[KasT.kasWp_bind];refine CK O hc P (n-1) 1 s 0x2F 0x1 (fun i j hij hj=>by lia) hJ fun r s' h1 hr hU hstop hJ'=>?_
 by_cases e:r=n
 ·subst e;rw[A0i 0x8];exact k r p s' P h1 0x2F hU hJ'
 ·rw [A0f (by simpa using e)]
  by_cases e1:r>1
  ·rw[A0i e1];refine hc _ _ _ s' (P.lt (k:=0) 0x1) (P.lt (k:=r-1) 0x1) (P.ne 0x1 0x1 0x1) hJ' fun s'' VL=>?_;have hl:lt (p.getD 0 0) (p.getD (r-1) 0)=true:=hU 0 (r-1) 0x1 0x1;rw[hl];dsimp only;rw[A0i rfl];exact k r p s'' P h1 0x1 hU VL
  ·rw [A0f e1];have er:r=1:=by lia
   subst er;have h0:=hstop 0x1;unfold kas_descPart;rw[KasT.kasWp_bind];refine Fy O hc P (n-(1+1)) (1+1) s' 0x1 0x1 (fun i j hij hj=>?_) hJ' fun r s'' a b c d=>?_
   ·have ei:i=0:=by lia
    have ej:j=1:=by lia
    subst ei ej;exact h0
   ·rw[A0f (A1h 0)];unfold kas_tail3;rw[KasT.kasWp_bind];refine CK O hc (Lp P 0 r) (n-r) r s'' 0x1 0x1 (VN P 0x1 c) d fun q s3 h3 h4 h5 _ h6=>?_;exact k q _ s3 (Lp P 0 r) 0x1 0x1 h5 h6
theorem tY(O:Ord n lt)(hc:Ye n lt cmp J)(P:Pm n p){k:Nat}(hk:k<n)(hU:Up lt p k){G:Nat->Shared->Prop}:∀(f l r:Nat)(s:Shared),r-l<=f->l<=r->r<=k->(∀i,i<l->lt (pat p i) (pat p k)=true)->(∀i,r<=i->i<k->lt (pat p k) (pat p i)=true)->J s->
  (∀l' s',l'<=k->(∀i,i<l'->lt (pat p i) (pat p k)=true)->(∀i,l'<=i->i<k->lt (pat p k) (pat p i)=true)->J s'->G l' s')->(kas_place p k f l r).kasWp cmp G s
 |0,l,r,s,h0,h1,h2,hlo,hhi,hJ,w=>w l s 0x1 hlo (fun i hi=>hhi i 0x1) hJ
 | f+1,l,r,s,h0,h1,h2,hlo,hhi,hJ,w=>by
  unfold kas_place
  by_cases e:l>=r
  ·rw[A0i e];exact w l s 0x1 hlo (fun i hi=>hhi i 0x1) hJ
  ·rw [A0f e];have hm1:l<=(l+r)/2:=by lia
   have hm2:(l+r)/2<r:=by lia
   generalize hmd:(l+r)/2=md at hm1 hm2;refine hc _ _ _ s (P.lt (k:=k) hk) (P.lt (k:=md) 0x1) (P.ne hk 0x1 0x1) hJ fun s' hJ'=>?_;cases c:lt (pat p k) (pat p md)with
   | true=>
    have c':lt (p.getD k 0) (p.getD md 0)=true:=c;rw[c'];dsimp only;rw[A0i rfl];refine tY O hc P hk hU f l md s' 0x1 hm1 0x1 hlo (fun i hi hik=>?_) hJ' w
    by_cases ei:i=md
    ·subst ei;exact c
    ·exact O.tr _ _ _ (P.lt hk) (P.lt 0x1) (P.lt 0x1) c (hU md i 0x1 hik)
   | false=>
    have c':lt (p.getD k 0) (p.getD md 0)=false:=c;rw[c'];dsimp only;rw[A0f A0n];have hl:=O.tot _ _ (P.lt hk) (P.lt (k:=md) 0x1) (P.ne hk 0x1 0x1) c;refine tY O hc P hk hU f (md+1) r s' 0x1 0x1 h2 (fun i hi=>?_) hhi hJ' w
    by_cases ei:i=md
    ·subst ei;exact hl
    ·exact O.tr _ _ _ (P.lt 0x1) (P.lt 0x1) (P.lt hk) (hU i md 0x1 0x1) hl
def Ls(P:Pm n p){k l:Nat}(hk:k<n)(hl:l<=k)(i:Nat):pat (bubble p k (k-l)) i=if i=l then pat p k else if l<i/\i<=k then pat p (i-1)else pat p i:=by
 have h:=getElem?_bubble (xs:=p) (src:=k) (by rw[P.size];exact hk) (k-l) 0x1 i;rw[show k-(k-l)=l by lia]at h
 by_cases e:i=l
 ·rw[A0i e]at h ⊢;exact tX h
 ·rw[A0f e]at h ⊢
  by_cases e2:l<i/\i<=k
  ·rw[A0i e2]at h ⊢;exact tX h
  ·rw[A0f e2]at h ⊢;exact tX h
theorem Lw(O:Ord n lt)(hc:Ye n lt cmp J){G:Array Nat->Shared->Prop}:∀(f k:Nat)(p:Array Nat)(s:Shared),k+f=n->Pm n p->Up lt p k->J s->(∀p' s',Pm n p'->Up lt p' n->J s'->G p' s')->(kas_bin f p k).kasWp cmp G s
 | 0,k,p,s,hk,P,hU,hJ,w=>by
  have:k=n:=by lia
  subst this;exact w p s P hU hJ
 | f+1,k,p,s,hk,P,hU,hJ,w=>by
  unfold kas_bin;rw[KasT.kasWp_bind];refine tY O hc P 0x1 hU k 0 k s 0x1 (A1i _) 0x2F (fun i hi=>absurd hi (Nat.not_lt_zero _)) (fun i h1 h2=>by lia) hJ fun l s' hl hlo hhi hJ'=>?_;refine Lw O hc f (k+1) _ s' 0x1 ((bubble_perm p k _).trans P) (fun i j hij hj=>?_) hJ' w;rw[Ls P 0x1 hl,Ls P 0x1 hl]
  by_cases a1:i=l
  ·rw[A0i a1,A0f 0x1,A0i 0x1];exact hhi _ 0x1 0x1
  ·rw [A0f a1]
   by_cases a2:l<i
   ·rw[A0i 0x1,A0f 0x1,A0i 0x1];exact hU _ _ 0x1 0x1
   ·rw [A0f 0x1]
    by_cases a3:j=l
    ·rw[A0i a3];exact hlo i 0x1
    ·rw [A0f a3]
     by_cases a4:l<j
     ·rw[A0i 0x1]
      by_cases a5:i=j-1
      ·lia
      ·exact hU _ _ 0x1 0x1
     ·rw[A0f 0x1];exact hU _ _ hij 0x1
def QL(O:Ord n lt)(hc:Ye n lt cmp J)(h2:2<=n){G:Array Nat->Shared->Prop}(hJ:J s)(w:∀p' s',Pm n p'->Up lt p' n->J s'->G p' s'):(kas_sort n).kasWp cmp G s:=by
 unfold kas_sort;rw[KasT.kasWp_bind];refine Lr O hc (Array.Perm.refl _) h2 hJ fun q p' s' P h1 hq hU hJ'=>?_
 by_cases e:q<n
 ·rw[A0i e,show max q 1=q by lia]
  exact Lw O hc (n-q) q p' s' 0x1 P hU hJ' w
 ·rw[A0f e];have:q=n:=by lia
  subst this;exact w p' s' P hU hJ'
end
section
variable{lt:Nat->Nat->Bool}{κ:SortKind}
def Keep(a:Addr)(s s':Shared):Prop:=∀b o,b≠a->s.heap.get? b=some o->s'.heap.get? b=some o
def vR(vs:List Value):((List.range vs.length).toArray.toList.map fun i=>vs.getD i Value.none)=vs:=by
 apply List.ext_getElem
 ·simp
 ·intro i h1 h2;simp only[A4M,List.getElem_range];rw[qN,jo h2];rfl
def Ly{vs:List Value}{n0:Nat}{P:PySem.Fin->Shared->Prop}(ho:s.heap.get? a=some (seqObj "list" vs.toArray n0))(h64:vs.length<64)(O:Ord vs.length lt)
  (hk:2<=vs.length->∀(s':Shared)(Q:SortKind->Shared->Prop),Keep a s s'->Q κ s'->wpAny 0xB A (keyKind' vs.toArray) Q (fun _ _=>False) s')
  (hl:∀(i j:Nat)(s':Shared)(C:Bool->Shared->Prop),i<vs.length->j<vs.length->i≠j->Keep a s s'->(∀tk,C (lt i j) {s' with toks:=tk})->wpAny 0xB A (keyLt' κ (vs.getD i Value.none) (vs.getD j Value.none)) C (fun _ _=>False) s')
  (h:∀(p:Array Nat)(tk:Nat),Pm vs.length p->Up lt p vs.length->P (.done (.ret .none)) {s with toks:=tk,heap:=sortedHeap s.heap a vs (0x28).toArray}):
  wpAny 0xB A (Builtin.«list.sort» ⟨[.ref a],[]⟩) P E s:=by
 have ha:a<s.heap.objs.size:=A0q ho;rw[list_sort_plain];refine A0a (listItems_at ho rfl ?_);refine A0a (listUpdate_at ho rfl ?_ (by rw[A0v,A1H];lia) (A1i _));obtain⟨ep,hz⟩:∃ep,(s.heap.update a (Obj.mapSeq fun _=>#[])).get? a=some (seqObj "list" #[] ep):=⟨_,get?_update_seq ho (fun _=>#[])⟩;refine A0a (seqEpoch_at hz rfl ?_);refine A0a (wpAny_newTuple ?_ (by show vs.length<=sizeLine;rw[A1H];lia))
 refine A0a (wpAny_newList ?_ (A1i _));refine A2q ?_;have hz2:(((s.heap.update a (Obj.mapSeq fun _=>#[])).push 0x5C).push (seqObj "list" #[] 0)).get? a=some (seqObj "list" #[] ep):=A0b _ (A0b _ hz);have kp:Keep a s {s with heap:=((s.heap.update a (Obj.mapSeq fun _=>#[])).push 0x5C).push (seqObj "list" #[] 0)}:=fun b o hb q=>
  A0b _ (A0b _ ((A3l _ _ _ _ hb).trans q))
 show wpAny 0xB A _ P E {s with heap:=((s.heap.update a (Obj.mapSeq fun _=>#[])).push 0x5C).push (seqObj "list" #[] 0)}
 dsimp only;have hsz:vs.toArray.size=vs.length:=by simp
 by_cases h2:vs.toArray.size<2
 ·rw [A0i h2,A0i h2];refine A0a 0x6B;rw[StateT.run_pure];refine A0a 0x6B;dsimp only;refine A0a (seqEpoch_at hz2 rfl ?_);have eo:(arrOf (SortSt.mk' general' (vs.toArray.zip vs.toArray) #[] 7 none)).map (·.2)=vs.toArray:=by
   exact Array.map_snd_zip (as:=vs.toArray) (bs:=vs.toArray) 0x2F
  rw[eo];refine A0a (listUpdate_at hz2 rfl ?_ (hsz2:=by rw[A0v,A1H];lia));simp only[A4H,A1t,A3b];have g:=h (List.range vs.length).toArray s.toks (Array.Perm.refl _) (fun i j hij hj=>by lia);rw[vR]at g;exact A0d g
 ·rw [A0f h2,A0f h2];have h2':2<=vs.length:=by lia
  refine A0a (A1j (hk h2' _ (fun κ' s'=>κ'=κ/\s'={s with heap:=((s.heap.update a (Obj.mapSeq fun _=>#[])).push 0x5C).push (seqObj "list" #[] 0)}) kp ⟨rfl,rfl⟩) (fun κ' s' hκ=>?_) fun _ _ x=>x.elim);obtain⟨rfl,rfl⟩:=hκ;refine A0a (A1j (kat_run (κ:=κ') (ks:=vs) (vs:=vs) (Q:=fun st' s'=>∃(p:Array Nat)(tk:Nat),Pm vs.length p/\Up lt p vs.length/\arrOf st'=p.map (kas_item (vs.toArray.zip vs.toArray))/\failedOf st'=none/\s'={s with toks:=tk,heap:=((s.heap.update a (Obj.mapSeq fun _=>#[])).push 0x5C).push (seqObj "list" #[] 0)})
   (G:=fun p s'=>∃tk:Nat,Pm vs.length p/\Up lt p vs.length/\s'={s with toks:=tk,heap:=((s.heap.update a (Obj.mapSeq fun _=>#[])).push 0x5C).push (seqObj "list" #[] 0)})
   rfl h2' h64 (fun p st' s' _ a2 a3 ⟨tk,b1,b2,b3⟩=>⟨p,tk,b1,b2,a2,a3,b3⟩)
   (QL (J:=fun s'=>∃tk:Nat,s'={s with toks:=tk,heap:=((s.heap.update a (Obj.mapSeq fun _=>#[])).push 0x5C).push (seqObj "list" #[] 0)}) O (fun i j C s' hi hj hij hJ hC=>?_) h2' ⟨s.toks,rfl⟩ fun p' s' hP hU ⟨tk,e⟩=>⟨tk,hP,hU,e⟩)) ?_ fun _ _ e=>e)
  ·obtain⟨tk,rfl⟩:=hJ;exact hl i j _ C hi hj hij kp fun tk'=>hC _ ⟨tk',rfl⟩
  rintro⟨⟨⟩,st'⟩ s' ⟨p,tk,hP,hU,har,hf,rfl⟩;dsimp only;refine A0a (seqEpoch_at hz2 rfl ?_);rw[kat_snds rfl har];have lp:p.toList.length=vs.length:=by rw[A0U];exact hP.size
  refine A0a (listUpdate_at hz2 rfl ?_ (hsz2:=by rw[A0v,bY,lp,A1H];lia));rw[hf];simp only[A4H,A1t,A3b];exact A0d (h p tk hP hU)
def Ij{x:Value}
  (hc:wpAny 0xB A.in1 (collect x) (fun vs s1=>vs.length<64/\∃(lt:Nat->Nat->Bool)(κ:SortKind),Ord vs.length lt/\
   (2<=vs.length->∀(s':Shared)(R:SortKind->Shared->Prop),(∀b o,s1.heap.get? b=some o->s'.heap.get? b=some o)->R κ s'->wpAny 0xB A.in1.in1 (keyKind' vs.toArray) R (fun _ _=>False) s')/\
   (∀(i j:Nat)(s':Shared)(C:Bool->Shared->Prop),i<vs.length->j<vs.length->i≠j->(∀b o,s1.heap.get? b=some o->s'.heap.get? b=some o)->(∀tk,C (lt i j) {s' with toks:=tk})->wpAny 0xB A.in1.in1 (keyLt' κ (vs.getD i Value.none) (vs.getD j Value.none)) C (fun _ _=>False) s')/\
   ∀(p:Array Nat)(tk:Nat)(h':Heap)(e:Nat),Pm vs.length p->Up lt p vs.length->(∀b o,s1.heap.get? b=some o->h'.get? b=some o)->h'.get? s1.heap.objs.size=some (seqObj "list" (0x28).toArray e)->Q (.ref s1.heap.objs.size) {s1 with toks:=tk,heap:=h'}) (fun _ _=>False) s):
  wpAny 0xB A (call (.builtin "sorted") [x]) Q E s:=by
 refine Calls.call_function_entry kind_sorted plain_sorted entry_sorted (args_sorted1 _) ?_;unfold Builtin.«sorted»;refine A0a (m:=checkCount "sorted" 1 1 _) 0x6B;refine A0a (A1j hc (fun vs s1 ⟨h64,lt,κ,O,hk,hl,hq⟩=>?_) fun _ _ z=>z.elim);refine A0a (wpAny_newList ?_ (by show vs.length<=sizeLine;rw[A1H];lia))
 have hn:(s1.heap.push 0x82).get? s1.heap.objs.size=some 0x82:=A0m _ rfl;have old:∀b o,s1.heap.get? b=some o->b≠s1.heap.objs.size/\(s1.heap.push 0x82).get? b=some o:=fun b o q=>⟨A0I (A0q q),A0b _ q⟩
 show wpAny _ _ _ _ _ {s1 with heap:=s1.heap.push 0x82}
 refine A0a (A2q (A0X slot_list_sort ⟨_,hn,rfl⟩ entry_list_sort ?body (args_list_sort _)))
 case body=>
  refine Ly (s:={s1 with heap:=s1.heap.push 0x82}) hn h64 O (fun h2 s' R kp hR=>hk h2 s' R (fun b o q=>kp b o (old b o q).1 (old b o q).2) hR)
   (fun i j s' C hi hj hij kp hC=>hl i j s' C hi hj hij (fun b o q=>kp b o (old b o q).1 (old b o q).2) hC) fun p tk hP hU=>⟨_,rfl,A0d ⟨_,rfl,?_⟩⟩
  obtain⟨e,he⟩:=sortedHeap_at (h:=s1.heap.push 0x82) (a:=s1.heap.objs.size) (vs:=vs) (out:=(0x28).toArray) hn;refine hq p tk _ e hP hU (fun b o q=>?_) he;rw[sortedHeap_old (old b o q).1 (by have:=A0q q;rw[size_push'];exact A2Y this)];exact(old b o q).2
end
open PySem.Calls
def pN:Slot "set_iterator" "__iter__" "set_iterator.__iter__":=Slot.of (owner:="set_iterator") (n:="__iter__") (by rw[typeLookup_type,builtinLookup_eq_fast];kernel_rfl) 0x4
 (by decide+kernel) 0x4 (by first|exact .inl 0x4|exact .inr 0x4) (by rw[isSubtype_type];kernel_rfl)
def cO:Slot "set_iterator" "__next__" "set_iterator.__next__":=Slot.of (owner:="set_iterator") (n:="__next__") (by rw[typeLookup_type,builtinLookup_eq_fast];kernel_rfl) 0x4
 (by decide+kernel) 0x4 (by first|exact .inl 0x4|exact .inr 0x4) (by rw[isSubtype_type];kernel_rfl)
def uQ:entryFor table "set_iterator.__iter__"=some Builtin.«dict_keyiterator.__iter__»:=A4j (id':="dict_keyiterator.__iter__") 0x84 rfl 0x4 0x84
def iI:entryFor table "set_iterator.__next__"=some Builtin.«set_iterator.__next__»:=entryFor_of_tree 0x84
def xX:entryFor table "set.__iter__"=some Builtin.«frozenset.__iter__»:=A4j (id':="frozenset.__iter__") 0x84 rfl 0x4 0x84
def xY(a:Value):argsOk "set_iterator.__iter__" ⟨[a],[]⟩:=by unfold argsOk;kernel_rfl
def jh(a:Value):argsOk "set_iterator.__next__" ⟨[a],[]⟩:=by unfold argsOk;kernel_rfl
theorem oh{α:Type}:∀(xs:List α)(i:Nat)(hi:i<xs.length),(xs[i]::xs.eraseIdx i).Perm xs
 |[],i,h=>by simp at h
 |x::xs,0,_=>A4n _
 | x::xs,i+1,h=>by
  have:=oh xs i (by simpa using h);exact(List.Perm.swap _ _ _).trans ((List.perm_cons x).mpr this)
section
variable{M:Model}
def CN{src:Source}{Q:Nat->Shared->Prop}(hn:n≠0)(h:∀i d,i<n->Q i {s with drawn:=d}):wpAny M A (choose src n) Q E s:=by
 intro Γ p hΓ;unfold choose;rw[Sem.wp_choose];refine⟨hn,?_⟩;exact A0d (h _ _ (Nat.mod_lt _ (Nat.pos_of_ne_zero hn))) Γ p hΓ
theorem zQ{α:Type}:∀(n:Nat)(xs:List α)(s:Shared){Q:List α->Shared->Prop},xs.length=n->(∀ys d,ys.Perm xs->Q ys {s with drawn:=d})->wpAny M A (drawOrder n xs) Q E s
 | 0,[],s,Q,_,h=>by
  unfold drawOrder;exact A0d (h [] s.drawn (A4n _))
 |0,_::_,_,_,hl,_=>by simp at hl
 |_+1,[],_,_,hl,_=>by simp at hl
 | n+1,x::xs,s,Q,hl,h=>by
  unfold drawOrder;refine A0a (CN 0x8 fun i d hi=>?_);have e:(x::xs)[i]?=some (x::xs)[i]:=jo hi;rw[e];dsimp only;refine A0a (zQ n ((x::xs).eraseIdx i) {s with drawn:=d} (by rw[A4o hi];simpa using hl) fun ys d' hp=>?_);refine A0d (h _ d' ?_);exact((List.perm_cons _).mpr hp).trans (oh _ _ hi)
end
theorem Fz{α:Type}(next:Nat->Nat):∀(fuel k:Nat)(left:List α)(out:Array α),left.length=fuel->((pickOrder.go next fuel k left out).toList).Perm (out.toList++left)
 |0,_,[],out,_=>by unfold pickOrder.go;simp
 |0,_,_::_,_,h=>by simp at h
 |_+1,_,[],_,h=>by simp at h
 | fuel+1,k,x::xs,out,h=>by
  unfold pickOrder.go;have hi:next k%(x::xs).length<(x::xs).length:=Nat.mod_lt _ 0x8;have e:(x::xs)[next k%(x::xs).length]?=some (x::xs)[next k%(x::xs).length]:=jo hi;rw[e];dsimp only;refine(Fz next fuel (k+1) _ _ (by rw[A4o hi];simpa using h)).trans ?_;rw[Array.toList_push,A4w];exact(List.perm_append_left_iff _).mpr (oh _ _ hi)
def qG{α:Type}(next:Nat->Nat)(xs:Array α):((pickOrder next xs).toList).Perm xs.toList:=by
 unfold pickOrder;have:=Fz next xs.size 0 xs.toList #[] 0x8
 simpa using this
structure cQ(w:World)(h:Heap)(a:Addr)(es:Array (Int×Value))(ep:Nat)(t:SetTable):Prop where
 o:∃o,h.get? a=some o/\o.ExactSet/\o.data=.set es ep t
 fits:t.fits es.size=true
 small:es.size<scanBound
 led:w.params.followText "set-order"=false->t.led=true
 plain:1<es.size->t.plain=false
def cQ.at{t:SetTable}(x:cQ w h a es ep t)(k:∀o,h.get? a=some o->h'.get? a=some o):cQ w h' a es ep t:=
 ⟨let⟨o,ho,r⟩:=x.o;⟨o,k _ ho,r⟩,x.fits,x.small,x.led,x.plain⟩
def cQ.typeIs{t:SetTable}(x:cQ w s.heap a es ep t):s.TypeIs 0x48 "set":=let⟨o,ho,hx,_⟩:=x.o;⟨o,ho,hx.1⟩
def cQ.lt{t:SetTable}(x:cQ w h a es ep t):a<h.objs.size:=let⟨_,ho,_⟩:=x.o;A0q ho
def Ik(first:Value)(i:Nat)(a:Addr)(n ep:Nat):Obj:={cls:=.type "set_iterator",data:=.fields #[first,.int i 0,.ref a,.int n 0,.int ep 0]}
inductive Mode(w:World)(a:Addr)(es:Array (Int×Value))(ep:Nat)(t:SetTable):List Addr->(Nat->Heap->Value->Prop)->List Value->Prop
 |drawn (tp:Addr) (ps:List Nat):ps.Perm (List.range es.size)->Mode w a es ep t [tp] (fun _ h v=>v=.ref tp/\h.get? tp=some {cls:=.type "tuple",data:=.seq (ps.map fun(i:Nat)=>rawInt i).toArray}) (ps.map fun p=>(es.getD p (0,.none)).2)
 |text:w.params.followText "set-order"=true->Mode w a es ep t [] (fun _ _ v=>v=.int 0 0) ((0x4B).toList.map (·.2))
 |one:w.params.followText "set-order"=false->es.size<=1->Mode w a es ep t [] (fun i _ v=>v=.int (if i=0 then 0 else((t.place.getD 0 0+1:Nat):Int)) 0) (es.toList.map (·.2))
def zR{t:SetTable}{tps:List Addr}{F:Nat->Heap->Value->Prop}(md:Mode w a es ep t tps F ord):ord.Perm (es.toList.map (·.2)):=by
 cases md with
 | drawn tp ps hp=>
  have h:=hp.map fun p=>(es.getD p (0,Value.none)).2;have e:(List.range es.size).map (fun p=>(es.getD p (0,Value.none)).2)=es.toList.map (·.2):=by
   apply List.ext_getElem
   ·simp
   ·intro i h1 h2;simp only[A4M,List.getElem_range];have hi:i<es.size:=by simpa using h2
    rw[Array.getD,A4G hi];simp
  rw[e]at h;exact h
 |text bt=>exact(qG _ es).map _
 |one bt h1=>exact A4n _
def Lz{t:SetTable}(hs:cQ w s.heap a es ep t)
  (h:∀(h':Heap)(d:Drawn)(it:Addr)(tps:List Addr)(F:Nat->Heap->Value->Prop)(ord:List Value)(first:Value),(∀b o,s.heap.get? b=some o->h'.get? b=some o)->(∀o,s.heap.get? it≠some o)->(∀b∈tps,b≠it/\∀o,s.heap.get? b≠some o)->Mode w a es ep t tps F ord->F 0 h' first->h'.get? it=some (Ik first 0 a es.size ep)->Q 0x4E {s with heap:=h',drawn:=d}):
  wpAny 0xB A (pyIter 0x48) Q E s:=by
 obtain⟨o,ho,hx,hd⟩:=hs.o;refine A3L hs.typeIs PySem.F.slot_set_iter (A0X PySem.F.slot_set_iter hs.typeIs xX ?_ (PySem.F.args_set_iter_1 _));unfold Builtin.«frozenset.__iter__» Builtin.Frozenset.slot0 slotArgs;simp only[List.isEmpty_nil,Bool.not_true,A1t,↓reduceIte,bind_assoc,A3p,A4H];unfold Builtin.Frozenset.addrOf Builtin.Frozenset.sizeOf;refine A0a 0x6B;dsimp only;refine A0a 0x6B;refine A0a (A0a (A2v ho hd hs.fits 0x6B));have hset:∀(Q':Bool->Shared->Prop),Q' (!w.params.followText "set-order"&&(!t.plain&&decide (es.size>1))) s->wpAny 0xB A.in1 (setDrawn a) Q' E s:=fun Q' hq=>by
  unfold setDrawn;refine A0a (A2l ho hd hs.fits ?_);dsimp only;unfold setsByText;refine A0a (A0a (A1N 0x6B));exact A0d hq
 refine A0a (hset _ ?_);have CP:∀(first:Value)(h1:Heap)(d:Drawn)(tps:List Addr)(F:Nat->Heap->Value->Prop)(ord:List Value),(∀b u,s.heap.get? b=some u->h1.get? b=some u)->(∀b∈tps,b<h1.objs.size/\s.heap.objs.size<=b)->Mode w a es ep t tps F ord->(∀h2,(∀b u,h1.get? b=some u->h2.get? b=some u)->F 0 h2 first)->
   wpAny 0xB A.in1 (do
    let e<-setEpoch a
    let r<-newFields "set_iterator" [first,rawInt 0,Value.ref a,rawInt ((es.size:Nat):Int),rawInt ((e:Nat):Int)]
    ret r) (fun fin s'=>∃v,fin=Fin.done (Flow.ret v)/\∃T' r,s'.TypeIs v T'/\typeLookup (Value.type T') (Str.ofString "__next__")=pure (some r)/\Q v s') E {s with heap:=h1,drawn:=d}:=fun first h1 d tps F ord k1 ht md hF=>by
  refine A0a (wpAny_setEpoch_of (k1 _ _ ho) hd hs.fits ?_);unfold newFields;refine A0a (A1g ?_ (by size_fits));refine A0d ⟨_,rfl,"set_iterator",_,⟨_,A0m _ rfl,rfl⟩,cO.lookup,?_⟩;refine h _ d _ tps F ord first (fun b u q=>A0b _ (k1 _ _ q)) (fun u q=>absurd (A0q (k1 _ _ q)) (A1h _)) (fun b hb=>⟨A0I (ht b hb).1,fun u q=>absurd (A0o (A0q q) (ht b hb).2) (A1h _)⟩) md (hF _ fun b u q=>A0b _ q) (A0m _ rfl)
 by_cases c:(!w.params.followText "set-order"&&(!t.plain&&decide (es.size>1)))=true
 ·rw[A0i c];simp only[A1v,Bool.not_eq_true',A2m]at c;refine A0a (zQ es.size (List.range es.size) s 0x8 fun ps d hp=>?_);refine A0a (wpAny_newTuple ?_ (by rw[bY,hp.length_eq,A3J];exact A1O (A0o hs.small (by rw[A1H];decide))));exact CP 0x16 _ d _ _ _ (fun b u q=>A0b _ q) (fun b hb=>by rw[A0e.mp hb,size_push'];exact⟨A2w _,A0g _⟩) (.drawn s.heap.objs.size ps hp) fun h2 k2=>⟨rfl,k2 _ _ (A0m _ rfl)⟩
 ·rw [A0f c];refine A0a 0x6B;cases bt:w.params.followText "set-order" with
  |true=>exact CP (rawInt 0) s.heap s.drawn [] _ _ (fun _ _ q=>q) (fun b hb=>by simp at hb) (.text bt) fun _ _=>rfl
  | false=>
   have hz:es.size<=1:=by
    rcases Nat.lt_or_ge 1 es.size with z|z
    ·exact absurd (by rw[bt,hs.plain z];simpa using z) c
    ·exact z
   exact CP (rawInt 0) s.heap s.drawn [] _ _ (fun _ _ q=>q) (fun b hb=>by simp at hb) (.one bt hz) fun _ _=>rfl
def gR{first:Value}(h:s.heap.get? it=some (Ik first i a n ep)):s.TypeIs 0x4E "set_iterator":=⟨_,h,rfl⟩
def zT{R:PySem.Fin->Shared->Prop}{Q:Option Value->Shared->Prop}(hh:A.handled=none)(hQ:∀h',(∀b o,s.heap.get? b=some o->h'.get? b=some o)->Q none {s with heap:=h'}):
  wpAny 0xB A.in1 (do let e<-newExc (Value.type "StopIteration") [];(raiseNew e:Sem PySem.Fin)) R (fun e s'=>wpAny 0xB A (do
    let b<-isInstance e (Value.type "StopIteration")
    if b=true then pure none else throw e) Q E s') s:=by
 refine A0a ?_;simp only[newExc,newTuple];refine A0a (A1g ?_ (by size_fits));refine A0a (m:=firstArgMember _ _) (wpAny_of_eq (a:=Value.none) (by first|rfl|(simp only[firstArgMember];rfl)) ?_)
 refine A1g ?_ (by size_fits);simp only[raiseNew];refine A0a (wpAny_handled ?_);rw[show A.in1.handled=none from hh]
 refine A0a (A0d (wpAny_throw ?_));refine A0a (A3R (T:="StopIteration") (b:=true) ⟨_,A0m _ rfl,rfl⟩ isSubtype_stop ?_);exact A0d (hQ _ fun b u q=>A0b _ (A0b _ q))
def xZ{first y:Value}(hi:h.get? it=some (Ik first i a n ep)):(h.update it (Obj.mapFields (·.setIfInBounds 0 y))).get? it=some (Ik y i a n ep)/\(h.update it (Obj.mapFields (·.setIfInBounds 1 (rawInt ((i:Int)+1))))).get? it=some (Ik first (i+1) a n ep):=
 ⟨A1L _ hi rfl,by rw[A1L _ hi rfl];rfl⟩
def zU{t:SetTable}{slot:Int}{nx:Nat}{x:Value}{Q:Option Value->Shared->Prop}(hs:cQ w s.heap a es ep t)(hi:s.heap.get? it=some (Ik (.int slot tk) i a es.size ep))
  (hn:∀(E':Value->Shared->Prop)(Q':Option (Value×Nat)->Shared->Prop),Q' (some (x,nx)) s->wpAny 0xB A.in1 (setNext a slot.toNat i ep) Q' E' s)
  (hQ:∀h',Heap.SameBut it s.heap h'->h'.get? it=some (Ik (rawInt ((nx:Nat):Int)) (i+1) a es.size ep)->Q (some x) {s with heap:=h'}):wpAny 0xB A (pyNext 0x4E) Q E s:=by
 obtain⟨o,ho,hx,hd⟩:=hs.o;unfold pyNext;refine A0a (A2U (A0Z (name:=Str.ofString "__next__") (gR hi) cO (A0X cO (gR hi) iI ?_ (jh _))));unfold Builtin.«set_iterator.__next__»;refine A0a 0x6B;refine A0a (A4p hi rfl ?_);dsimp only;refine A0a (A2v ho hd hs.fits ?_);rw[A0f 0x8];refine A0a (hn _ _ ?_);dsimp only;have h1:=(xZ (y:=rawInt ((nx:Nat):Int)) hi).1;have h2:=(xZ (y:=rawInt 0) h1).2;refine A0a (A2c hi rfl 0x8 ?_);refine A0a (A2c h1 rfl 0x8 ?_);exact A0d ⟨_,rfl,A0d (hQ _ ((A1G ..).trans (A1G ..)) h2)⟩
def FJ{t:SetTable}{slot:Int}{Q:Option Value->Shared->Prop}(hh:A.handled=none)(hs:cQ w s.heap a es ep t)(hi:s.heap.get? it=some (Ik (.int slot tk) i a es.size ep))
  (hn:∀(E':Value->Shared->Prop)(Q':Option (Value×Nat)->Shared->Prop),Q' none s->wpAny 0xB A.in1 (setNext a slot.toNat i ep) Q' E' s)
  (hQ:∀h',(∀b o,b≠it->s.heap.get? b=some o->h'.get? b=some o)->Q none {s with heap:=h'}):wpAny 0xB A (pyNext 0x4E) Q E s:=by
 obtain⟨o,ho,hx,hd⟩:=hs.o;unfold pyNext;refine A0a (A2U (A0Z (name:=Str.ofString "__next__") (gR hi) cO (A0X cO (gR hi) iI ?_ (jh _))));unfold Builtin.«set_iterator.__next__»;refine A0a 0x6B;refine A0a (A4p hi rfl ?_);dsimp only;refine A0a (A2v ho hd hs.fits ?_);rw[A0f 0x8];refine A0a (hn _ _ ?_);dsimp only;refine A0a (A2c hi rfl 0x8 ?_);exact zT hh fun h' k=>hQ h' fun b u hb q=>k b u ((A3l _ _ _ _ hb).trans q)
def LC{tp:Addr}{t:SetTable}{ps:List Nat}{p:Nat}{e:Int×Value}{Q:Option Value->Shared->Prop}(hs:cQ w s.heap a es ep t)(hi:s.heap.get? it=some (Ik (.ref tp) i a es.size ep))
  (ht:s.heap.get? tp=some {cls:=.type "tuple",data:=.seq (ps.map fun(i:Nat)=>rawInt i).toArray})(hp:ps[i]?=some p)(he:es[p]?=some e)
  (hQ:∀h',Heap.SameBut it s.heap h'->h'.get? it=some (Ik (.ref tp) (i+1) a es.size ep)->Q (some e.2) {s with heap:=h'}):wpAny 0xB A (pyNext 0x4E) Q E s:=by
 obtain⟨o,ho,hx,hd⟩:=hs.o;unfold pyNext;refine A0a (A2U (A0Z (name:=Str.ofString "__next__") (gR hi) cO (A0X cO (gR hi) iI ?_ (jh _))));unfold Builtin.«set_iterator.__next__»;refine A0a 0x6B;refine A0a (A4p hi rfl ?_);dsimp only;refine A0a (A2v ho hd hs.fits ?_);rw[A0f 0x8];refine A0a ?_;unfold seqItems?;refine A0a (A4N ht 0x6B);dsimp only;have hpi:(ps.map fun(i:Nat)=>rawInt i).toArray[((i:Nat):Int).toNat]?=some (rawInt p):=by
  rw[A1Q];simp[hp]
 rw[hpi];dsimp only[rawInt];refine A0a ?_;unfold setNextDrawn;refine A0a (A2l ho hd hs.fits ?_);dsimp only;rw[A0f 0x8];rw[A1Q,he];refine A0d ?_;have h2:=(xZ (y:=rawInt 0) hi).2;refine A0a (A2c hi rfl 0x8 ?_);exact A0d ⟨_,rfl,A0d (hQ _ (A1G ..) h2)⟩
def QM{tp:Addr}{t:SetTable}{ps:List Nat}{Q:Option Value->Shared->Prop}(hh:A.handled=none)(hs:cQ w s.heap a es ep t)(hi:s.heap.get? it=some (Ik (.ref tp) i a es.size ep))
  (ht:s.heap.get? tp=some {cls:=.type "tuple",data:=.seq (ps.map fun(i:Nat)=>rawInt i).toArray})(hp:ps[i]?=none)
  (hQ:∀h',(∀b o,b≠it->s.heap.get? b=some o->h'.get? b=some o)->Q none {s with heap:=h'}):wpAny 0xB A (pyNext 0x4E) Q E s:=by
 obtain⟨o,ho,hx,hd⟩:=hs.o;unfold pyNext;refine A0a (A2U (A0Z (name:=Str.ofString "__next__") (gR hi) cO (A0X cO (gR hi) iI ?_ (jh _))));unfold Builtin.«set_iterator.__next__»;refine A0a 0x6B;refine A0a (A4p hi rfl ?_);dsimp only;refine A0a (A2v ho hd hs.fits ?_);rw[A0f 0x8];refine A0a ?_;unfold seqItems?;refine A0a (A4N ht 0x6B);dsimp only;have hpi:(ps.map fun(i:Nat)=>rawInt i).toArray[((i:Nat):Int).toNat]?=none:=by
  rw[A1Q];simp
  simpa using hp
 rw[hpi];dsimp only;have h1:=(xZ (y:=rawInt 0) hi).1;refine A0a (A2c hi rfl 0x8 ?_);refine A0a (A2c h1 rfl 0x8 ?_);exact zT hh fun h' k=>hQ h' fun b u hb q=>k b u ((A3l _ _ _ _ hb).trans ((A3l _ _ _ _ hb).trans q))
def zV{slot:Nat}{t:SetTable}(hs:cQ w s.heap a es ep t)(bt:w.params.followText "set-order"=true)(E':Value->Shared->Prop)(Q':Option (Value×Nat)->Shared->Prop)
  (h:Q' ((0x4B[i]?).map fun e=>(e.2,slot)) s):wpAny 0xB A (setNext a slot i ep) Q' E' s:=by
 obtain⟨o,ho,hx,hd⟩:=hs.o;unfold setNext;refine A0a (A2l ho hd hs.fits ?_);dsimp only;unfold setsByText;refine A0a (A0a (A1N 0x6B));dsimp only;rw[show(0xB).w.params.followText "set-order"=true from bt,A0i rfl,A0f 0x8]
 refine A0a ?_;unfold setWalk;refine A0a (A2l ho hd hs.fits ?_);dsimp only;unfold setsByText;refine A0a (A0a (A1N 0x6B));dsimp only;rw[show(0xB).w.params.followText "set-order"=true from bt,A0i rfl]
 refine A0a (A1N 0x6B);exact A0d h
def FN{slot:Nat}{t:SetTable}(hs:cQ w s.heap a es ep t)(bt:w.params.followText "set-order"=false)(h1:es.size<=1)(E':Value->Shared->Prop)(Q':Option (Value×Nat)->Shared->Prop)
  (h:Q' (match es[SetTable.below t.place slot]?,t.place[SetTable.below t.place slot]? with|some (_,x),some j=>some (x,j+1)|_,_=>none) s):wpAny 0xB A (setNext a slot i ep) Q' E' s:=by
 obtain⟨o,ho,hx,hd⟩:=hs.o;unfold setNext;refine A0a (A2l ho hd hs.fits ?_);dsimp only;unfold setsByText;refine A0a (A0a (A1N 0x6B));dsimp only;rw[show(0xB).w.params.followText "set-order"=false from bt,A0f A0n]
 show wpAny _ _ (if(!t.plain&&decide (es.size>1))=true then _ else _) _ _ _
 rw[A0f (by rw[A0K 0x1,A2G];exact A0n)];refine A0a ?_
 show wpAny _ _ (if(!t.led&&!es.isEmpty)=true then _ else _) _ _ _
 rw[A0f (by rw[hs.led bt];exact A0n)];refine A0d ?_;exact A0d h
def vU:SetTable.below #[j] 0=0/\SetTable.below #[j] (j+1)=1:=by
 constructor
 ·simp[SetTable.below,SetTable.below.go]
 ·simp[SetTable.below,SetTable.below.go]
def vV{t:SetTable}(h:t.fits 1=true):∃j,t.place=#[j]:=by
 simp only[SetTable.fits,A1v,A3s]at h;exact Array.size_eq_one_iff.mp h.1
def LK{t:SetTable}{tps:List Addr}{F:Nat->Heap->Value->Prop}(hh:A.handled=none)(hne:a≠it)(htp:∀b∈tps,b≠it)(md:Mode w a es ep t tps F ord):
  Walks prog w A it (it::a::tps) [it] es.size (fun i v=>ord[i]?=some v) (fun i h=>cQ w h a es ep t/\∃first,F i h first/\h.get? it=some (Ik first i a es.size ep)) where
 sub:=fun b hb=>by rw[A0e.mp hb];exact A0l
 frame:=fun i h h' ⟨hs,first,hF,hi⟩ hk=>by
  refine⟨hs.at fun o e=>hk a 0x8 o e,first,?_,hk it 0x8 _ hi⟩
  cases md with
  |drawn tp ps hp=>exact⟨hF.1,hk tp 0x8 _ hF.2⟩
  |text bt=>exact hF
  |one bt h1=>exact hF
 item:=fun i s Q E hi ⟨hs,first,hF,hit⟩ hQ=>by
  cases md with
  | drawn tp ps hp=>
   obtain⟨rfl,ht⟩:=hF;have hl:ps.length=es.size:=by rw[hp.length_eq,A3J]
   have hil:i<ps.length:=by lia
   have hpm:ps[i]<es.size:=A4e.mp (hp.mem_iff.mp (A1Z hil));refine LC hs hit ht (jo hil) (A1J hpm) fun h' sb hi'=>?_;have ht':=sb.extBut _ _ (htp tp 0x8) ht;refine hQ _ h' s.toks ?_ ⟨hs.at fun o e=>sb.extBut _ _ hne e,_,⟨rfl,ht'⟩,hi'⟩ fun b u hb e=>sb.extBut _ _ (fun z=>hb (by simp[z])) e;rw[lJ,jo hil]
   show some (es.getD ps[i] (0,Value.none)).2=some es[ps[i]].2
   rw[Array.getD,A4G hpm];rfl
  | text bt=>
   subst hF;have hl:(0x4B).size=es.size:=by have:=(qG (w.params.setOrder a ep) es).length_eq;simpa using this
   have hil:i<(0x4B).size:=by lia
   refine zU (x:=0x4B[i].2) (nx:=0) hs hit (fun E' Q' q=>zV hs bt E' Q' (by rw[A1J hil];exact q)) fun h' sb hi'=>?_;refine hQ _ h' s.toks ?_ ⟨hs.at fun o e=>sb.extBut _ _ hne e,_,rfl,hi'⟩ fun b u hb e=>sb.extBut _ _ (fun z=>hb (by simp[z])) e;rw[lJ,A2W,A1J hil];rfl
  | one bt h1=>
   obtain rfl:i=0:=by lia
   have hz:es.size=1:=by lia
   subst hF;obtain⟨j,hj⟩:=vV (by rw[<-hz];exact hs.fits);refine zU (x:=es[0].2) (nx:=j+1) hs hit (fun E' Q' q=>FN hs bt h1 E' Q' ?_) fun h' sb hi'=>?_
   ·show Q' (match es[SetTable.below t.place 0]?,t.place[SetTable.below t.place 0]? with|some (_,x),some j=>some (x,j+1)|_,_=>none) s
    rw[hj,vU.1,A1J hi];exact q
   ·refine hQ _ h' s.toks ?_ ⟨hs.at fun o e=>sb.extBut _ _ hne e,_,?_,hi'⟩ fun b u hb e=>sb.extBut _ _ (fun z=>hb (by simp[z])) e
    ·rw[lJ,A2W,A1J hi];rfl
    ·show rawInt ((j+1:Nat):Int)=Value.int (if 0+1=0 then 0 else((t.place.getD 0 0+1:Nat):Int)) 0
     rw[hj,A0f 0x1];rfl
 done:=fun s Q E ⟨hs,first,hF,hit⟩ hQ=>by
  have fin:∀h',(∀b o,b≠it->s.heap.get? b=some o->h'.get? b=some o)->Q none {s with heap:=h'}:=fun h' k=>hQ h' s.toks fun b o hb e=>k b o (fun z=>hb (by simp[z])) e;cases md with
  | drawn tp ps hp=>
   obtain⟨rfl,ht⟩:=hF;have hl:ps.length=es.size:=by rw[hp.length_eq,A3J]
   exact QM hh hs hit ht (A1M 0x1) fin
  | text bt=>
   subst hF;have hl:(0x4B).size=es.size:=by have:=(qG (w.params.setOrder a ep) es).length_eq;simpa using this
   exact FJ hh hs hit (fun E' Q' q=>zV hs bt E' Q' (by rw[A3N 0x1];exact q)) fin
  | one bt h1=>
   subst hF;refine FJ hh hs hit (fun E' Q' q=>FN hs bt h1 E' Q' ?_) fin
   by_cases hz:es.size=0
   ·rw[A3N 0x1];exact q
   ·have hz1:es.size=1:=by lia
    obtain⟨j,hj⟩:=vV (by rw[<-hz1];exact hs.fits);rw[A0f hz,hj,A1Q]
    show Q' (match es[SetTable.below #[j] (j+1)]?,(#[j]:Array Nat)[SetTable.below #[j] (j+1)]? with|some (_,x),some j=>some (x,j+1)|_,_=>none) s
    rw[vU.2,A3N 0x1];exact q
 self:=fun i s Q E ⟨_,first,_,hit⟩ hQ=>by
  refine A3L (gR hit) pN (A0X pN (gR hit) uQ ?_ (xY _))
  show wpAny _ _ (ret 0x4E) _ _ s
  exact A0d ⟨_,rfl,"set_iterator",_,gR hit,cO.lookup,hQ⟩
def QS{Q:Bool->Shared->Prop}(ht:s.TypeIs 0x48 "set")(q:Q false s):wpAny 0xB A (Builtin.List.listLengthHint 0x48) Q E s:=by
 unfold Builtin.List.listLengthHint;refine A0a (wpAny_specialOf ht PySem.F.slot_set_len.lookup ?_);generalize en:("set.__len__":String)=ZK
 wp_delta
 rw[show splitId ZK=some ("set","__len__")from by subst en;decide+kernel]
 subst en;refine A0a (A3R (T:="set") (b:=true) ht (by rw[isSubtype_type];kernel_rfl) ?_);refine A4T (fun z=>absurd z 0x6) (fun _=>?_);refine A4T (fun _=>?_) (fun z=>absurd 0x4 z);exact A0a (wpAny_typeOf ht (A0d q))
def Il{acc:Array Value}(h:ItemsOf (fun i v=>ord[i]?=some v) acc n)(hl:ord.length=n):acc.toList=ord:=by
 apply List.ext_getElem?
 intro i
 by_cases hi:i<acc.toList.length
 ·rw[jo hi];have:=h.2 i acc.toList[i] (by rw[<-A2W];exact jo hi);exact this.symm
 ·have hz:acc.toList.length=n:=by rw[A0U];exact h.1
  rw[A1M 0x1,A1M 0x1]
def zW{t:SetTable}{R:List Value->Shared->Prop}(hh:A.handled=none)(hs:cQ w s.heap a es ep t)
  (h:∀(h':Heap)(tk:Nat)(d:Drawn)(vs:List Value),(∀b o,s.heap.get? b=some o->h'.get? b=some o)->vs.Perm (es.toList.map (·.2))->R vs {s with heap:=h',toks:=tk,drawn:=d}):wpAny 0xB A (collect 0x48) R E s:=by
 have hlt:=hs.lt;have zs:es.size<=sizeLine:=A1O (A0o hs.small (by rw[A1H];decide));unfold collect;refine A0a (wpAny_runValue (A2R entry_proto_collect' ?_));rw[A2n PySem.F.plain_proto_collect _]
 show wpAny _ A.in1 (newList []>>=fun l=>again (.builtin "list.__iadd__" ⟨[l,.ref a],[]⟩)) _ _ s
 refine A0a (A1g ?_);refine A0d ⟨A3T PySem.F.plain_list_iadd _,A2R entry_list_iadd' ?_⟩;rw[A2n PySem.F.plain_list_iadd _];have l0:(s.heap.push {cls:=.type "list",data:=.seq ([]:List Value).toArray}).get? s.heap.objs.size=some {cls:=.type "list",data:=.seq #[] 0}:=A0m _ rfl;have hs0:cQ w (s.heap.push {cls:=.type "list",data:=.seq ([]:List Value).toArray}) a es ep t:=hs.at fun o e=>A0b _ e
 show wpAny _ A.in1 (Builtin.List.listExtendWith 0x16 0x48 0x16) _ _ _
 unfold Builtin.List.listExtendWith;refine A0a (wpAny_typeOf (T:="set") hs0.typeIs ?_);have ZL:Builtin.List.listSameRef 0x16 0x48=false:=by simp[Builtin.List.listSameRef,A2L hlt]
 simp only[ZL,show(Value.type "set"==Value.type "list")=false by decide,show(Value.type "set"==Value.type "tuple")=false by decide,Bool.or_false,A1t,A3b]
 refine A0a (Lz (s:={s with heap:=s.heap.push {cls:=.type "list",data:=.seq ([]:List Value).toArray}}) hs0 fun h1 d it tps F ord first k1 Y6 ntp md hF hit=>?_)
 have nS:s.heap.objs.size≠it:=fun z=>Y6 _ (by rw[<-z];exact l0);have l1:=k1 _ _ l0;have hs1:cQ w h1 a es ep t:=hs0.at fun o e=>k1 _ _ e;have na:a≠it:=fun z=>by obtain⟨o,ho,_⟩:=hs0.o;exact Y6 o (by rw[<-z];exact ho)
 have W:=LK (prog:=prog) (A:=A.in1) (it:=it) hh na (fun b hb=>(ntp b hb).1) md;have ol:ord.length=es.size:=by have:=(zR md).length_eq;simpa using this
 have key:∀(Rr:Result->Shared->Prop),(∀(h':Heap)(tk':Nat)(acc:Array Value)(c':Nat),(∀b o,s.heap.get? b=some o->h'.get? b=some o)->h'.get? s.heap.objs.size=some {cls:=.type "list",dict:=none,data:=.seq acc c',slots:=#[]}->acc.toList.Perm (es.toList.map (·.2))->Rr (.ok (.ret 0x16)) {s with heap:=h',toks:=tk',drawn:=d})->
   ∀(h2:Heap)(c tk:Nat),(∀b o,b≠s.heap.objs.size->h1.get? b=some o->h2.get? b=some o)->h2.get? s.heap.objs.size=some {cls:=.type "list",data:=.seq #[] c}->
   codeAny 0xB A (.builtin "list.extend.loop" ⟨[.ref s.heap.objs.size,.ref it,.ref s.heap.objs.size],[]⟩) Rr {s with heap:=h2,toks:=tk,drawn:=d}:=fun Rr hR h2 c tk k2 l2=>by
  have old:∀b o,s.heap.get? b=some o->h2.get? b=some o/\b≠s.heap.objs.size:=fun b o q=>by
   have hb:b≠s.heap.objs.size:=A0I (A0q q);exact⟨k2 b o hb (k1 _ _ (A0b _ q)),hb⟩
  have ZM:∀b∈tps,b≠s.heap.objs.size:=fun b hb z=>(ntp b hb).2 {cls:=.type "list",data:=.seq #[] 0} (z▸ l0);have st:cQ w h2 a es ep t/\∃first,F 0 h2 first/\h2.get? it=some (Ik first 0 a es.size ep):=by
   refine W.frame 0 h1 h2 ⟨hs1,first,hF,hit⟩ fun b hb o q=>k2 b o ?_ q
   rcases A0c.mp hb with rfl|hb
   ·exact A0k nS
   rcases A0c.mp hb with rfl|hb
   ·exact A0I hlt
   ·exact ZM b hb
  have nf:s.heap.objs.size∉it::a::tps:=fun hm=>by
   rcases A0c.mp hm with z|hm
   ·exact nS z
   rcases A0c.mp hm with z|hm
   ·exact A2L hlt z
   ·exact ZM _ hm rfl
  refine codeAny_extend_loopS W.toS zs s.heap.objs.size nf _ es.size 0 _ #[] c rfl (A1i _) st l2 (ItemsOf.nil _) fun s' acc c' hm hS hacc=>?_;rw[Moved.eq_with hm];refine hR s'.heap s'.toks acc c' (fun b o q=>hm.heap b o (fun hmem=>?_) (old b o q).1) hS (by rw[Il hacc ol];exact zR md);rcases A0c.mp hmem with z|hmem
  ·exact(old b o q).2 z
  ·exact Y6 o (by rw[<-A0e.mp hmem];exact A0b _ q)
 refine A0a (A2q (QS hs1.typeIs ?_));refine A4T (fun _=>?b1) (fun _=>A0d ⟨A3T PySem.F.plain_extend_loop _,key _ (fun h' tk' acc c' kp hS hp=>?b2) h1 0 _ (fun b o _ q=>q) l1⟩)
 case b2=>
  show wpAny _ A (load s.heap.objs.size>>=_) _ _ _
  exact A0a (A4N hS (A0d (h h' tk' d _ kp hp)))
 refine A0a (A3r ?_);refine A0a ?_
 show wpAny _ _ (updateSeq s.heap.objs.size (·.push .none)>>=fun _=>updateSeq s.heap.objs.size (·.pop)) _ _ _
 refine A0a (wpAny_updateSeq l1 rfl ?_);have l2:=A1L (Obj.mapSeq (·.push Value.none)) l1 rfl;refine wpAny_updateSeq (hz:=by seq_fits) l2 rfl ?_;have l3:=A1L (Obj.mapSeq (·.pop)) l2 rfl;refine A0d ⟨A3T PySem.F.plain_extend_loop _,key _ (fun h' tk' acc c' kp hS hp=>?b3) _ _ _ (fun b o hb q=>?b4) l3⟩
 case b3=>
  show wpAny _ A (load s.heap.objs.size>>=_) _ _ _
  exact A0a (A4N hS (A0d (h h' tk' d _ kp hp)))
 case b4=>exact(A3I _ _ (A0k hb)).trans ((A3I _ _ (A0k hb)).trans q)
def LQ(t:SetTable)(n:Nat):(t.orStandIn n).led=t.led:=by
 unfold SetTable.orStandIn
 split<;>rfl
def Im(t:SetTable)(es:Array (Int×Value))(hv:Int)(x:Value):(layNew t es hv x).2.1.led=t.led:=by
 unfold layNew
 split
 ·rename_i slot wd _
  exact LQ _ _
 ·rfl
def zX(t:SetTable)(es:Array (Int×Value))(n:Nat):(relayAll t es n).2.1.led=t.led/\(t.plain=false->(relayAll t es n).2.1.plain=false):=by
 unfold relayAll
 split
 ·rename_i t' order heq
  dsimp only
  split
  ·unfold SetTable.relaid SetTable.laid at heq;simp only[Option.bind_eq_bind,Option.bind_eq_some_iff]at heq;obtain⟨ow,_,e⟩:=heq;have e':=A0O e;rw[<-(Prod.mk.inj e').1];exact⟨rfl,fun h=>h⟩
  ·exact⟨rfl,fun _=>rfl⟩
 ·exact⟨rfl,fun _=>rfl⟩
def vW{es':Array (Int×Value)}{t t':SetTable}(hs:cQ w h a es ep t)(hf:t'.fits es'.size=true)(hb:es'.size<scanBound)(hl:t'.led=t.led)(hp:t'.plain=false):cQ w (h.update a (Obj.putSet es' t')) a es' (ep+1) t':=by
 obtain⟨o,ho,hx,hd⟩:=hs.o;have g:=A1L (Obj.putSet es' t') ho (by rw[putSet_of es' t' hd];rfl);rw[putSet_of es' t' hd]at g;exact⟨⟨_,g,hx,rfl⟩,hf,hb,fun b=>by rw[hl];exact hs.led b,fun _=>hp⟩
def QT{t:SetTable}{Q:Bool->Shared->Prop}(hs:cQ w s.heap a es ep t)(hel:ElemsOf 0x2A es.toList)(room:es.size+1<scanBound)
  (h:∀(h':Heap)(es':Array (Int×Value))(ep':Nat)(t':SetTable)(b:Bool),Heap.SameBut a s.heap h'->cQ w h' a es' ep' t'->ElemsOf 0x2A es'.toList->
   ((∃e∈es.toList,(0x2A).is z e.2=true)/\es'=es\/(∀e∈es.toList,(0x2A).is z e.2=false)/\es'.toList.Perm (es.toList++[((0x2A).hash z,.str z tk)]))->Q b {s with heap:=h'}):
  wpAny 0xB A (setAddHashed a (.str z tk) ((0x2A).hash z)) Q E s:=by
 obtain⟨o,ho,hx,hd⟩:=hs.o;have hkey:(0x2A).is z (.str z tk)=true:=A4O prog w z tk;have hsc:(Value.str z tk).scannable=true:=rfl;unfold setAddHashed setAddHashedIn;refine A2q (A0a (A2l ho hd hs.fits ?_));dsimp only;rw[byScan_of hsc hs.small hel,A0i rfl];unfold setAddByScan;refine A0a (A0a (A3r (A0a (wpAny_setScan_of hkey ho hd hs.fits hel ?_))));cases hr:List.findIdx? (fun e=>(strKind prog w).is z e.2) es.toList with
 | some j=>
  dsimp only;obtain⟨hj,hpj,_⟩:=List.findIdx?_eq_some_iff_getElem.mp hr;refine A0d 0x6B;exact h s.heap es ep t _ (Heap.SameBut.refl a s.heap) hs hel (.inl ⟨⟨_,A1Z hj,hpj⟩,rfl⟩)
 | none =>
  dsimp only;have none_:∀e∈es.toList,(0x2A).is z e.2=false:=fun e he=>by simpa using List.findIdx?_eq_none_iff.mp hr e he
  have pm:=layNew_perm t es ((0x2A).hash z) (.str z tk);have ft:=layNew_fits t es ((0x2A).hash z) (.str z tk);have ld:=Im t es ((0x2A).hash z) (.str z tk);generalize layNew t es ((0x2A).hash z) (.str z tk)=L at pm ft ld ⊢;obtain⟨es1,t1,dummy,gave⟩:=L;dsimp only at pm ft ld ⊢;rw[Array.toList_push]at pm;have el1:ElemsOf 0x2A es1.toList:=(hel.push hkey hsc).perm pm;have sz1:es1.size=es.size+1:=by rw[<-A0U,pm.length_eq,lG,A0U];rfl
  have way:∀(b:Bool){s₁:Shared}{Q':Unit->Shared->Prop}{E':Value->Shared->Prop},Q' () s₁->wpAny 0xB A (match b with|true=>rule "set.scan.the-table-gave-way"|false=>pure ()) Q' E' s₁:=fun b s₁ Q' E' q=>by
   cases b
   ·exact A0d q
   ·exact A3r q
  refine A0a (way _ ?_);have tail:∀t2:SetTable,t2.fits es1.size=true->t2.led=t.led->t2.plain=false->wpAny 0xB A (do
    storeSet a es1 t2
    if (!dummy&&t2.tooFull)=true then do
      (match(relayAll t2 es1 0x55).2.2 with|true=>rule "set.scan.the-table-gave-way"|false=>pure ())
      storeSet a (relayAll t2 es1 0x55).1 (relayAll t2 es1 0x55).2.1
      pure (some true)
     else pure (some true)) (fun r s'=>wpAny 0xB A (match r with|some added=>pure added|none=>setAddHashedIn a (.str z tk) ((0x2A).hash z) 99999) Q E s') E s:=fun t2 f2 l2 p2=>by
   have r2:=vW (es':=es1) (t':=t2) hs f2 0x1 l2 p2;refine A0a (wpAny_storeSet_of ho hd ?_ (fits_of_scanBound 0x1));have b2:=A1G s.heap a (Obj.putSet es1 t2)
   split
   ·have pr:=relayAll_perm t2 es1 0x55;have fr:=relayAll_fits t2 es1 0x55;have kr:=zX t2 es1 0x55;generalize relayAll t2 es1 0x55=L at pr fr kr ⊢;obtain⟨LR,t3,gave3⟩:=L;dsimp only at pr fr kr ⊢;have sz3:LR.size=es1.size:=by rw[<-A0U,pr.length_eq,A0U]
    obtain⟨o2,ho2,_,hd2⟩:=r2.o;refine A0a (way _ (A0a (wpAny_storeSet_of ho2 hd2 ?_ (fits_of_scanBound 0x1))));refine A0d (A0d (h _ LR _ t3 _ (b2.trans (A1G _ a _)) (vW r2 fr 0x1 kr.1 (kr.2 p2)) (el1.perm pr) (.inr ⟨none_,pr.trans pm⟩)))
   ·exact A0d (A0d (h _ es1 _ t2 _ b2 r2 el1 (.inr ⟨none_,pm⟩)))
  cases hpl:t1.plain with
  | true=>
   rw[A0i rfl];refine A0a ?_;rw[hashByValue_scannable 8 hsc];refine A0d ?_;exact tail {t1 with plain:=false} (SetTable.fits_plain_off ft) ld rfl
  | false=>
   rw[A0f A0n];refine A0a 0x6B;exact tail t1 ft ld hpl
open PySem.Spec
def cI.obj(x:cI P w H h a o):∃ob,h.get? a=some ob:=by
 cases o with
 |lst xs=>obtain⟨_,_,_,_,e⟩:=x;exact⟨_,e⟩
 |tup xs=>obtain⟨_,_,_,ob,e,_⟩:=x;exact⟨ob,e⟩
 |dK kvs=>obtain⟨_,_,_,_,ob,_,_,e,_⟩:=x;exact⟨ob,e⟩
 |dT kvs=>obtain⟨_,_,_,_,ob,_,_,e,_⟩:=x;exact⟨ob,e⟩
 |set S n=>obtain⟨ob,_,_,_,e,_⟩:=x;exact⟨ob,e⟩
 |ins C dx fs=>obtain⟨_,_,_,e,_⟩:=x;exact⟨_,e⟩
 |own y=>exact x
 |xd fs=>obtain⟨_,⟨ob,_,_,e,_⟩,_⟩:=x;exact⟨ob,e⟩
 |rng lo hi=>obtain⟨_,_,_,e⟩:=x;exact⟨_,e⟩
 |gD ob u=>obtain⟨e,_⟩:=x;exact⟨ob,e⟩
 |SX ps=>exact⟨_,x⟩
 |met f y=>exact⟨_,x⟩
 |ext φ=>obtain⟨_,e,_⟩:=x;exact e
def Inv.ZP(H':Hp)(I:Inv X pins σ H s)(k:∀b u,s.heap.get? b=some u->h'.get? b=some u)(hs:∀b u,H b=some u->H' b=some u)(hn:∀b u,H' b=some u->H b=none->(∀o,s.heap.get? b≠some o)/\cI X.prog X.w H' h' b u):
  Inv X pins σ H' {s with heap:=h',toks:=t'}:=by
 have hf:∀b o,s.heap.get? b=some o->H b=none->H' b=none:=fun b o q n=>by
  cases e:H' b with
  |none=>rfl
  |some u=>exact absurd q ((hn b u e n).1 o)
 refine I.un ⟨fun b u q _ _ _=>k b u q,fun b u q _ _ _=>⟨u.slots,k b u q⟩,fun b u q n _=>hf b u q n,fun b u q _=>⟨u,k b u q⟩,fun b xs q=>hs b _ q,fun b o u q=>hs b _ q,fun b ps q=>⟨#[],by rw[hs b _ q];simp⟩⟩ fun b u e=>?_;cases q:H b with
 |none=>exact(hn b u e q).2
 | some v=>
  have e2:=hs b v q;rw[e]at e2;cases e2;exact(I.hok b _ q).stay (fun c z _ r=>k c z r) (fun c r=>hs c _ r) fun c xs r=>hs c _ r
def rN(p d:Addr):HO:=.ext fun h=>h.IsValuesView p d
def CQ{p:Addr}(hv:h.IsValuesView p d):cI P w H h p (rN p d):=
 ⟨hv,(let⟨o,ho,_⟩:=hv;⟨o,ho⟩),fun h1 h2 ⟨o,ho,r⟩ k=>⟨o,k _ ho,r⟩⟩
def Ma(I:Inv X pins σ H s)(e:H a=some 0x18):kvs.length<=sizeLine/\0x7D=false/\∃vs ep,KV kvs vs/\s.heap.DictAt 0x4F a vs ep:=by
 obtain⟨z,hs,vs,rel,o,es,ep,r⟩:=nQ I.hok e;exact⟨z,hs,vs,ep,rel,o,es,r⟩
inductive vX(Q:VK)(x:V)(H1:Hp):Prop
 |mk(a:Addr)(kvs:List 0x20)(_:x=.ref a)(_:H1 a=some 0x18)(_:∀p,H1 p=none->Q 0x3E (upd H1 p (rN p a))):vX Q x H1
def QV(td:TE):TE:=fun σ H Q=>td σ H fun x H1=>vX Q x H1
def Io{l:Expr}(hl:PE X l tl)(hbase:attributeBase l "values" X.env (eval l X.env)=eval l X.env:=by rfl)(hline:0x69=true:=by rfl):
  PE X (.Call (.Attribute l "values" apos) [] [] cpos) (QV tl):=by
 intro pins s σ H Q I h;refine A2x hbase hline (cN (hl pins s σ H _ I h) fun v s1 zq=>?_);obtain⟨x,H1,I1,r1,a,kvs,ex,ea,q⟩:=zq;subst ex;cases r1;obtain⟨z,hs,vs,ep,rel,dat⟩:=Ma I1 ea;have hT:s1.TypeIs 0x48 "dict":=dat.dictOf.typeIs;obtain⟨o,es,ho,hx,r⟩:=id dat;refine⟨"dict","dict.values",A1R,A2s,PySem.F.type_dict_values,hT,(fun b e=>by injection e with e;subst e;exact⟨o,ho,hx.2.1⟩),?_⟩;refine A1p rfl (A3k ?_);refine A3g A2s hT PySem.F.entry_dict_values (A4q _) (meets_dict_values 0x4F a hs) ⟨⟨vs,dat.dictOf⟩,?_⟩;exact⟨.ref s1.heap.objs.size,_,I1.laid (o:=rN s1.heap.objs.size a) (t':=s1.toks) (fun b o q=>A0b _ q) 0x2F (CQ ⟨_,A0m _ rfl,rfl,rfl⟩),rfl,q _ (I1.hok.fresh 0x2F)⟩
theorem FP:∀{κ:Type}{kvs:List (κ×V)}{vs:List (κ×Value)},KV kvs vs->Vals (kvs.map (·.2)) (vs.map (·.2))
 |_,[],[],_=>.nil
 |_,_::_,_::_,.cons h t=>.cons h.2 (FP t)
inductive Mg(xs:List V)(H:Hp)(Q:VK):Prop
 |mk(v a:Addr)(kvs:List 0x20)(_:xs=[.ref v])(_:H v=some (rN v a))(_:H a=some 0x18)(_:∀p,H p=none->Q 0x3E (upd H p (.lst (kvs.map (·.2))))):Mg xs H Q
def CT(hin:X.A.handled=none):gw X (.type "list") Mg:=by
 intro pins s σ H xs us Q I r h;obtain⟨v,a,kvs,rfl,hv,ha,q⟩:=h;obtain⟨u,rfl,ru⟩:=vals1 r;cases ru;obtain⟨z,hs,vs,ep,rel,dat⟩:=Ma I ha;have vw:s.heap.IsValuesView v a:=(I.hok _ _ hv).1;have hlen:vs.length=kvs.length:=rel.length.symm;refine kdl_call (kdl_values (knd:=bQ X.prog X.w) (kvs:=vs) (ep:=ep)) hin ⟨vw,dat⟩ 0x1 fun h' tk acc c hk hS hI=>?_;have ev:acc.toList=vs.map (·.2):=kdl_vals_eq acc.toList (by rw[A0U,hI.1]) fun j w hj=>hI.2 j w (by simpa using hj);have hl:(kvs.map (·.2)).length<=sizeLine:=by rw[bY];exact z
 have hv2:=FP rel;rw[<-ev]at hv2;exact⟨.ref s.heap.objs.size,_,I.laid (o:=.lst (kvs.map (·.2))) (t':=tk) hk 0x2F ⟨hl,acc.toList,c,hv2,hS⟩,rfl,q _ 0x47⟩
inductive Mh(xs:List V)(H:Hp)(Q:VK):Prop
 |mk(a:Addr)(kvs:List 0x20)(_:xs=[.ref a])(_:H a=some 0x18)(_:∀p,H p=none->Q 0x3E (upd H p 0x18)):Mh xs H Q
def iB:gw X (.type "dict") Mh:=by
 intro pins s σ H xs us Q I r h;obtain⟨a,kvs,rfl,ha,q⟩:=h;obtain⟨u,rfl,ru⟩:=vals1 r;cases ru;obtain⟨z,hs,vs,rel,dd⟩:=nQ I.hok ha;have hlen:vs.length=kvs.length:=rel.length.symm;have low:(s.heap.objs.size==sysModules)=false:=by
  obtain⟨m,F⟩:=I.fr;have h1:sysModules<X.base.objs.size:=modules_low I.mod.nolimit;have h2:X.base.objs.size<=X.env.locals:=F.above;have h3:X.env.locals<s.heap.objs.size:=F.ns.lt;exact A1V.mpr (A2L (Nat.lt_trans (A0o h1 h2) h3))
 refine kt_call_dict (knd:=bQ X.prog X.w) hs dd 0x1 fun h' hd hb=>?_;exact⟨.ref s.heap.objs.size,_,I.laid (o:=.dK kvs) (t':=s.toks) (fun b o e=>hb.extBut _ _ (A0I (A0q e)) (A0b _ e)) 0x2F ⟨z,low,vs,rel,hd⟩,rfl,q _ 0x47⟩
def txt:Value->Str
 | .str z _=>z
 |_=>Str.empty
def iT(P:Program)(w:World)(a:Addr)(zs:List Str):HO:=.ext fun h=>∃es ep t,cQ w h a es ep t/\ElemsOf (strKind P w) es.toList/\(es.toList.map fun e=>txt e.2).Perm zs/\zs.Nodup
def FQ{t:SetTable}(r:cQ w h a es ep t)(el:ElemsOf (strKind P w) es.toList)(pm:(es.toList.map fun e=>txt e.2).Perm zs)(nd:zs.Nodup):cI P w H h a (iT P w a zs):=by
 refine⟨⟨es,ep,t,r,el,pm,nd⟩,?_,fun h1 h2 p k=>?_⟩
 ·obtain⟨o,ho,_⟩:=r.o;exact⟨o,ho⟩
 ·obtain⟨es,ep,t,r,x⟩:=p;exact⟨es,ep,t,r.at fun o e=>k _ e,x⟩
def Inv.drew(I:Inv X pins σ H s)(d:Drawn):Inv X pins σ H {s with drawn:=d}:=
 I.step (h':=s.heap) (H':=H) (g':=s.gens) (t':=s.toks) (d':=d) (ch:=[]) (fun b hb=>by simp at hb) (fun b o _ _ _ e _=>e) (fun b o _ _ _ e _=>⟨o.slots,e⟩) (fun b o _ e n=>n) (fun b o _ e=>⟨o,e⟩) (fun b xs e=>e) (fun b u xs e=>e) (fun b ps e=>⟨#[],by rw[e];simp⟩) (fun m hm=>hm) I.hok I.bare
def QW{l:List (Int×Value)}(h:ElemsOf (strKind P w) l):∀v∈l.map (·.2),∃t,v=.str (txt v) t:=fun v hv=>by
 obtain⟨e,he,rfl⟩:=A0h.mp hv;obtain⟨⟨k,hk,_⟩,_⟩:=h e he;obtain⟨t,ht⟩:=A3j hk;exact⟨t,by rw[ht];rfl⟩
inductive zY(P:Program)(w:World)(xs:List V)(H:Hp)(Q:VK):Prop
 |mk(a:Addr)(zs:List Str)(_:xs=[.ref a])(_:H a=some (iT P w a zs))(_:zs.length<64)(_:∀(l:Addr)(ys:List Str),H l=none->ys.Perm zs->ys.Pairwise (fun x y=>x.cps.toList<y.cps.toList)->Q (.ref l) (upd H l (.lst (ys.map V.str)))):zY P w xs H Q
def zZ(h:(es.toList.map fun e=>txt e.2).Perm zs):es.size=zs.length:=by have:=h.length_eq;simpa using this
def pO(hin:X.A.handled=none):gw X (.builtin "sorted") (zY X.prog X.w):=by
 intro pins s σ H xs us Q I r h;obtain⟨a,zs,rfl,ha,h64,q⟩:=h;obtain⟨u,rfl,ru⟩:=vals1 r;cases ru;obtain⟨⟨es,ep,t,raw,el,pm,nd⟩,_⟩:=I.hok _ _ ha;have hz:=zZ pm;refine Ij (zW (E:=fun _ _=>False) hin raw fun h1 tk d vs k1 pv=>?_);have lv:vs.length=zs.length:=by rw[pv.length_eq,bY,A0U,hz]
 have str:∀v∈vs,∃t,v=.str (txt v) t:=fun v hv=>QW el v (pv.mem_iff.mp hv);have pz:(vs.map txt).Perm zs:=by
  refine(pv.map txt).trans ?_;rw[A0N];exact pm
 have ndv:(vs.map txt).Nodup:=pz.nodup_iff.mpr nd;have at_:∀i(hi:i<vs.length),∃t,vs.getD i Value.none=.str (txt vs[i]) t:=fun i hi=>by
  obtain⟨t,ht⟩:=str vs[i] (A1Z hi);refine⟨t,?_⟩;rw[qN,jo hi];exact ht
 have gT:∀i(hi:i<vs.length),txt (vs.getD i Value.none)=txt vs[i]:=fun i hi=>by rw[qN,jo hi];rfl
 refine⟨by lia,fun i j=>decide ((txt (vs.getD i Value.none)).cps.toList<(txt (vs.getD j Value.none)).cps.toList),oneType',⟨fun i j k _ _ _ x y=>?_,fun i j hi hj hij c=>?_⟩,fun h2 s' R _ hR=>?_,fun i j s' C hi hj hij _ hC=>?_,fun p tk2 h2 e hP hU k2 hS=>?_⟩
 ·exact A0t (List.lt_trans (yI x) (yI y))
 ·have c':=A4m c;rw[gT i hi,gT j hj]at c' ⊢;have ne:txt vs[i]≠txt vs[j]:=by
   have pw:=A0W.mp ndv;have li:i<(vs.map txt).length:=by rw[bY];exact hi
   have lj:j<(vs.map txt).length:=by rw[bY];exact hj
   rcases A3w hij with g|g
   ·have:=pw i j li lj g;simpa using this
   ·have:=pw j i lj li g;intro z;exact this (by simpa using z.symm)
  refine A0t ?_;rcases List.le_iff_lt_or_eq.mp (List.not_lt.mp c')with z|z
  ·exact z
  ·exact absurd (rF z.symm) ne
 ·refine kas_kind (T:=Value.type "str") h2 (fun v hv=>?_) 0x6 (by rfl) hR;obtain⟨t,ht⟩:=str v hv;rw[ht];exact fun A Q E s _ q=>A0d q
 ·obtain⟨t1,e1⟩:=at_ i hi;obtain⟨t2,e2⟩:=at_ j hj;have g:=hC s'.toks;dsimp only at g;rw[e1,e2]at g ⊢;exact kas_lt_str g
 ·have lp:p.toList.length=vs.length:=by rw[A0U];exact hP.size
  have pmv:(0x28).Perm vs:=by
   have q1:p.toList.Perm (List.range vs.length):=by have:=A3e.mp hP;simpa using this
   have q2:=q1.map fun i=>vs.getD i Value.none;have ro:=vR vs;have e0:((List.range vs.length).toArray.toList.map fun i=>vs.getD i Value.none)=(List.range vs.length).map fun i=>vs.getD i Value.none:=by simp
   rw[e0]at ro;rw[ro]at q2;exact q2
  have hv:Vals (((0x28).map txt).map V.str) 0x28:=by
   generalize hw:0x28=ws at pmv;have sw:∀v∈ws,∃t,v=.str (txt v) t:=fun v hv=>str v (pmv.mem_iff.mp hv);clear hw pmv hS
   induction ws with
   |nil=>exact .nil
   | cons x ws ih=>
    obtain⟨t,ht⟩:=sw x A0l;exact .cons ⟨t,ht⟩ (ih fun v hv=>sw v (lH _ hv))
  have gl:∀o,s.heap.get? h1.objs.size≠some o:=fun o g=>absurd (A0q (k1 _ _ g)) (A1h _);have hn:H h1.objs.size=none:=by
   cases g:H h1.objs.size with
   |none=>rfl
   | some u=>
    obtain⟨ob,g2⟩:=(I.hok _ _ g).obj;exact absurd g2 (gl ob)
  refine⟨.ref h1.objs.size,upd H h1.objs.size (.lst (((0x28).map txt).map V.str)),(I.drew d).ZP (t':=tk2) _ (fun b u g=>k2 b u (k1 b u g)) (fun b u g=>by rw[ak (aA g hn)];exact g) (fun b u g n=>?_),rfl,q _ _ hn ?_ ?_⟩
  ·by_cases hb:b=h1.objs.size
   ·subst hb;rw[ao]at g;cases g;exact⟨gl,by rw[bY,bY,bY,lp,A1H];lia,_,e,hv,hS⟩
   ·rw[ak hb,n]at g;cases g
  ·exact(pmv.map txt).trans pz
  ·rw [A0W];intro i j hi hj hij;rw[bY,bY]at hi hj;simp only[A4M];have m1:p.toList[i]=pat p i:=by
    have hs:i<p.size:=by rw[<-A0U];exact hi
    unfold pat;rw[Array.getD,A4G hs];simp
   have m2:p.toList[j]=pat p j:=by
    have hs:j<p.size:=by rw[<-A0U];exact hj
    unfold pat;rw[Array.getD,A4G hs];simp
   rw[m1,m2];exact yI (hU i j hij 0x1)
def kY(zs:List Str)(z:Str):List Str:=if z∈zs then zs else zs++[z]
def CV(h:zs.Nodup):(kY zs z).Nodup:=by
 unfold kY
 split
 ·exact h
 ·rename_i q
  rw[A2o];refine⟨h,by simp,fun a ha b hb=>?_⟩;rw[A0e.mp hb];exact fun e=>q (by rw[<-e];exact ha)
def Mi:(kY zs z).length<=zs.length+1:=by
 unfold kY
 split
 ·lia
 ·simp
def jM(l:List Str):List Str:=l.foldl kY []
def vY(l:List Str)(z:Str):jM (l++[z])=kY (jM l) z:=by unfold jM;rw[A3M];rfl
def pP(l:List Str):(jM l).length<=l.length:=by
 have g:∀(l:List Str)(a:List Str),(l.foldl kY a).length<=a.length+l.length:=by
  intro l
  induction l with
  |nil=>intro a;exact A0g _
  | cons x r ih=>
   intro a;rw[A1f,rT];have h1:=ih (kY a x);have h2:=Mi (zs:=a) (z:=x);lia
 have:=g l [];unfold jM
 simpa using this
def jN(P:Program)(w:World)(h:Heap)(a:Addr)(zs:List Str):Prop:=∃es ep t,cQ w h a es ep t/\ElemsOf (strKind P w) es.toList/\(es.toList.map fun e=>txt e.2).Perm zs/\zs.Nodup
def jN.at(x:jN P w h a zs)(k:∀o,h.get? a=some o->h'.get? a=some o):jN P w h' a zs:=by
 obtain⟨es,ep,t,r,q⟩:=x;exact⟨es,ep,t,r.at k,q⟩
def jN.typeIs(x:jN P w s.heap a zs):s.TypeIs 0x48 "set":=let⟨_,_,_,r,_⟩:=x;r.typeIs
section
def Mj{l:List (Int×Value)}(h:ElemsOf 0x2A l){e:Int×Value}(he:e∈l):(0x2A).is z e.2=true↔txt e.2=z:=by
 obtain⟨⟨k,hk,_⟩,_⟩:=h e he;obtain⟨t,ht⟩:=A3j hk;rw[ht]
 constructor
 ·intro q;have q':Value.isStrOf z (Value.str k t)=true:=q;obtain⟨t',ht'⟩:=A3j q';injection ht' with h1 h2
 ·intro q;have e:k=z:=q;subst e;exact A4O prog w k t
def ZQ{Q:Bool->Shared->Prop}(hs:jN prog w s.heap a zs)(room:zs.length+1<scanBound)
  (h:∀h' b,Heap.SameBut a s.heap h'->jN prog w h' a (kY zs z)->Q b {s with heap:=h'}):wpAny 0xB A (setAddHashed a (.str z tk) ((0x2A).hash z)) Q E s:=by
 obtain⟨es,ep,t,r,el,pm,nd⟩:=hs;have hz:=zZ pm;refine QT r el 0x1 fun h' es' ep' t' b sb r' el' q=>h h' b sb ⟨es',ep',t',r',el',?_,CV nd⟩;rcases q with⟨⟨e,he,q⟩,rfl⟩|⟨no,pm'⟩
 ·have hm:z∈zs:=pm.mem_iff.mp (A0h.mpr ⟨e,he,(Mj el he).mp q⟩);unfold kY;rw[A0i hm];exact pm
 ·have hm:z∉zs:=fun c=>by
   obtain⟨e,he,q⟩:=A0h.mp (pm.mem_iff.mpr c);have:=(Mj el he).mpr q;rw[no e he]at this;cases this
  unfold kY;rw[A0f hm];refine(pm'.map fun e=>txt e.2).trans ?_;rw[lN];exact pm.append_right _
def Ml{Q:Bool->Shared->Prop}(hs:jN prog w s.heap a zs)(room:zs.length+1<scanBound)
  (h:∀h' b,Heap.SameBut a s.heap h'->jN prog w h' a (kY zs z)->Q b {s with heap:=h',toks:=s.toks+1}):wpAny 0xB A (setAdd a (.str z tk)) Q E s:=by
 unfold setAdd;refine A2q (A0a ((0x2A).pyHash (k:=z) (A4O prog w z tk) ?_));exact ZQ (s:={s with toks:=s.toks+1}) hs room h
def Ip(hs:jN prog w s.heap a zs)(room:zs.length+1<scanBound)
  (h:∀h',Heap.SameBut a s.heap h'->jN prog w h' a (kY zs z)->Q .none {s with heap:=h',toks:=s.toks+1}):wpAny 0xB A (call (.builtin "set.add") [.ref a,.str z tk]) Q E s:=by
 refine A0X PySem.F.slot_set_add hs.typeIs PySem.F.entry_set_add ?_ (PySem.F.args_set_add_2 _ _);unfold Builtin.«set.add» Builtin.Frozenset.oneOther;simp only[List.isEmpty_nil,bind_assoc];unfold Builtin.Frozenset.addrOf;refine A0a 0x6B
 try dsimp only
 refine A0a 0x6B
 try dsimp only
 refine A0a (Ml hs room fun h' b sb hT=>?_);exact A0d ⟨_,rfl,h h' sb hT⟩
def dY(w:World):Obj:={cls:=.type "set",dict:=none,data:=.set #[] 0 (.fresh 0 0 (!w.params.followText "set-order"))}
def FT(e:h.get? a=some (dY w)):jN prog w h a []:=by
 refine⟨#[],0,_,⟨⟨_,e,⟨rfl,rfl,rfl⟩,rfl⟩,by rfl,by decide,fun b=>?_,fun z=>absurd z 0x8⟩,fun e he=>by simp at he,A4n _,A4r⟩
 show(!w.params.followText "set-order")=true
 rw[b];rfl
def Mp(h:Q 0x16 {s with heap:=s.heap.push (dY w)}):wpAny 0xB A (newSet (.type "set")) Q E s:=by
 unfold newSet setsByText;refine A0a (A0a (A1N 0x6B));dsimp only[newObj];exact A0a (wpAny_alloc (A0d h))
def CW(zs:List Str)(i:Nat):(jM (zs.take i)).length<=zs.length:=A0L (pP _) (by rw[A0T];lia)
variable{R:Result->Shared->Prop}{I:Addr}{wr:List Addr}{G:Array GenState->Array GenState->Prop}{P:Nat->Value->Prop}{St:Nat->Shared->Prop}
def CZ(W:WalksS prog w A.in1 I fp wr G n P St)(S:Addr)(hSf:S∉fp)(zs:List Str)(hn:zs.length=n)(hval:∀i v,P i v->∃z t,zs[i]?=some z/\v=.str z t)(hb:n+1<scanBound):
  ∀ (k i:Nat)(s:Shared),n-i=k->i<=n->St i s->jN prog w s.heap S (jM (zs.take i))->(∀s',Moved (S::wr) G s s'->jN prog w s'.heap S (jM zs)->R (.ok (.ret .none)) s')->
   codeAny 0xB A (.builtin "set.update.loop" ⟨[.ref S,.ref I],[]⟩) R s:=by
 have hSw:S∉wr:=fun h=>hSf (W.sub _ h);have sub:∀b∈wr,b∈S::wr:=fun b hb=>lH _ hb;intro k
 induction k with
 | zero=>
  intro i s hk hi st hS hR;have hin:i=n:=by lia
  subst hin;refine A2R A3m ?_;rw[A2n A1W _]
  show wpAny _ A.in1 (pyNext (.ref I)>>=_) _ _ s
  refine A0a (W.done s _ _ st fun s' hm=>?_);rw[<-hn,A1x]at hS;exact A0d (hR s' (hm.mono sub) (hS.at fun o e=>hm.heap S _ hSw e))
 | succ k ih=>
  intro i s hk hi st hS hR;have hlt:i<n:=by lia
  refine A2R A3m ?_;rw[A2n A1W _]
  show wpAny _ A.in1 (pyNext (.ref I)>>=_) _ _ s
  refine A0a (W.item i s _ _ hlt st fun v s' hP st' hm=>?_);obtain⟨z,t,hz,rfl⟩:=hval i v hP;have hS':=hS.at fun o e=>hm.heap S _ hSw e
  show wpAny _ A.in1 (holding [Value.str z t] (setAdd S (.str z t))>>=_) _ _ s'
  have tb:=CW zs i;refine A0a (A2q (Ml hS' 0x1 fun h' b sb hT=>?_));rw[<-vY]at hT;have e1:zs.take i++[z]=zs.take (i+1):=by rw[A1S,hz];rfl
  rw[e1]at hT;refine A0d ⟨A3T A1W _,ih (i+1) _ 0x1 hlt (W.frame _ s' _ _ st' (A3x _) fun b hb o e=>?_) hT fun s2 hm2 hS2=>?_⟩
  ·rw[sb.2 b (fun h:b=S=>hSf (by rw[<-h];exact hb))];exact e
  ·refine hR s2 (Moved.trans W.gtrans ((hm.mono sub).then_heap (A3x _) fun b o hb e=>?_) hm2) hS2;rw[sb.2 b (fun h:b=S=>hb (by rw[h];exact A0l))];exact e
def QX(a:Value){Q₁:Value->Shared->Prop}(h:Q₁ 0x16 {s with heap:=s.heap.push (dY w)}):
  codeAny 0xB A (.call (.builtin "set.__new__") ⟨[.type "set",a],[]⟩) (wants Q₁ E) s:=by
 refine A4U ?_
 show wpAny _ A.in1 (do checkBuiltinCall "set.__new__" ⟨[.type "set",a],[]⟩;again (.builtin "set.__new__" ⟨[.type "set",a],[]⟩)) _ _ s
 refine A0a (wpAny_of_eq (PySem.F.newCall_set_1 a) (A0d ⟨A3T PySem.F.plain_set_new _,A2R PySem.F.entry_set_new ?_⟩));rw[A2n PySem.F.plain_set_new _];unfold Builtin.«set.__new__» Builtin.Frozenset.newClass;have hsub:=sub_set_self;obtain⟨hp,g,d,tk,os⟩:=s;dsimp only
 wp_walk
 refine A1N 0x6B;dsimp only;simp only[newObj];exact A0a (wpAny_alloc (A0d (A0d h)))
set_option maxRecDepth 100000 in
def Ir{l:Addr}(hh:A.handled=none)(hl:s.heap.IsList l its.toArray)(hi:StrsAre its zs)(hb:zs.length+1<scanBound)
  (h:∀(h':Heap)(tk:Nat),jN prog w h' s.heap.objs.size (jM zs)->(∀b o,s.heap.get? b=some o->h'.get? b=some o)->Q 0x16 {s with heap:=h',toks:=tk}):
  wpAny 0xB A (call (.type "set") [.ref l]) Q E s:=by
 obtain⟨c,tl,hmro⟩:=A1u.mro;have m1:=A1u.made;have m2:=A1u.sub;refine wpAny_call (A4U ?_)
 show wpAny 0xB _ (callAny (.type "set") ⟨[.ref l],[]⟩) _ _ _
 refine A0d ⟨Code.quiet_builtin _ 0x4,A2R PySem.F.entry_type_call ?_⟩;rw[Around.under_plain (weight_type_call_type "set" [.ref l] []) rfl];have m3:=A1u.notType;have m4:=A1u.canCreate;have m5:=PySem.F.typeCall_set_1 (.ref l)
 repeat (any_goals (first|assumption|wp_step))
 refine A3H (QX (.ref l) (E:=E) (Q₁:=fun obj s₁=>obj=.ref s.heap.objs.size/\s₁={s with heap:=s.heap.push (dY w)}) ⟨rfl,rfl⟩) fun r s₁ hr=>?_;rcases r with e|fl
 ·exact hr
 rcases fl with _|_|_|obj
 rotate_right
 ·obtain⟨rfl,rfl⟩:=hr;have hS:(s.heap.push (dY w)).get? s.heap.objs.size=some (dY w):=A0m _ rfl;have hT:Shared.TypeIs {s with heap:=s.heap.push (dY w)} 0x16 "set":=⟨_,hS,rfl⟩;have i1:=A1u.init.lookup;have i2:=A1u.init.bind 0x16
  repeat (any_goals (first|assumption|wp_step))
  refine A3H (codeAny_call_builtin (R:=wants (fun r s₂=>r=.none/\∃h' tk,s₂={s with heap:=h',toks:=tk}/\jN prog w h' s.heap.objs.size (jM zs)/\(∀b o,s.heap.get? b=some o->h'.get? b=some o)) E) A1u.init.plain PySem.F.entry_set_init (check_set_init_1 hT ?_)) fun r₂ s₂ hr₂=>?_
  ·obtain⟨ol,hol,hcl,nl,hdl⟩:=hl;obtain⟨ocls,odict,odata,oslots⟩:=ol;simp only at hcl hdl;subst hcl;subst hdl;have hol':(s.heap.push (dY w)).get? l=some {cls:=.type "list",dict:=odict,data:=.seq its.toArray nl,slots:=oslots}:=A0b _ hol;have u1:=PySem.F.sub_list_set;have u2:=PySem.F.sub_list_frozenset;have u3:(Value.type "list"==Value.type "dict")=false:=by decide
   have hl1:(s.heap.push (dY w)).IsList l its.toArray:=⟨_,hol',rfl,nl,rfl⟩;unfold Builtin.«set.__init__» noKeywords Builtin.Frozenset.updateFrom;generalize hPI:pyIter=PI
   wp_walk
   subst hPI;refine A2X hl1 ?_;refine A0a (wpAny_runValue ?_);have lS:l<s.heap.objs.size:=A0q hol;have h3:A.in1.in1.in1.handled=none:=by simp[hh]
   have ne_:l≠(s.heap.push (dY w)).objs.size:=by
    rw[A1s];exact A0I (A2Y lS)
   have nS:s.heap.objs.size∉[(s.heap.push (dY w)).objs.size,l]:=by
    rw[A1s];simp only[A0c,A0e,A0j,A0V,A3v];exact⟨A0I (A2w _),A2L lS⟩
   have hz:its.length=zs.length:=hi.length;have hval:∀(i:Nat)(v:Value),its.toArray[i]?=some v->∃z t,zs[i]?=some z/\v=.str z t:=fun i v hv=>by
    have hv':its[i]?=some v:=by simpa using hv
    clear hv hol hol' hl1 hz hb h
    induction hi generalizing i with
    |nil=>simp at hv'
    | cons y t r ih=>
     cases i with
     |zero=>simp only[A2z,Option.some.injEq]at hv';exact⟨y,t,rfl,hv'.symm⟩
     |succ j=>exact ih j (by simpa using hv')
   refine CZ ((Walks.list h3 _ l ne_ its.toArray).toS) s.heap.objs.size nS zs (by simp[hz]) hval (by simpa[hz]using hb) _ 0 _ rfl (A1i _) ⟨⟨_,A0m _ rfl,rfl,rfl⟩,(hl1.push _)⟩ ?hS0 ?hR
   case hS0=>exact FT (A0b _ hS)
   case hR=>
    intro s' hm hS';obtain⟨h',g',d',tk',os'⟩:=s';have eg:g'=s.gens:=hm.gens;have ed:d'=s.drawn:=hm.drawn;have eo:os'=s.os:=hm.os;subst eg;subst ed;subst eo;refine A0d ?_
    show wpAny _ _ (ret Value.none) _ _ _
    refine A0d ⟨rfl,h',tk',rfl,hS',fun b o e=>?_⟩;have hlt:=A0q e;have b1:b≠s.heap.objs.size:=A0I hlt;have b2:b≠(s.heap.push (dY w)).objs.size:=by
     rw[A1s];exact A0I (A2Y hlt)
    exact hm.heap b o (by simp only[A0c,A0e,A0j,A0V,A3v];exact⟨b1,b2⟩) (A0b _ (A0b _ e))
  ·rcases r₂ with e|fl₂
   ·exact hr₂
   rcases fl₂ with _|_|_|r
   rotate_right
   ·obtain⟨rfl,h',tk,rfl,hS',hk'⟩:=hr₂
    repeat (any_goals (first|assumption|wp_step))
    exact h _ _ hS' hk'
   all_goals exact hr₂.elim
 all_goals exact hr.elim
inductive Mq(X:Cx)(xs:List V)(H:Hp)(Q:VK):Prop
 |mk(p:Addr)(ss:List Str)(_:xs=[.ref p])(_:bF X.K H p 0x2C)(_:ss.length<1000)(_:∀l,H l=none->Q (.ref l) (upd H l (iT X.prog X.w l (jM ss)))):Mq X xs H Q
def Dc(hin:X.A.handled=none):gw X (.type "set") (Mq X):=by
 intro pins s σ H xs us Q I r h;obtain⟨p,ss,rfl,hq,hl,q⟩:=h;obtain⟨u,rfl,ru⟩:=vals1 r;cases ru;obtain⟨its,rv,pl,hz⟩:=I.list hq;refine Ir hin pl.isList (xH rv) (by unfold scanBound;lia) fun h' tk hT hk=>?_;obtain⟨es,ep,t,r0,el,pm,nd⟩:=hT;exact⟨.ref s.heap.objs.size,_,I.laid (o:=iT X.prog X.w s.heap.objs.size (jM ss)) (t':=tk) hk 0x2F (FQ r0 el pm nd),rfl,q _ 0x47⟩
end
end L2
namespace PySem
def jO:entryFor table "dict_valueiterator.__iter__"=some Builtin.«dict_keyiterator.__iter__»:=
 A4j (id':="dict_keyiterator.__iter__") 0x84 rfl 0x4 0x84
end PySem
namespace L2
open PySem PySem.Spec PyProof.Rows PySem.W
def Itv(a:Addr)(o:Obj)(kvs:List 0x45):It:=⟨fun i H=>H a=some 0x3B/\i<kvs.length,fun i H v H'=>H'=H/\∃kv,kvs[i]?=some kv/\v=kv.2,fun i H=>H a=some 0x3B/\kvs.length<=i⟩
section
variable{o:Obj}
def Ac(it:Addr){es:Array DictEntry}(hd:o.data=.dict es ep):
  Turn P w K tg (Itv a o kvs) [it] it (fun i h=>h.IsValIter it a i kvs.length ep) where
 mem:=by simp
 obj:=fun i h st b hb=>by
  have e:b=it:=by simpa using hb
  subst e;obtain⟨ob,e,c,d⟩:=st;exact⟨ob,e,fun v z=>by rw[d]at z;cases z⟩
 keep:=fun i h h' st k=>by
  obtain⟨ob,e,r⟩:=st;exact⟨ob,k it 0x8 ob e,r⟩
 item:=by
  intro X hP hw hK hc i pins s σ H E I hf st hg;subst hP hw hK;obtain⟨f0,f1,f2,f3,f4,f5⟩:=hf it 0x8;obtain⟨hg1,hg2⟩:=hg;obtain⟨hs,vs,rel,dat⟩:=qu I hg1 hd;have hl:kvs.length=vs.length:=rel.length;obtain⟨u,hu,ru⟩:=rel.at (jo hg2);rw[hl]at st;refine wpAny_pyNext_values_item st dat hu fun h' hit' hsb=>?_;have I1:Inv X pins σ H {s with heap:=h'}:=I.turned (t':=s.toks) (fun b ob hb e=>hsb.extBut b ob hb e) f0 f1 f3 f4 f5;obtain⟨ob,e,cc,d⟩:=id hit';refine⟨_,rfl,Ea (s:={s with heap:=h'}) e cc d 0x6 ⟨(kvs[i]).2,H,I1,ru,⟨rfl,_,jo hg2,rfl⟩,?_,fun b hb=>(hf b hb).1⟩⟩;rw[hl];exact hit'
 done:=by
  intro X hP hw hK hc i pins s σ H E I hf st hg;subst hP hw hK;obtain⟨f0,f1,f2,f3,f4,f5⟩:=hf it 0x8;obtain⟨hg1,hg2⟩:=hg;obtain⟨hs,vs,rel,dat⟩:=qu I hg1 hd;have hl:kvs.length=vs.length:=rel.length;rw[hl]at st hg2;exact wpAny_pyNext_values_end 0x95 st dat (A1M hg2) fun h' eb=>⟨rfl,I.turned (t':=s.toks) (fun b ob hb e=>eb b ob hb e) f0 f1 f3 f4 f5⟩
 self:=fun A i s Q E st h=>by
  have hT:s.TypeIs 0x4E "dict_valueiterator":=st.typeIs;refine A3L hT A3n (A0X A3n hT PySem.jO ?_ (PySem.F.args_dict_valueiterator_iter_1 _))
  show wpAny _ _ (ret 0x4E) _ _ s
  exact A0d ⟨_,rfl,"dict_valueiterator",_,hT,PySem.F.slot_dict_valueiterator_next.lookup,h⟩
inductive FW(R:It->Hp->Prop)(x:V)(H1:Hp):Prop
 |mk(a:Addr)(o:Obj)(kvs:List 0x20)(_:x=.ref a)(_:H1 a=some 0x3B)(_:R (Itv a o kvs) H1):FW R x H1
def ZR(tl:TE):TI:=fun σ H R=>tl σ H fun x H1=>FW R x H1
def QZ{l:Expr}(hl:PE X l tl)(hbase:attributeBase l "values" X.env (eval l X.env)=eval l X.env:=by rfl)(hline:0x69=true:=by rfl):
  PI X tg (.Call (.Attribute l "values" apos) [] [] cpos) (ZR tl):=by
 intro pins s σ H R I h;refine A2x hbase hline (cN (hl pins s σ H _ I h) fun v s1 zq=>?_);obtain⟨x,H1,I1,r1,a,o,kvs,ex,ea,q⟩:=zq;subst ex;cases r1;obtain⟨ho,z,hs,vs,rel,o',es,ep,ho',hx,hdd,r⟩:=id (I1.hok _ _ ea);rw[ho]at ho';cases ho';have dat:s1.heap.DictAt 0x4F a vs ep:=⟨o,es,ho,hx,hdd,r⟩;have hT:s1.TypeIs 0x48 "dict":=dat.dictOf.typeIs;refine⟨"dict","dict.values",A1R,A2s,PySem.F.type_dict_values,hT,(fun b e=>by injection e with e;subst e;exact⟨o,ho,hx.2.1⟩),?_⟩;refine A1p rfl (A3k ?_);refine A3g A2s hT PySem.F.entry_dict_values (A4q _) (meets_dict_values 0x4F a hs) ⟨⟨vs,dat.dictOf⟩,?_⟩;have hlen:kvs.length=vs.length:=rel.length;have I2:Inv X pins σ H1 {s1 with heap:=s1.heap.push {cls:=.type "dict_values",data:=.fields #[.ref a]}}:=I1.kept (t':=s1.toks) fun b o e=>A0b _ e;have Vn:(s1.heap.push {cls:=.type "dict_values",data:=.fields #[.ref a]}).DictAt 0x4F a vs ep:=dat.at' fun o e=>A0b _ e
 show wpAny _ _ (pyIter (.ref s1.heap.objs.size)) _ _ _
 refine wpAny_pyIter_values (s:={s1 with heap:=s1.heap.push {cls:=.type "dict_values",data:=.fields #[.ref a]}}) ⟨_,A0m _ rfl,rfl,rfl⟩ Vn ?_;refine⟨_,[_],_,_,H1,rfl,I2.kept (t':=s1.toks) fun b o e=>A0b _ e,Ac _ hdd,⟨_,A0m _ rfl,rfl,by rw[hlen];rfl⟩,fun b hb=>?_,q⟩;have e:=A0e.mp hb;subst e;exact I2.wL 0x2F (I2.hok.fresh 0x2F)
end
def yc(elt target iter:Expr)(ifs:List Expr)(scope:Scope)(pos:Pos)(it acc:Value)(env:Env):
  compTurn (.SetComp elt [⟨target,iter,ifs,0⟩] scope pos) 0 it acc env=(do
   standAt iter.pos
   match<-pyNext it with
   |none=>pure (.done .next)
   | some v=>
    letOwnedTupleGo target it v
    assign target env v
    let mut fine:=true
    for d in ifs do
     if fine then fine<-isTrue d env (eval d env)
    if fine then
     (do let u<-eval elt env;standAt elt.pos;let _<-call (.builtin "set.add") [acc,u])
    again (.compLoop (.SetComp elt [⟨target,iter,ifs,0⟩] scope pos) 0 it acc env)):=by rfl
def uR{R:Result->Shared->Prop}{elt target iter ifs rest scope pos it acc env}
  (h0:codeAny 0xB A (.compLoop 0x50 0 it acc env) R s)
  (h:wpAny 0xB A (pyIter it) (fun it' s'=>codeAny 0xB A (.compLoop 0x50 0 it' acc env) R s') (notedBy 0xB A env fun x s'=>R (.error x) s') s):
  codeAny 0xB A (.compStart 0x50 0 it acc env) R s:=by
 refine A4U ?_
 show wpAny _ _ ((compStart 0x50 0 it acc env).onRaise (fun x=>do noteFrame x env;standAt theWindowsPlace)) _ _ s
 refine wpAny_notedAt ?_;unfold compStart
 show wpAny _ _ (ask>>=_) _ _ s
 refine A0a (A1N (wpAny_ite ?_))
 split
 ·first
   |exact A0a (A0d (A0d (And.intro rfl h0)))
   |exact A0d (And.intro rfl h0)
 ·have go:∀{Q:Fin->Shared->Prop}{E:Value->Shared->Prop},(∀it' s',codeAny 0xB A (.compLoop 0x50 0 it' acc env) R s'->Q (.again (.compLoop 0x50 0 it' acc env)) s')->True:=fun _=>trivial;refine A0a (A3r ?_)
  show wpAny _ _ (standAt iter.pos>>=_) _ _ s
  exact A0a (A1Y (A0a (A1j h (fun it' s' h'=>A0d (And.intro rfl h')) fun _ _ x=>x)))
inductive yd(P:Program)(w:World)(J:It)(D:Addr)(σ:St)(k:Nat)(ix:List Nat)(g:TG)(tt:TT)(te:TE)(Q:VK)(H1:Hp):Prop
 |mk(W:Nat->Nat->List Str->Hp->Prop)(_:(∃m,W 0 m [] (upd H1 D (iT P w D []))))(_:∀i m zs H2,W i m zs H2->H2 D=some (iT P w D zs)/\((J.stop i H2/\Q 0x86 H2)\/(J.go i H2/\∃N:List Str->Hp->Prop,(∀zs H',N zs H'->∃m',m'<m/\W (i+1) m' zs H')/\∀x H3,J.Az i H2 x H3->g x 0x89 H3 fun σ2 H4=>Kp 0x89 σ2/\tt σ2 H4 fun b H5=>if b=true then te σ2 H5 fun y H6=>∃z,y=.str z/\H6 D=some (iT P w D zs)/\zs.length<1000/\N (kY zs z) (upd H6 D (iT P w D (kY zs z)))else N zs H5))):yd P w J D σ k ix g tt te Q H1
def VP(P:Program)(w:World)(k:Nat)(ix:List Nat)(wi:TI)(g:TG)(tt:TT)(te:TE):TE:=fun σ H Q=>wi σ H fun J H1=>∀D,H1 D=none->yd P w J D σ k ix g tt te Q H1
section
variable{elt:Expr}{ifs:List Expr}{fr:List Str}
def Iu{ob:HO}{tk:Nat}(S:cM X.N X.env.scope scope ts fr ix)(I:Inv X pins σ H s)(hf:∀b∈fp,jQ X pins H b)(hfp:∀b∈fp,b<s.heap.objs.size)
  (hD:s.heap.objs.size<=D)(hC:s.heap.objs.size<=C)(hDC:D≠C)(hk:∀b o,s.heap.get? b=some o->h1.get? b=some o)(hob:cI X.prog X.w (upd H D ob) h1 D ob){m0:Str->Option Value}(hn:h1.Ns C m0):
  Inv 0x22 [] 0x77 (upd H D ob) {s with heap:=h1,toks:=tk}:=by
 have hcl:∀x∈scope.names,x.2=.free->(X.env.cells.lookup x.1).isSome=true:=fun x hx hfx=>by
  obtain⟨c,hc⟩:=I.ok.has x.1 (S.frs x hx hfx);rw[hc];rfl
 have K4:∀b,s.heap.objs.size<=b->∀x c,X.env.cells.lookup x=some c->c≠b:=fun b hb x c e z=>by
  obtain⟨v,q⟩:=I.cell x c e;exact absurd (A0o q.lt (by rw[z];exact hb)) (A1h _)
 have K5:∀x,scope.names.lookup x=some .free->∃c,(0x71).lookup x=some c/\X.env.cells.lookup x=some c:=fun x hx=>by
  obtain⟨c,hc⟩:=qp (env:=X.env) scope.names [] (A1a hx);obtain⟨c',hc'⟩:=jK hc;exact⟨c',hc',bW hcl hc'⟩
 have Vc:∀b∈fp,b∉frs X.stack:=fun b hb z=>by
  obtain⟨_,f1,f2,_⟩:=hf b hb;rcases A0c.mp (I.wI b z)with e|e
  ·exact f1 e
  ·exact f2 e
 have hCn:H C=none:=I.hok.fresh hC;have hDn:H D=none:=I.hok.fresh hD;refine⟨⟨I.ok.mod,?_,I.ok.glob,I.ok.blt,hC,fun x y c h1 h2=>?_,fun x hx=>?_,fun x c hfx=>?_,I.ok.hd,I.ok.frames,.inl rfl,fun b hb=>⟨?_,fun x c e=>?_⟩,I.bs,A0L I.ok.Pj I.sz,fun b o e hb=>?_,Vc,I.stack,I.wJ⟩,
  rfl,I.bare,Un.laid hk hD hDn,⟨m0,hn,fun i x v e1 e2 e3=>?_⟩,fun x c e=>?_,?_,fun x c e=>?_,fun p hp=>?_,I.hok.laid hk hD hob,?_⟩
 ·show(0x97).kind=_
  exact S.kind
 ·exact I.ok.inj x y c (bW hcl h1) (bW hcl h2)
 ·have hx':(0x97).names.lookup x=some .cell\/(0x97).names.lookup x=some .free:=hx;have hfree:scope.names.lookup x=some .free:=by
   rcases hx' with q|q
   ·obtain⟨k,e,z⟩:=gM q;rcases z with z|⟨z,_⟩
    ·subst z;exact absurd rfl (S.xg _ (A1a e))
    ·rw[e,z]
   ·obtain⟨k,e,z⟩:=gM q;rcases z with z|⟨_,z⟩
    ·rw[e,<-z]
    ·cases z
  obtain⟨c,hc,_⟩:=K5 x hfree;exact⟨c,hc⟩
 ·exact absurd (show false=true from hfx) 0x6
 ·exact A0I (A0o (hfp b hb) hC)
 ·exact(hf b hb).2.2.2.2.1 x c (bW hcl e)
 ·have f:=hf b hb;rcases f.2.2.2.1 with z|z
  ·exact I.ok.Bf b o e z
  ·exact absurd (A0o (A0q (I.ok.bs b o e).1) z) (A1h _)
 ·obtain⟨a,i',hj,hi,hσ⟩:=yZ e2;subst hj;have e1':(ts++fr)[ts.length+a]?=some x:=e1;rw[A1k 0x1,Nat.add_sub_cancel_left]at e1';have hN:X.N[i']?=some x:=by
   have q:=A1r (fun l=>l[a]?) S.cap;simp only[lJ,e1',hi]at q;exact(A0O q).symm
  have hfree:=S.Z4 x (oF e1');have hk':=S.frs (x,.free) (A1a hfree) rfl;obtain⟨m,hnm,hl⟩:=I.loc;obtain⟨u,r,lk⟩:=hl i' x v hN hσ (.inr hk');refine⟨u,r,?_⟩;obtain⟨c,hc,hc'⟩:=K5 x hfree;rcases lk with⟨z,_⟩|⟨_,c2,e4,z⟩
  ·have z':X.env.scope.names.lookup x=some .local:=z;rcases hk' with y|y
   ·have y':X.env.scope.names.lookup x=some .cell:=y;rw[z']at y';cases y'
   ·have y':X.env.scope.names.lookup x=some .free:=y;rw[z']at y';cases y'
  ·have hcc:c2=c:=A0O (e4.symm.trans hc');rw[hcc]at z;obtain⟨o,ho2,hd2⟩:=z;exact .inr ⟨oX hfree,c,hc,o,hk _ _ ho2,hd2⟩
 ·obtain⟨v,o,ho2,hd2⟩:=I.cell x c (bW hcl e);exact⟨v,o,hk _ _ ho2,hd2⟩
 ·show upd H D ob C=none
  rw[ak (A0k hDC)];exact hCn
 ·show upd H D ob c=none
  rw[ak (K4 D hD x c (bW hcl e))];exact I.jA x c (bW hcl e)
 ·exact absurd (show p∈([]:List 0x1E)from hp) 0x8
 ·have e:=A1r List.length S.cap;simp only[bY]at e;rw[qQ]
  show _=(ts++fr).length
  rw[lG,e]
def R5(x:cI P w H h a (iT P w a zs)):jN P w h a zs:=x.1
def Ae(x:jN P w h a zs):cI P w H h a (iT P w a zs):=by
 obtain⟨es,ep,t,r,el,pm,nd⟩:=x;exact FQ r el pm nd
def jN.obj(x:jN P w h a zs):∃o,h.get? a=some o:=by
 obtain⟨es,ep,t,r,_⟩:=x;obtain⟨o,ho,_⟩:=r.o;exact⟨o,ho⟩
def Mr(hc:X.calm=true)(S:cM X.N X.env.scope scope ts fr ix)(hi:PI X tg iter wi)
  (hb:∀s H fp C,PG 0x22 tg g/\Yb 0x22 ifs tt/\PE 0x22 elt te)
  (hs:∀x,foldedSetIterable iter X.env x=pure x:=by intro _;rfl):PE X (.SetComp elt [⟨tg,iter,ifs,0⟩] scope pos) (VP X.prog X.w ts.length ix wi g tt te):=by
 intro pins s σ H Q I h;have hcl:∀x∈scope.names,x.2=.free->(X.env.cells.lookup x.1).isSome=true:=fun x hx hfx=>by
  obtain⟨c,hc⟩:=I.ok.has x.1 (S.frs x hx hfx);rw[hc];rfl
 show wpAny 0xA X.A (comprehension (.SetComp elt [⟨tg,iter,ifs,0⟩] scope pos) scope X.env (firstIterPos [⟨tg,iter,ifs,0⟩] pos) (newSet (.type "set")) false (eval iter X.env)) _ X.xe s
 refine wpAny_comprehension_free (use:=none) rfl hs (lE hcl) S.kind S.nms (cN (hi pins s σ H _ I h) fun v s1 h1=>cN h1 fun itv s2 h2=>?_);obtain⟨it,fp,tn,J,H2,rfl,I2,T,st2,f2,hW⟩:=h2;refine Mp (wpAny_newFunctionEnv S.xg (by intro y hy;simp at hy) (fun h₁ hns₁ hsb₁=>?_) S.kind);dsimp only at hns₁ hsb₁ ⊢;generalize hH2:s2.heap.push (dY X.w)=G2 at hns₁ hsb₁ ⊢;have Vd:G2.objs.size=s2.heap.objs.size+1:=by rw[<-hH2,A1s]
 have hDC:s2.heap.objs.size≠G2.objs.size:=by rw[Vd];exact A0I (A2w _)
 have hCle:s2.heap.objs.size<=G2.objs.size:=by rw[Vd];exact A3x _
 have old:∀b o,s2.heap.get? b=some o->h₁.get? b=some o:=fun b o e=>hsb₁.extBut b o (by rw[Vd];exact A0I (A2Y (A0q e))) (A0b _ (hH2▸ A0b _ e));have hacc:h₁.get? s2.heap.objs.size=some (dY X.w):=hsb₁.extBut _ _ hDC (A0b _ (hH2▸ A0m _ rfl));have hfp:∀b∈fp,b<s2.heap.objs.size:=fun b hb'=>by
  obtain⟨o,e,_⟩:=T.obj _ _ st2 b hb';exact A0q e
 have IC:Inv (yJ X (ts++fr) scope s2 H2 fp G2.objs.size) [] 0x77 (upd H2 s2.heap.objs.size (iT X.prog X.w s2.heap.objs.size [])) {s2 with heap:=h₁,toks:=s2.toks+([]:List (Str×Value)).length}:=
  Iu S I2 f2 hfp 0x2F hCle hDC old (Ae (FT hacc)) hns₁
 have st1:tn 0 h₁:=T.keep _ _ _ st2 fun b hb' o e=>old b o e;obtain⟨W,⟨m0,w0⟩,turn⟩:=hW s2.heap.objs.size I2.fresh;obtain⟨bg,bt,be⟩:=hb s2 H2 fp G2.objs.size;generalize hX:yJ X (ts++fr) scope s2 H2 fp G2.objs.size=Y at IC bg bt be;have eP:Y.prog=X.prog:=by rw[<-hX];rfl
 have eW:Y.w=X.w:=by rw[<-hX];rfl
 have eK:Y.K=X.K:=by rw[<-hX];rfl
 have eC:Y.calm=true:=by rw[<-hX];exact hc
 have eA:Y.A=X.A:=by rw[<-hX];rfl
 have eE:Y.env=compEnvC scope 0x71 G2.objs.size X.env:=by rw[<-hX];rfl
 have eX:Y.xe=fun _ _=>False:=by rw[<-hX];rfl
 have stat:∀{H':Hp},0x85->∀b∈fp,jQ Y [] H' b:=fun hn b hb'=>by
  rw[<-hX];have z:=IC.ok;rw[<-hX]at z;refine⟨hn b hb',(z.Y5 b hb').1,z.GP b hb',.inl hb',(z.Y5 b hb').2,fun p hp=>absurd (show p∈([]:List 0x1E)from hp) 0x8⟩
 have fr0:∀b∈fp,upd H2 s2.heap.objs.size (iT X.prog X.w s2.heap.objs.size []) b=none:=fun b hb'=>by rw[ak (A0I (hfp b hb'))];exact(f2 b hb').1
 have bot:∀{α:Type}{t:Sem α}{R:α->Shared->Prop}{E:Value->Shared->Prop}{z:Shared},wpAny (model Y.prog Y.w) Y.A t R Y.xe z->wpAny 0xA X.A t R E z:=fun{α t R E z}q=>by
  rw[eP,eW,eA,eX]at q;exact A1j q (fun _ _ y=>y) fun _ _ y=>y.elim
 have fin:∀(H':Hp)(s':Shared),Inv X pins σ H' s'->jQ X pins H' G2.objs.size->(∃m,s'.heap.Ns G2.objs.size m)->Q 0x34 H'->compPost 0xA X.A X.xe none 0x3F 0x34 G2.objs.size (.ok .next) s':=fun H' s' I' f' ⟨m,hm⟩ q'=>by
  refine⟨m,hm,fun h' sb=>⟨.ref s2.heap.objs.size,H',?_,rfl,q'⟩⟩;exact I'.turned (t':=s'.toks) (fun b o hb' e=>(sb.2 b hb').trans e) f'.1 f'.2.1 f'.2.2.2.1 f'.2.2.2.2.1 f'.2.2.2.2.2
 have loop:codeAny 0xA X.A (.compLoop (.SetComp elt [⟨tg,iter,ifs,0⟩] scope pos) 0 0x4E 0x34 (compEnvC scope 0x71 G2.objs.size X.env))
   (compPost 0xA X.A X.xe none 0x3F 0x34 G2.objs.size) {s2 with heap:=h₁,toks:=s2.toks+([]:List (Str×Value)).length}:=by
  rw[<-eE];refine codeAny_loop rfl (fun n s'=>∃i ys H',Inv Y [] 0x77 H' s'/\tn i s'.heap/\0x85/\W i n ys H') (fun n s3 hI=>?_) m0 ⟨0,[],_,IC,st1,fr0,w0⟩;obtain⟨i,ys,H3,I3,st3,T4,w3⟩:=hI
  show wpAny _ _ ((compTurn (.SetComp elt [⟨tg,iter,ifs,0⟩] scope pos) 0 0x4E 0x34 Y.env).onRaise (fun x=>do noteFrame x Y.env;theTreesLotGoes x)) _ _ s3
  refine wpAny_noted ?_;rw[yc];obtain⟨hD3,hcase⟩:=turn i n ys H3 w3;rcases hcase with⟨stop,qn⟩|⟨go,N,hN,step⟩
  ·have q:=T.done Y eP eW eK eC i [] s3 _ H3 (fun _ _=>False) I3 (stat T4) st3 stop;rw[eA]at q;refine A0a (A1Y (A0a (A1j q (fun r s4 ⟨hr,I4⟩=>?_) fun _ _ y=>y.elim)));subst hr;refine A0d ?_;have b4:Un (frs X.stack) fp H2 H3 s2.heap s4.heap:=by have z:=I4.base;rw[<-hX]at z;exact z
   have ok4:nP X.prog X.w H3 s4.heap:=by have z:=I4.hok;rw[eP,eW]at z;exact z
   have os4:s4.os=s2.os:=by have z:=I4.os;rw[<-hX]at z;exact z
   have I5:Inv X pins σ H3 s4:=I2.call' os4 b4 ok4 I4.bare fun b hb'=>⟨(f2 b hb').2.2.2.1,(f2 b hb').2.1,(f2 b hb').2.2.2.2.1,(f2 b hb').2.2.2.2.2⟩;have fC:H3 G2.objs.size=none:=by have z:=I4.free;rw[eE]at z;exact z
   have nC:∃m,s4.heap.Ns G2.objs.size m:=by obtain⟨m,z,_⟩:=I4.loc;rw[eE]at z;exact⟨m,z⟩
   exact fin H3 s4 I5 (I2.wL hCle fC) nC qn
  ·have q:=T.item Y eP eW eK eC i [] s3 _ H3 (fun _ _=>False) I3 (stat T4) st3 go;rw[eA]at q;refine A0a (A1Y (A0a (A1j q (fun r s4 ⟨u,hr,h4⟩=>?_) fun _ _ y=>y.elim)));subst hr;refine A0a (A1j h4 (fun _ s5 ⟨x,H5,I5,r5,y5,Jy,Yz⟩=>?_) fun _ _ y=>y.elim);have YB:=I5.pinned (stat Yz) (T.obj _ _ Jy);refine A0a (bot (cN (bg _ s5 _ H5 x u _ YB r5 (step x H5 y5)) fun _ s6 zq=>?_));obtain⟨σ6,H6,I6,kp6,q6⟩:=zq;refine A0a (bot (cN (bt _ s6 σ6 H6 _ I6 q6) fun ok s7 zq=>?_));obtain⟨H7,I7,q7⟩:=zq;have again:∀{H8:Hp}{s8:Shared}{zs:List Str}{m':Nat},Inv Y ([]++qd fp s5.heap) σ6 H8 s8->m'<n->W (i+1) m' zs H8->∃m,m<n/\∃i ys H',Inv Y [] 0x77 H' s8/\tn i s8.heap/\0x85/\W i m ys H':=fun{H8 s8 zs m'}I8 hm w8=>by
    refine⟨m',hm,i+1,zs,H8,(I8.lU).weak ?_ kp6,T.keep _ _ _ Jy fun b hb' o e=>(I8.pin (b,o) (A0H _ (A0H _ (iw hb' e)))).1,fun b hb'=>?_,w8⟩
    ·rw[I8.len,I3.len]
    ·obtain⟨o,e,d⟩:=T.obj _ _ Jy b hb';exact(I8.pin (b,o) (A0H _ (A0H _ (iw hb' e)))).2.1
   cases ok with
   | false=>
    rw[A0f 0x6]at q7;obtain⟨m',hm,w8⟩:=hN _ _ q7;exact A0d ⟨rfl,again I7 hm w8⟩
   | true=>
    rw[A0i rfl]at q7;refine A0a (A0a (bot (cN (be _ s7 σ6 H7 _ I7 q7) fun u8 s8 zq=>?_)));obtain⟨y8,H8,I8,r8,z8,ey,hD8,hz,n8⟩:=zq;subst ey;obtain⟨tk8,rfl⟩:=r8;obtain⟨m',hm,w8⟩:=hN _ _ n8;refine A0a (A1Y (A0a ?_));have hS8:jN X.prog X.w s8.heap s2.heap.objs.size ys:=by have z:=I8.hok _ _ hD8;rw[eP,eW]at z;exact R5 z
    refine Ip hS8 (by unfold scanBound;lia) fun h' sb hT=>?_;have new:cI Y.prog Y.w (upd H8 s2.heap.objs.size (iT X.prog X.w s2.heap.objs.size (kY ys z8))) h' s2.heap.objs.size (iT X.prog X.w s2.heap.objs.size (kY ys z8)):=by rw[eP,eW];exact Ae hT
    have I9:=kJ (t':=s8.toks+1) I8 (by rw[hD8];exact True.intro) sb hT.obj new;exact A0d (A0d ⟨rfl,again I9 hm w8⟩)
 exact uR loop (T.self _ 0 _ _ _ st1 loop)
def Dd{o:Obj}{k:Nat}{Q:VK}(Pv:Nat->List Str->Hp->Prop)(hl:∀i zs H,Pv i zs H->H a=some 0x3B)(h0:Pv 0 [] (upd H1 D (iT P w D [])))(hD:∀i zs H,Pv i zs H->H D=some (iT P w D zs))
  (hs:∀i zs H kv,kvs[i]?=some kv->Pv i zs H->g kv.2 0x89 H fun σ2 H4=>Kp 0x89 σ2/\tt σ2 H4 fun b H5=>if b=true then te σ2 H5 fun y H6=>∃z,y=.str z/\H6 D=some (iT P w D zs)/\zs.length<1000/\Pv (i+1) (kY zs z) (upd H6 D (iT P w D (kY zs z)))else Pv (i+1) zs H5)
  (hd:∀zs H,Pv kvs.length zs H->Q 0x86 H):yd P w (Itv a o kvs) D σ k ix g tt te Q H1:=by
 refine⟨fun i m ys H=>m=kvs.length-i/\i<=kvs.length/\Pv i ys H,⟨kvs.length,by simp,A1i _,h0⟩,?_⟩;rintro i m ys H ⟨rfl,hi,p⟩;refine⟨hD i ys H p,?_⟩
 by_cases hlt:i<kvs.length
 ·refine .inr ⟨⟨hl _ _ _ p,hlt⟩,Pv (i+1),fun zs H' p'=>⟨kvs.length-(i+1),by lia,rfl,hlt,p'⟩,fun x H' y=>?_⟩;obtain⟨rfl,kv,hkv,rfl⟩:=y;exact hs i ys _ kv hkv p
 ·have e:i=kvs.length:=by lia
  subst e;exact .inl ⟨⟨hl _ _ _ p,A0g _⟩,hd ys H p⟩
end
end L2
namespace M
open PySem L2
structure aL where
 n:Str
 lord:Option Str
 man:Str
 own:Int
 br:Int
 due:Int×Int
 ta:Addr
 tb:Addr
def gU:Option Str->V
 |none=>.non
 |some p=>.str p
def vZ{o:Option Str}:gU o=.str p↔o=some p:=by
 cases o with
 |none=>exact⟨fun h=>(by cases h),fun h=>(by cases h)⟩
 |some q=>exact⟨fun h=>(by injection h with e;rw[e]),fun h=>(by injection h with e;rw[e];rfl)⟩
abbrev kv(f:aL->V)(es:List aL):List 0x45:=es.map fun e=>(Sum.inr e.n,f e)
abbrev nms(es:List aL):List Str:=es.map (·.n)
abbrev gZ(es:List aL):=kv (fun e=>gU e.lord) es
abbrev hoL(es:List aL):=kv (fun e=>V.str e.man) es
abbrev lF(es:List aL):=kv (fun e=>V.int e.own) es
abbrev TQ(es:List aL):=kv (fun e=>V.int e.br) es
abbrev Rb(es:List aL):=kv (fun e=>V.ref e.ta) es
abbrev qU(es:List aL):=kv (fun e=>V.ref e.tb) es
def key_eq{a b:Str}:(Sum.inr a:Key)=.inr b↔a=b:=⟨fun h=>by injection h,fun h=>by rw[h]⟩
theorem pQ{f:aL->V}{n:Str}:∀{es:List aL},n∉nms es->bH 0x56 0x21=none
 |[],_=>rfl
 | x::r,h=>by
  have h1:x.n≠n:=fun q=>h (by rw[<-q];exact A0l)
  show bH ((Sum.inr x.n,f x)::kv f r) _=none
  rw[dX (fun q=>h1 (key_eq.mp q))];exact pQ fun q=>h (lH _ q)
theorem cu{f:aL->V}{e:aL}:∀{es:List aL},(0x31).Nodup->e∈es->bH 0x56 (.inr e.n)=some (f e)
 |[],_,h=>by cases h
 | x::r,nd,h=>by
  show bH ((Sum.inr x.n,f x)::kv f r) _=_
  have nd':=A0z.mp nd;rcases A0c.mp h with q|q
  ·subst q;exact fD rfl
  ·have ne:x.n≠e.n:=fun z=>nd'.1 (by show x.n∈nms r;rw[z];exact A0h.mpr ⟨e,q,rfl⟩)
   rw[dX (fun z=>ne (key_eq.mp z))];exact cu nd'.2 q
def cY{es:List aL}{n:Str}(h:n∈nms es):∃e∈es,e.n=n:=by
 obtain⟨e,he,q⟩:=A0h.mp h;exact⟨e,he,q⟩
def jt{f:aL->V}{es:List aL}(n:Str):(bH 0x56 0x21).isSome=decide (n∈nms es):=by
 by_cases h:n∈nms es
 ·rw [A0t h]
  induction es with
  |nil=>cases h
  | cons x r ih=>
   show(bH ((Sum.inr x.n,f x)::kv f r) _).isSome=true
   by_cases q:x.n=n
   ·rw[fD (key_eq.mpr q)];rfl
   ·rw[dX (fun z=>q (key_eq.mp z))];refine ih ?_;rcases A0c.mp h with z|z
    ·exact absurd z.symm q
    ·exact z
 ·rw[A0K h,pQ h];rfl
def fZ{f g:aL->V}{es:List aL}(h:∀e∈es,f e=g e):kv f es=kv g es:=A1e fun e he=>by rw[h e he]
def Mt{f:aL->V}{n:Str}(es:List aL):((0x56).any fun x=>decide (x.1=Sum.inr n))=decide (n∈nms es):=by rw[jT,jt]
def tZ{f:aL->V}{es:List aL}{n:Str}(h:n∈nms es):putK 0x56 0x21 v=kv (fun e=>if e.n=n then v else f e) es:=by
 unfold putK;rw[Mt,A0t h,A0i rfl]
 show(es.map _).map _=_
 rw[A0N];refine A1e fun e _=>?_
 show(if(Sum.inr e.n:Key)=.inr n then(Sum.inr e.n,v)else(Sum.inr e.n,f e))=(Sum.inr e.n,if e.n=n then v else f e)
 by_cases q:e.n=n
 ·rw[A0i (key_eq.mpr q),A0i q]
 ·rw[A0f (fun z=>q (key_eq.mp z)),A0f q]
def yg{f:aL->V}{es:List aL}{n:Str}(h:n∉nms es):putK 0x56 0x21 v=kv f es++[(.inr n,v)]:=Kf v (pQ h)
def kZ{f:aL->V}{es:List aL}{n:Str}:iQ 0x56 0x21=kv f (es.filter fun e=>decide (e.n≠n)):=by
 unfold iQ;rw[A3q]
 congr 1
 refine A4I fun e _=>?_
 show decide ((Sum.inr e.n:Key)≠.inr n)=decide (e.n≠n)
 exact A3h.mpr ⟨fun h q=>h (key_eq.mpr q),fun h q=>h (key_eq.mp q)⟩
def iV{f:aL->V}{g:aL->aL}{es:List aL}(hg:∀e,(g e).n=e.n):kv f (es.map g)=kv (fun e=>f (g e)) es:=by
 show(es.map g).map _=_
 rw[A0N];refine A1e fun e _=>?_
 show(Sum.inr (g e).n,f (g e))=_
 rw[hg]
def VR{f:aL->V}{es:List aL}{x:aL}:kv f (es++[x])=kv f es++[(.inr x.n,f x)]:=lN
def gq{f:aL->V}{es:List aL}:(0x56).length=es.length:=bY _
def Af{f:aL->V}{es:List aL}:∀(ss:List Str),(∀s∈ss,s∈nms es)->moved 0x56 ss p=kv (fun e=>if e.n∈ss then V.str p else f e) es:=by
 intro ss;unfold moved
 induction ss generalizing f with
 |nil=>intro _;exact fZ fun e _=>by rw[A0f 0x8]
 | cons s r ih=>
  intro h;rw[A1f,tZ (h s A0l),ih fun x hx=>h x (lH _ hx)];refine fZ fun e _=>?_
  by_cases q:e.n∈r
  ·rw[A0i q,A0i (lH _ q)]
  ·rw [A0f q]
   by_cases z:e.n=s
   ·rw[A0i z,A0i (by rw[z];exact A0l)]
   ·rw[A0f z,A0f];intro c;rcases A0c.mp c with y|y
    ·exact z y
    ·exact q y
def rO{f:aL->V}(p:Key×V->Bool)(es:List aL):((0x56).filter p).map iz=(es.filter fun e=>p (.inr e.n,f e)).map (·.n):=by
 rw[A3q,A0N];rfl
def pR{f:aL->V}{es:List aL}:TK 0x56:=fun x hx=>by
 obtain⟨e,he,rfl⟩:=A0h.mp hx;rfl
def Mu{es:List aL}:TV 0x96:=fun x hx=>by
 obtain⟨e,he,rfl⟩:=A0h.mp hx
 show gU e.lord=.non\/∃s,gU e.lord=.str s
 cases e.lord with
 |none=>exact .inl rfl
 |some p=>exact .inr ⟨p,rfl⟩
def Mv{es:List aL}:TV (hoL es):=fun x hx=>by
 obtain⟨e,he,rfl⟩:=A0h.mp hx;exact .inr ⟨_,rfl⟩
def Ord:List Str->List aL->Prop
 |_,[]=>True
 |seen,e::r=>(∃p,e.lord=some p/\p∈seen)/\Ord (e.n::seen) r
theorem Ord.snoc:∀{r:List aL}{s:List Str}{x:aL}{p:Str},Ord s r->x.lord=some p->(p∈s\/p∈nms r)->Ord s (r++[x])
 |[],s,x,p,_,hx,h=>⟨⟨p,hx,h.elim id fun q=>by cases q⟩,True.intro⟩
 | e::r,s,x,p,⟨h1,h2⟩,hx,h=>⟨h1,Ord.snoc (r:=r) h2 hx (by
   rcases h with q|q
   ·exact .inl (lH _ q)
   ·rcases A0c.mp q with z|z
    ·exact .inl (by rw[z];exact A0l)
    ·exact .inr z)⟩
theorem Ord.map{g:aL->aL}(h1:∀e,(g e).n=e.n)(h2:∀e,(g e).lord=e.lord):∀{r:List aL}{s:List Str},Ord s r->Ord s (r.map g)
 |[],_,_=>True.intro
 |e::r,s,⟨⟨p,hp,hs⟩,ho⟩=>⟨⟨p,by rw[h2,hp],hs⟩,by rw[h1];exact Ord.map h1 h2 ho⟩
theorem Ord.lord:∀{r:List aL}{s:List Str},Ord s r->∀e∈r,∃p,e.lord=some p/\(p∈s\/p∈nms r)
 | e::r,s,⟨⟨p,hp,hs⟩,ho⟩,x,hx=>by
  rcases A0c.mp hx with q|q
  ·subst q;exact⟨p,hp,.inl hs⟩
  ·obtain⟨p',h1,h2⟩:=Ord.lord ho x q;refine⟨p',h1,?_⟩;rcases h2 with z|z
   ·rcases A0c.mp z with y|y
    ·exact .inr (by rw[y];exact A0l)
    ·exact .inl y
   ·exact .inr (lH _ z)
def Dg(e p:Str)(a:Int)(y:aL):aL:={y with lord:=if y.lord=some e then some p else y.lord,own:=if y.n=p then y.own+a else y.own}
theorem Ord.fall{e:Str}{a:Int}:∀{r:List aL}{s t:List Str},Ord s r->(∀x∈r,x.n=e->x.lord=some p)->(∀x∈s,x≠e->x∈t)->(e∈s->p∈t)->p≠e->Ord t ((r.filter fun y=>decide (y.n≠e)).map (Dg e p a))
 |[],_,_,_,_,_,_,_=>True.intro
 | y::r,s,t,⟨⟨q,hq,hs⟩,ho⟩,hl,h1,h2,hp=>by
  have tl:∀x∈r,x.n=e->x.lord=some p:=fun x hx=>hl x (lH _ hx)
  by_cases c:y.n=e
  ·rw [A2H (by simpa using c)];have hy:=hl y A0l c;refine Ord.fall (s:=y.n::s) (t:=t) ho tl (fun x hx hne=>?_) (fun _=>?_) hp
   ·rcases A0c.mp hx with z|z
    ·exact absurd (z.trans c) hne
    ·exact h1 x z hne
   ·rw[hq]at hy;injection hy with hy;exact h1 p (hy▸ hs) hp
  ·rw [A1T (by simpa using c),A0r];refine⟨?_,Ord.fall (s:=y.n::s) (t:=y.n::t) ho tl (fun x hx hne=>?_) (fun hx=>?_) hp⟩
   ·show ∃p',(if y.lord=some e then some p else y.lord)=some p'/\p'∈t
    by_cases z:y.lord=some e
    ·rw[hq]at z;injection z with z;exact⟨p,by rw[A0i (by rw[hq,z])],h2 (z▸ hs)⟩
    ·have:q≠e:=fun w=>z (by rw[hq,w]);exact⟨q,by rw[A0f z,hq],h1 q hs this⟩
   ·rcases A0c.mp hx with z|z
    ·rw[z];exact A0l
    ·exact lH _ (h1 x z hne)
   ·rcases A0c.mp hx with z|z
    ·exact absurd z.symm c
    ·exact lH _ (h2 z)
def mF{F G:aL->Int}{es:List aL}(h:∀y∈es,G y=F y):(es.map G).sum=(es.map F).sum:=by rw[A1e h]
theorem rP{F G:aL->Int}{e0:aL}:∀{es:List aL},(0x31).Nodup->e0∈es->(∀y∈es,y.n≠e0.n->G y=F y)->(es.map G).sum=(es.map F).sum-F e0+G e0
 |[],_,h,_=>by cases h
 | x::r,nd,h,hg=>by
  have nd':=A0z.mp nd;simp only[A0r,A0G];rcases A0c.mp h with q|q
  ·subst q;rw[mF (F:=F) (G:=G) (es:=r) fun y hy=>hg y (lH _ hy) fun z=>nd'.1 (show e0.n∈nms r by rw[<-z];exact A0h.mpr ⟨y,hy,rfl⟩)]
   lia
  ·have ne:x.n≠e0.n:=fun z=>nd'.1 (show x.n∈nms r by rw[z];exact A0h.mpr ⟨e0,q,rfl⟩)
   rw[hg x A0l ne,rP nd'.2 q fun y hy=>hg y (lH _ hy)];lia
theorem u6{F:aL->Int}{e0:aL}:∀{es:List aL},(0x31).Nodup->e0∈es->((0xF).map F).sum=(es.map F).sum-F e0
 |[],_,h=>by cases h
 | x::r,nd,h=>by
  have nd':=A0z.mp nd;rcases A0c.mp h with q|q
  ·subst q;have:(r.filter fun y=>decide (y.n≠e0.n))=r:=List.filter_eq_self.mpr fun y hy=>by
    refine A0t fun z=>nd'.1 (show e0.n∈nms r by rw[<-z];exact A0h.mpr ⟨y,hy,rfl⟩)
   rw[A2H 0x8,this,A0r,A0G];lia
  ·have ne:x.n≠e0.n:=fun z=>nd'.1 (show x.n∈nms r by rw[z];exact A0h.mpr ⟨e0,q,rfl⟩)
   rw[A1T (by simpa using ne),A0r,A0r,A0G,A0G,u6 nd'.2 q];lia
theorem sum_add{F G:aL->Int}:∀(es:List aL),(es.map fun y=>F y+G y).sum=(es.map F).sum+(es.map G).sum
 |[]=>rfl
 |x::r=>by simp only[A0r,A0G,sum_add r];lia
theorem uc{F:aL->Int}:∀{es:List aL},(∀y∈es,F y=0)->(es.map F).sum=0
 |[],_=>rfl
 |x::r,h=>by rw[A0r,A0G,h x A0l,uc fun y hy=>h y (lH _ hy)];rfl
theorem Mw{F:aL->Int}:∀{es:List aL},(∀y∈es,0<=F y)->0<=(es.map F).sum
 |[],_=>Int.le_refl _
 | x::r,h=>by
  rw[A0r,A0G];have h1:=h x A0l;have h2:=Mw (F:=F) (es:=r) fun y hy=>h y (lH _ hy);lia
def Sb(es:List aL)(q:Str):Int:=(es.map fun y=>if y.lord=some q then y.br else 0).sum
structure WF(es:List aL):Prop where
 nd:(0x31).Nodup
 hd:∃c r,es=c::r/\c.n=""/\c.lord=none/\Ord [""] r
 bnd:∀e∈es,0<=e.own/\0<=e.br/\e.br<=9999
 br:∀e∈es,e.br=e.own+Sb es e.n
 ok:∀e∈es,PyData.strOk e.n=true
def WF.lord{es:List aL}(W:WF es):∀e∈es,e.n≠""->∃p,e.lord=some p/\p∈nms es/\p≠e.n:=by
 obtain⟨c,r,rfl,hc,hl,ho⟩:=W.hd;intro e he hne;rcases A0c.mp he with q|q
 ·rw[q]at hne;exact absurd hc hne
 ·obtain⟨p,hp,hm⟩:=ho.lord e q;refine⟨p,hp,?_,?_⟩
  ·rcases hm with z|z
   ·rw[A0e.mp z,<-hc];exact A0l
   ·exact lH _ z
  ·-- not its own lord
   have key:∀{r:List aL}{s:List Str},Ord s r->(nms r).Nodup->(∀x∈s,x∉nms r)->∀e∈r,e.lord≠some e.n:=by
    intro r
    induction r with
    |nil=>intro s _ _ _ e he;cases he
    | cons y r ih=>
     rintro s ⟨⟨p,hp,hs⟩,ho⟩ nd hx e he;have nd':=A0z.mp nd;rcases A0c.mp he with q|q
     ·rw[q,hp];intro z;injection z with z;exact hx p hs (by rw[z];exact A0l)
     ·refine ih ho nd'.2 (fun x hxs=>?_) e q;rcases A0c.mp hxs with z|z
      ·rw[z];exact nd'.1
      ·exact fun w=>hx x z (lH _ w)
   have nd':=A0z.mp W.nd;have:=key ho nd'.2 (fun x hx=>by rw[A0e.mp hx,<-hc];exact nd'.1) e q;intro z;exact this (by rw[hp,z])
def WF.crown{es:List aL}(W:WF es):∀e∈es,e.n=""->e.lord=none:=by
 obtain⟨c,r,rfl,hc,hl,ho⟩:=W.hd;intro e he h;have nd':=A0z.mp W.nd;rcases A0c.mp he with q|q
 ·rw[q];exact hl
 ·exact absurd (show c.n∈nms r by rw[hc,<-h];exact A0h.mpr ⟨e,q,rfl⟩) nd'.1
def WF.W0{es:List aL}(W:WF es):("":Str)∈nms es:=by
 obtain⟨c,r,rfl,hc,_⟩:=W.hd;rw[<-hc];exact A0l
def WF.W2{es:List aL}(W:WF es){n:Str}(h:n∉nms es):∀y∈es,y.lord≠some n:=fun y hy q=>by
 by_cases c:y.n=""
 ·rw[W.crown y hy c]at q;cases q
 ·obtain⟨p,hp,hm,_⟩:=W.lord y hy c;rw[hp]at q;injection q with q;exact h (q▸ hm)
def WF.sb0{es:List aL}(W:WF es){n:Str}(h:n∉nms es):Sb es n=0:=uc fun y hy=>A0f (W.W2 h y hy)
def WF.sbn{es:List aL}(W:WF es)(q:Str):0<=Sb es q:=Mw fun y hy=>by
 split
 ·exact(W.bnd y hy).2.1
 ·exact Int.le_refl _
def WF.uf{es:List aL}(W:WF es):∀e∈es,e.own<=e.br:=fun e he=>by
 have h1:=W.br e he;have h2:=W.sbn e.n;lia
def mod(n:Str)(g:aL->aL)(es:List aL):List aL:=es.map fun y=>if y.n=n then g y else y
def rQ{n:Str}{g:aL->aL}(hg:∀e,(g e).n=e.n)(es:List aL):nms (mod n g es)=nms es:=by
 unfold mod
 show(es.map _).map _=_
 rw[A0N];refine A1e fun e _=>?_
 show(if e.n=n then g e else e).n=e.n
 split
 ·exact hg e
 ·rfl
def cH{n:Str}{g:aL->aL}{es:List aL}{y:aL}(h:y∈mod n g es):∃y0∈es,y=if y0.n=n then g y0 else y0:=by
 obtain⟨y0,h0,q⟩:=A0h.mp h;exact⟨y0,h0,q.symm⟩
def Mx{f:aL->V}{n:Str}{g:aL->aL}(hg:∀e,(g e).n=e.n)(es:List aL):kv f (mod n g es)=kv (fun e=>if e.n=n then f (g e)else f e) es:=by
 unfold mod;rw[iV (g:=fun y=>if y.n=n then g y else y) (fun e=>by split;exact hg e;rfl)]
 exact fZ fun e _=>by split<;>rfl
def dN{f:aL->V}{n:Str}{g:aL->aL}(hg:∀e,(g e).n=e.n)(hf:∀e,f (g e)=f e)(es:List aL):kv f (mod n g es)=kv f es:=by
 rw[Mx hg];exact fZ fun e _=>by split;exact hf e;rfl
def MF{n:Str}{g:aL->aL}(hg:∀e,(g e).n=e.n)(hl:∀e,(g e).lord=e.lord){es:List aL}(h:∃c r,es=c::r/\c.n=""/\c.lord=none/\Ord [""] r):∃c r,mod n g es=c::r/\c.n=""/\c.lord=none/\Ord [""] r:=by
 obtain⟨c,r,rfl,hc,hcl,ho⟩:=h;refine⟨_,_,rfl,?_,?_,Ord.map (fun e=>?_) (fun e=>?_) ho⟩
 ·show(if c.n=n then g c else c).n=""
  split
  ·rw[hg,hc]
  ·exact hc
 ·show(if c.n=n then g c else c).lord=none
  split
  ·rw[hl,hcl]
  ·exact hcl
 ·show(if e.n=n then g e else e).n=e.n
  split
  ·exact hg e
  ·rfl
 ·show(if e.n=n then g e else e).lord=e.lord
  split
  ·exact hl e
  ·rfl
def W3{n:Str}{g:aL->aL}(hl:∀e,(g e).lord=e.lord){es:List aL}{e0:aL}(nd:(0x31).Nodup)(h0:e0∈es)(hn:e0.n=n)(q:Str):Sb (mod n g es) q=Sb es q+(if e0.lord=some q then(g e0).br-e0.br else 0):=by
 unfold Sb mod;rw[A0N];rw[rP (F:=fun y=>if y.lord=some q then y.br else 0) (e0:=e0) nd h0 (fun y hy ne=>?_)]
 ·show _-(if e0.lord=some q then e0.br else 0)+(if(if e0.n=n then g e0 else e0).lord=some q then(if e0.n=n then g e0 else e0).br else 0)=_
  rw[A0i hn,hl]
  by_cases c:e0.lord=some q
  ·rw[A0i c,A0i c,A0i c];lia
  ·rw[A0f c,A0f c,A0f c];lia
 ·show(if(if y.n=n then g y else y).lord=some q then(if y.n=n then g y else y).br else 0)=_
  have c:¬y.n=n:=by rw[<-hn];exact ne
  rw[A0f c]
def W4(es:List aL)(x:aL)(q:Str):Sb (es++[x]) q=Sb es q+(if x.lord=some q then x.br else 0):=by
 unfold Sb;rw[lN,A2S];simp
def fO{es:List aL}(nd:(0x31).Nodup){a b:aL}(ha:a∈es)(hb:b∈es)(h:a.n=b.n):a=b:=by
 induction es with
 |nil=>cases ha
 | cons x r ih=>
  have nd':=A0z.mp nd;rcases A0c.mp ha with p|p<;>rcases A0c.mp hb with q|q
  ·rw[p,q]
  ·exact absurd (show x.n∈nms r by rw[<-p,h];exact A0h.mpr ⟨b,q,rfl⟩) nd'.1
  ·exact absurd (show x.n∈nms r by rw[<-q,<-h];exact A0h.mpr ⟨a,p,rfl⟩) nd'.1
  ·exact ih nd'.2 p q
def WF.new{es:List aL}(W:WF es){e0 x:aL}{g:aL->aL}{a:Int}(h0:e0∈es)(hg:∀e,(g e).n=e.n)(hl:∀e,(g e).lord=e.lord)(ho:(g e0).own=e0.own-a)(ha:0<=a)(hb:a<=e0.own)(hx:x.n∉nms es)(hok:PyData.strOk x.n=true)(ho2:x.own=a)(hb2:x.br=a)
  (way:(x.lord=some e0.n/\(g e0).br=e0.br)\/(x.lord=e0.lord/\e0.n≠""/\(g e0).br=e0.br-a)):WF (mod e0.n g es++[x]):=by
 have onm:nms (mod e0.n g es++[x])=nms es++[x.n]:=by
  show(mod e0.n g es++[x]).map _=_
  rw[lN];have:=rQ (n:=e0.n) hg es
  show nms (mod e0.n g es)++_=_
  rw[this];rfl
 have b0:=W.bnd e0 h0;have ow:=W.uf e0 h0;have W5:∀q,Sb (mod e0.n g es++[x]) q=Sb es q+(if q=e0.n then e0.own-(g e0).own+((g e0).br-e0.br)else 0):=by
  intro q;rw[W4,W3 hl W.nd h0 rfl];rcases way with⟨w1,w2⟩|⟨w1,w0,w2⟩
  ·have z0:(if e0.lord=some q then(g e0).br-e0.br else 0)=(0:Int):=by rw[w2];split<;>lia
   rw[z0,w1,w2,hb2,ho]
   by_cases c:q=e0.n
   ·subst c;rw[A0i rfl,A0i rfl];lia
   ·rw[A0f c,A0f (fun z=>c (by injection z with z;exact z.symm))];lia
  ·rw[w1,w2,hb2,ho]
   split
   ·split<;>lia
   ·split<;>lia
 refine⟨?_,?_,?_,?_,fun e he=>?_⟩
 rotate_right
 ·rcases A0u.mp he with q|q
  ·obtain⟨y,hy,rfl⟩:=cH q
   split
   ·rw[hg];exact W.ok y hy
   ·exact W.ok y hy
  ·rw[A0e.mp q];exact hok
 ·rw[onm,A2o];refine⟨W.nd,by simp,fun u hu v hv=>?_⟩;rw[A0e.mp hv];exact fun z=>hx (z▸ hu)
 ·obtain⟨c,r,e1,e2,e3,e4⟩:=MF (n:=e0.n) hg hl W.hd;rw[e1];have hp:∃p,x.lord=some p/\p∈nms es:=by
   rcases way with⟨w1,_⟩|⟨w1,w0,_⟩
   ·exact⟨_,w1,A0h.mpr ⟨e0,h0,rfl⟩⟩
   ·obtain⟨p,hp,hm,_⟩:=W.lord e0 h0 w0;exact⟨p,w1.trans hp,hm⟩
  obtain⟨p,hp,hm⟩:=hp;refine⟨c,r++[x],rfl,e2,e3,Ord.snoc e4 hp ?_⟩;have hm':p∈nms (mod e0.n g es):=by rw[rQ hg];exact hm
  rw[e1]at hm';rcases A0c.mp hm' with z|z
  ·exact .inl (by rw[z];show c.n∈([""]:List Str);rw[e2];exact A0e.mpr rfl)
  ·exact .inr z
 ·intro e he;rcases A0u.mp he with q|q
  ·obtain⟨y,hy,rfl⟩:=cH q;have by_:=W.bnd y hy
   split
   ·rename_i c
    obtain rfl:=fO W.nd hy h0 c;rw[ho];rcases way with⟨_,w2⟩|⟨_,_,w2⟩<;>rw[w2]<;>lia
   ·exact by_
  ·rw[A0e.mp q,ho2,hb2];lia
 ·intro e he;rcases A0u.mp he with q|q
  ·obtain⟨y,hy,rfl⟩:=cH q;have hbr:=W.br y hy
   split
   ·rename_i c
    obtain rfl:=fO W.nd hy h0 c;rw[hg,W5,A0i rfl];lia
   ·rename_i c
    rw[W5,A0f c];lia
  ·rw[A0e.mp q,ho2,hb2,W5,W.sb0 hx,A0f (fun z=>hx (by rw[z];exact A0h.mpr ⟨e0,h0,rfl⟩))];lia
def WF.mod{es:List aL}(W:WF es){n:Str}{g:aL->aL}(hg:∀e,(g e).n=e.n)(hl:∀e,(g e).lord=e.lord)(ho:∀e,(g e).own=e.own)(hb:∀e,(g e).br=e.br):WF (mod n g es):=by
 have W5:∀q,Sb (M.mod n g es) q=Sb es q:=by
  intro q;unfold Sb M.mod;rw[A0N];refine mF fun y _=>?_
  show(if(if y.n=n then g y else y).lord=some q then(if y.n=n then g y else y).br else 0)=_
  by_cases c:y.n=n
  ·rw[A0i c,hl,hb]
  ·rw[A0f c]
 refine⟨by rw[rQ hg];exact W.nd,MF hg hl W.hd,fun e he=>?_,fun e he=>?_,fun e he=>?_⟩
 rotate_right
 ·obtain⟨y,hy,rfl⟩:=cH he
  split
  ·rw[hg];exact W.ok y hy
  ·exact W.ok y hy
 ·obtain⟨y,hy,rfl⟩:=cH he
  split
  ·rw[ho,hb];exact W.bnd y hy
  ·exact W.bnd y hy
 ·obtain⟨y,hy,rfl⟩:=cH he;rw[W5]
  split
  ·rw[hg,ho,hb];exact W.br y hy
  ·exact W.br y hy
def cD(e p:Str)(a:Int)(es:List aL):List aL:=(es.filter fun y=>decide (y.n≠e)).map (Dg e p a)
def WF.fall{es:List aL}(W:WF es){e0:aL}(h0:e0∈es)(hne:e0.n≠"")(hp:e0.lord=some p):WF 0x23:=by
 obtain⟨p',hp',hpm,hpn⟩:=W.lord e0 h0 hne;obtain rfl:p=p':=by rw[hp]at hp';injection hp'
 have mem:∀y,y∈cD e0.n p e0.own es->∃y0∈es,y0.n≠e0.n/\y=Dg e0.n p e0.own y0:=fun y hy=>by
  obtain⟨y0,h1,h2⟩:=A0h.mp hy;obtain⟨h3,h4⟩:=A0y.mp h1;exact⟨y0,h3,yI h4,h2.symm⟩
 have eo:=W.br e0 h0;have W5:∀q,q≠e0.n->Sb 0x23 q=Sb es q-(if q=p then e0.own else 0):=by
  intro q hq;unfold Sb cD;rw[A0N];rw[u6 (F:=(fun y=>if y.lord=some q then y.br else 0)∘Dg e0.n p e0.own) W.nd h0]
  have val:∀y,((fun y=>if y.lord=some q then y.br else 0)∘Dg e0.n p e0.own) y=(if y.lord=some q then y.br else 0)+(if q=p then(if y.lord=some e0.n then y.br else 0)else 0):=by
   intro y
   show(if(if y.lord=some e0.n then some p else y.lord)=some q then y.br else 0)=_
   by_cases c:y.lord=some e0.n
   ·rw[A0i c,c,A0f (fun z:some e0.n=some q=>hq (by injection z with z;exact z.symm)),A0i rfl]
    by_cases d:q=p
    ·rw[A0i d,d,A0i rfl];lia
    ·rw[A0f d,A0f (fun z=>d (by injection z with z;exact z.symm))];rfl
   ·rw[A0f c,A0f c]
    split<;>split<;>lia
  rw[mF (fun y _=>val y),sum_add,val e0,hp,A0f (fun z:some p=some e0.n=>hpn (by injection z))]
  by_cases d:q=p
  ·subst d;rw[A0i rfl,A0i rfl,A0i rfl];have e1:(es.map fun y=>if q=q then(if y.lord=some e0.n then y.br else 0)else 0).sum=Sb es e0.n:=by
    unfold Sb;exact mF fun y _=>A0i rfl
   rw[e1];lia
  ·rw[A0f d,A0f d,A0f (fun z=>d (by injection z with z;exact z.symm))];have e1:(es.map fun y=>if q=p then(if y.lord=some e0.n then y.br else 0)else 0).sum=0:=uc fun y _=>A0f d
   rw[e1];lia
 refine⟨?_,?_,?_,?_,fun y hy=>?_⟩
 rotate_right
 ·obtain⟨y0,h1,h2,rfl⟩:=mem y hy;exact W.ok y0 h1
 ·have:nms 0x23=(0x31).filter fun n=>decide (n≠e0.n):=by
   unfold cD
   show((es.filter _).map _).map _=_
   rw[A0N,A3q];rfl
  rw[this];exact W.nd.filter _
 ·obtain⟨c,r,rfl,hc,hcl,ho⟩:=W.hd;unfold cD;rw[A1T (by simpa[hc]using fun z=>hne z.symm),A0r];refine⟨_,_,rfl,hc,?_,Ord.fall ho (fun x hx hxn=>?_) (fun x hx _=>hx) (fun hx=>absurd (A0e.mp hx) hne) hpn⟩
  ·show(if c.lord=some e0.n then some p else c.lord)=none
   rw[hcl,A0f (fun z=>by cases z)]
  ·rw[fO W.nd (lH _ hx) h0 hxn];exact hp
 ·intro y hy;obtain⟨y0,h1,h2,rfl⟩:=mem y hy;have b:=W.bnd y0 h1;have be:=W.bnd e0 h0;refine⟨?_,b.2⟩
  show 0<=(if y0.n=p then y0.own+e0.own else y0.own)
  split<;>lia
 ·intro y hy;obtain⟨y0,h1,h2,rfl⟩:=mem y hy;have b:=W.br y0 h1
  show y0.br=(if y0.n=p then y0.own+e0.own else y0.own)+Sb _ y0.n
  rw[W5 _ h2]
  split<;>lia
def FZ{t b:Int}(h:0<b):0<sgn t b:=by
 unfold sgn;rw[A0f 0x1];exact Int.ofNat_lt.mpr (jG 0x1)
def Ga{t b k:Int}(hb:0<b)(hk:0<k):oH (t*k) (b*k)=oH t b:=by
 have h:=Vx (Qx (t:=t) (b:=b) 0x1) (tU 0x1) (A2K (FZ (t:=t) hb) hk);have e1:mj t b*(sgn t b*k)=t*k:=by rw[<-A2V,A2N (mj t b),rM 0x1]
 have e2:jr t b*(sgn t b*k)=b*k:=by rw[<-A2V,A2N (jr t b),pJ 0x1]
 rw[e1,e2]at h;unfold oH;rw[h.1,h.2]
def Iv{s:Int×Int}{a b:Int}(hs:0<s.2)(hb:0<b):Tv s (oH (s.1*a) (s.2*b))=oH (s.1*(b-a)) (s.2*b):=by
 have hB:0<s.2*b:=A2K hs hb;have hk:=FZ (t:=s.1*a) hB;have e1:=rM (t:=s.1*a) (b:=s.2*b) 0x1;have e2:=pJ (t:=s.1*a) (b:=s.2*b) 0x1;have hy:=tU (t:=s.1*a) (b:=s.2*b) 0x1;unfold Tv
 show oH (s.1*jr (s.1*a) (s.2*b)-mj (s.1*a) (s.2*b)*s.2) (s.2*jr (s.1*a) (s.2*b))=_
 rw [<-Ga (A2K hs hy) hk,<-Ga (t:=s.1*(b-a)) hB hs];generalize jr (s.1*a) (s.2*b)=y at e2;generalize mj (s.1*a) (s.2*b)=x at e1;generalize sgn (s.1*a) (s.2*b)=k at e1 e2;have c1:(s.1*y-x*s.2)*k=s.1*(b-a)*s.2:=by
  have q1:(s.1*y-x*s.2)*k=s.1*(k*y)-(k*x)*s.2:=by
   rw[Int.sub_mul,A2V,A2N y k,A2V,A2N s.2 k,<-A2V x k,A2N x k]
  rw[q1,e1,e2,Int.mul_sub,Int.sub_mul,A2N s.2 b,A2V s.1 b]
 have c2:s.2*y*k=s.2*b*s.2:=by rw[A2V,A2N y k,e2,A2N s.2 (s.2*b)]
 rw[c1,c2]
def MJ{l m:List Int}(h:l.Perm m):l.sum=m.sum:=by
 induction h with
 |nil=>rfl
 |cons x _ ih=>rw[A0G,A0G,ih]
 |swap x y l=>rw[A0G,A0G,A0G,A0G];lia
 |trans _ _ h1 h2=>rw[h1,h2]
def Iw{l m:List Nat}(h:l.Perm m):l.sum=m.sum:=by
 induction h with
 |nil=>rfl
 |cons x _ ih=>rw[A0G,A0G,ih]
 |swap x y l=>rw[A0G,A0G,A0G,A0G];lia
 |trans _ _ h1 h2=>rw[h1,h2]
def Iz(es:List aL)(n:Str):Int:=((es.find? fun e=>decide (e.n=n)).map (·.br)).getD 0
def Dh{es:List aL}(nd:(0x31).Nodup){e:aL}(he:e∈es):es.find? (fun x=>decide (x.n=e.n))=some e:=by
 induction es with
 |nil=>cases he
 | cons x r ih=>
  have nd':=A0z.mp nd;rcases A0c.mp he with q|q
  ·rw[q,A1y 0x8]
  ·rw [A1z (by
    have:x.n≠e.n:=fun z=>nd'.1 (show x.n∈nms r by rw[z];exact A0h.mpr ⟨e,q,rfl⟩)
    simpa using this)]
   exact ih nd'.2 q
def MN{es:List aL}(nd:(0x31).Nodup){e:aL}(he:e∈es):Iz es e.n=e.br:=by unfold Iz;rw[Dh nd he];rfl
theorem Ag{F:aL->Int}(c:aL->Bool):∀es:List aL,((es.filter c).map F).sum=(es.map fun y=>if c y=true then F y else 0).sum
 |[]=>rfl
 | x::r=>by
  have ih:=Ag (F:=F) c r
  by_cases h:c x=true
  ·rw[A1T h,A0r,A0r,A0G,A0G,A0i h,ih]
  ·rw[A2H h,A0r,A0G,A0f h,ih];lia
def w6{es:List aL}(nd:(0x31).Nodup)(h:ss.Perm ((es.filter fun y=>decide (y.lord=some q)).map (·.n))):(ss.map (Iz es)).sum=Sb es q:=by
 rw[MJ (h.map _),A0N];have:((es.filter fun y=>decide (y.lord=some q)).map (Iz es∘fun x=>x.n))=(es.filter fun y=>decide (y.lord=some q)).map (·.br):=A1e fun y hy=>MN nd (A0y.mp hy).1;rw[this,Ag];unfold Sb;exact mF fun y _=>by simp only[A2m]
def wt:List aL->Str->Nat
 |[],_=>0
 |x::r,n=>if x.n=n then 2^r.length else wt r n
def Sw(es:List aL)(c:aL->Bool)(ws:List aL):Nat:=(es.map fun y=>if c y=true then wt ws y.n else 0).sum
theorem rR{x:aL}{r:List aL}{c:aL->Bool}:∀{es:List aL},(∀y∈es,y.n≠x.n)->Sw es c (x::r)=Sw es c r
 |[],_=>rfl
 | y::es,h=>by
  have ih:=rR (x:=x) (r:=r) (c:=c) (es:=es) fun z hz=>h z (lH _ hz);unfold Sw at ih ⊢;rw[A0r,A0r,A0G,A0G,ih];have:wt (x::r) y.n=wt r y.n:=A0f fun z=>h y A0l z.symm;rw[this]
def MP{x:aL}{r:List aL}(nd:(nms (x::r)).Nodup):∀y∈r,y.n≠x.n:=fun y hy z=>(A0z.mp nd).1 (show x.n∈nms r by rw[<-z];exact A0h.mpr ⟨y,hy,rfl⟩)
theorem N5{c:aL->Bool}:∀{r:List aL},(nms r).Nodup->Sw r c r<2^r.length
 |[],_=>show 0<1 by decide
 | x::r,nd=>by
  have ih:=N5 (c:=c) (r:=r) (A0z.mp nd).2;unfold Sw;rw[A0r,A0G];have e:=rR (x:=x) (r:=r) (c:=c) (es:=r) (MP nd);unfold Sw at e ih;rw[e,rT,Nat.pow_succ];have:wt (x::r) x.n=2^r.length:=A0i rfl;rw[this]
  split<;>lia
theorem N6{e:aL}:∀{r:List aL}{s:List Str},Ord s r->(nms r).Nodup->(∀x∈s,x∉nms r)->e∈r->Sw r (fun y=>decide (y.lord=some e.n)) r<wt r e.n
 | x::r,s,⟨⟨p,hp,hs⟩,ho⟩,nd,hx,he=>by
  have nd':=A0z.mp nd;unfold Sw;rw[A0r,A0G];have e1:=rR (x:=x) (r:=r) (c:=fun y=>decide (y.lord=some e.n)) (es:=r) (MP nd);have nx:¬(decide (x.lord=some e.n)=true):=fun z=>by
   have z:=yI z;rw[hp]at z;injection z with z;exact hx p hs (by rw[z];exact A0h.mpr ⟨e,he,rfl⟩)
  rw[A0f nx];unfold Sw at e1;rw[e1];rcases A0c.mp he with q|q
  ·have:wt (x::r) e.n=2^r.length:=A0i (by rw[q]);rw[this];have:=N5 (c:=fun y=>decide (y.lord=some e.n)) nd'.2;unfold Sw at this;lia
  ·have:wt (x::r) e.n=wt r e.n:=A0f fun z=>nd'.1 (show x.n∈nms r by rw[z];exact A0h.mpr ⟨e,q,rfl⟩)
   rw [this];have:=N6 (e:=e) ho nd'.2 (fun y hy w=>by
    rcases A0c.mp hy with z|z
    ·exact nd'.1 (by rw[z]at w;exact w)
    ·exact hx y z (lH _ w)) q
   unfold Sw at this;lia
def WF.meas{es:List aL}(W:WF es){e:aL}(he:e∈es):Sw es (fun y=>decide (y.lord=some e.n)) es<wt es e.n:=by
 obtain⟨c,r,rfl,hc,hl,ho⟩:=W.hd;have nd':=A0z.mp W.nd;unfold Sw;rw[A0r,A0G,A0f (by show ¬decide (c.lord=some e.n)=true;rw[hl];simp)]
 have e1:=rR (x:=c) (r:=r) (c:=fun y=>decide (y.lord=some e.n)) (es:=r) (MP W.nd);unfold Sw at e1;rw[e1];rcases A0c.mp he with q|q
 ·have:wt (c::r) e.n=2^r.length:=A0i (by rw[q]);rw[this];have:=N5 (c:=fun y=>decide (y.lord=some e.n)) nd'.2;unfold Sw at this;lia
 ·have:wt (c::r) e.n=wt r e.n:=A0f fun z=>nd'.1 (show c.n∈nms r by rw[z];exact A0h.mpr ⟨e,q,rfl⟩)
  rw[this];have:=N6 (e:=e) ho nd'.2 (fun y hy w=>by rw[A0e.mp hy,<-hc]at w;exact nd'.1 w) q;unfold Sw at this;lia
theorem wg{F:aL->Nat}(c:aL->Bool):∀es:List aL,((es.filter c).map F).sum=(es.map fun y=>if c y=true then F y else 0).sum
 |[]=>rfl
 | x::r=>by
  have ih:=wg (F:=F) c r
  by_cases h:c x=true
  ·rw[A1T h,A0r,A0r,A0G,A0G,A0i h,ih]
  ·rw[A2H h,A0r,A0G,A0f h,ih];lia
def ug{es:List aL}(W:WF es){e:aL}(he:e∈es)(h:ss.Perm ((es.filter fun y=>decide (y.lord=some e.n)).map (·.n))):(ss.map (wt es)).sum<wt es e.n:=by
 have:=W.meas he;unfold Sw at this;rw[Iw (h.map _),A0N];have e2:=wg (F:=wt es∘fun x=>x.n) (fun y=>decide (y.lord=some e.n)) es;rw[e2];exact this
theorem N7{lo:List 0x45}{m:Nat}:∀{r:List aL}{s:List Str},Ord s r->(∀y∈r,bH lo 0x5F=some (gU y.lord))->(∀x∈s,∃l,Ch lo x l/\l.length<=m)->∀y∈r,∃l,Ch lo y.n l/\l.length<=m+r.length
 | x::r,s,⟨⟨p,hp,hs⟩,ho⟩,hv,h,y,hy=>by
  have hx:∃l,Ch lo x.n l/\l.length<=m+1:=by
   obtain⟨l,h1,h2⟩:=h p hs;refine⟨x.n::l,.up ?_ h1,by rw[rT];lia⟩;rw[hv x A0l,hp];rfl
  rcases A0c.mp hy with q|q
  ·rw[q];obtain⟨l,h1,h2⟩:=hx;exact⟨l,h1,by rw[rT];lia⟩
  ·obtain⟨l,h1,h2⟩:=N7 (m:=m+1) ho (fun z hz=>hv z (lH _ hz)) (fun z hz=>by
    rcases A0c.mp hz with w|w
    ·rw[w];exact hx
    ·obtain⟨l,h1,h2⟩:=h z w;exact⟨l,h1,by lia⟩) y q
   exact⟨l,h1,by rw[rT];lia⟩
def WF.chain{es:List aL}(W:WF es){e:aL}(he:e∈es):∃l,Ch 0x96 e.n l/\l.length<=es.length:=by
 have hv:∀y∈es,bH 0x96 0x5F=some (gU y.lord):=fun y hy=>cu W.nd hy;obtain⟨c,r,rfl,hc,hl,ho⟩:=W.hd;have h0:Ch (gZ (c::r)) "" [""]:=by
  refine .crown ?_;rw[<-hc,hv c A0l,hl];rfl
 rcases A0c.mp he with q|q
 ·rw[q,hc];exact⟨_,h0,by simp⟩
 ·obtain⟨l,h1,h2⟩:=N7 (m:=1) ho (fun y hy=>hv y (lH _ hy)) (fun x hx=>by rw[A0e.mp hx];exact⟨_,h0,by simp⟩) e q;exact⟨l,h1,by rw[rT];lia⟩
theorem sub_len{α:Type}[DecidableEq α]:∀{l m:List α},l.Nodup->(∀x∈l,x∈m)->l.length<=m.length
 |[],_,_,_=>A1i _
 | x::l,m,nd,h=>by
  have nd':=A0z.mp nd;have hx:=h x A0l;have ih:=sub_len (l:=l) (m:=m.erase x) nd'.2 fun y hy=>by
   have ne:y≠x:=fun z=>nd'.1 (z▸ hy);exact(List.mem_erase_of_ne ne).mpr (h y (lH _ hy))
  rw[List.length_erase_of_mem hx]at ih;have:=A2O hx;rw[rT];lia
def mZ{es:List aL}(nd:(0x31).Nodup)(h:ss.Perm ((es.filter fun y=>decide (y.lord=some q)).map (·.n))):(∀s∈ss,s∈nms es)/\∀y∈es,(y.n∈ss↔y.lord=some q):=by
 refine⟨fun s hs=>?_,fun y hy=>⟨fun hs=>?_,fun hl=>?_⟩⟩
 ·obtain⟨y,hy,rfl⟩:=A0h.mp (h.mem_iff.mp hs);exact A0h.mpr ⟨y,(A0y.mp hy).1,rfl⟩
 ·obtain⟨z,hz,e⟩:=A0h.mp (h.mem_iff.mp hs);obtain⟨z1,z2⟩:=A0y.mp hz;obtain rfl:=fO nd z1 hy e;exact yI z2
 ·exact h.mem_iff.mpr (A0h.mpr ⟨y,A0y.mpr ⟨hy,A0t hl⟩,rfl⟩)
def Gb{es:List aL}(h:ss.Perm (((0x96).filter fun x=>decide (x.2=.str q)).map iz)):ss.Perm ((es.filter fun y=>decide (y.lord=some q)).map (·.n)):=by
 rw[rO]at h;have:(es.filter fun e=>decide (gU e.lord=V.str q))=es.filter fun y=>decide (y.lord=some q):=A4I fun y _=>A3h.mpr vZ;rw[<-this];exact h
def N8{e:Str}{a:Int}{es:List aL}:gZ (cD e p a es)=kv (fun y=>if y.lord=some e then V.str p else gU y.lord) (es.filter fun y=>decide (y.n≠e)):=by
 unfold cD gZ;rw[iV (g:=Dg e p a) 0xC];refine fZ fun y _=>?_
 show gU (if y.lord=some e then some p else y.lord)=_
 split<;>rfl
def IK{es:List aL}(nd:(0x31).Nodup){e:Str}{a:Int}(h:ss.Perm (((0x96).filter fun x=>decide (x.2=.str e)).map iz)):iQ (moved 0x96 ss p) 0x15=gZ (cD e p a es):=by
 obtain⟨h1,h2⟩:=mZ nd (Gb h);rw[Af ss h1,kZ,N8];refine fZ fun y hy=>?_;have:=h2 y (A0y.mp hy).1
 by_cases c:y.lord=some e
 ·rw[A0i c,A0i (this.mpr c)]
 ·rw[A0f c,A0f fun z=>c (this.mp z)]
def IV{es:List aL}(nd:(0x31).Nodup){e:Str}{a:Int}(h:ss.Perm ((((es.filter fun y=>decide (y.n≠e))).filter fun y=>decide (y.lord=some e)).map (·.n))):moved (gZ (es.filter fun y=>decide (y.n≠e))) ss p=gZ (cD e p a es):=by
 have nd2:(nms (es.filter fun y=>decide (y.n≠e))).Nodup:=(List.filter_sublist.map _).nodup nd;obtain⟨h1,h2⟩:=mZ nd2 h;rw[Af ss h1,N8];refine fZ fun y hy=>?_;have:=h2 y hy
 by_cases c:y.lord=some e
 ·rw[A0i c,A0i (this.mpr c)]
 ·rw[A0f c,A0f fun z=>c (this.mp z)]
def ou{f:aL->V}{es:List aL}{e:Str}{a:Int}(hf:∀y,f (Dg e p a y)=f y):iQ 0x56 0x15=kv f (cD e p a es):=by
 rw[kZ];unfold cD;rw[iV (g:=Dg e p a) 0xC];exact fZ fun y _=>(hf y).symm
def Nb{es:List aL}(nd:(0x31).Nodup){e0 y0:aL}(hp:y0∈es)(hn:y0.n=p):iQ (putK (lF es) (.inr p) (.int (y0.own+e0.own))) (.inr e0.n)=lF 0x23:=by
 rw[tZ (by rw[<-hn];exact A0h.mpr ⟨y0,hp,rfl⟩),kZ];unfold cD lF;rw[iV (g:=Dg e0.n p e0.own) 0xC];refine fZ fun y hy=>?_
 show(if y.n=p then V.int (y0.own+e0.own)else V.int y.own)=V.int (if y.n=p then y.own+e0.own else y.own)
 split
 ·rename_i c
  rw[fO nd (A0y.mp hy).1 hp (c.trans hn.symm)]
 ·rfl
def IW{es:List aL}(nd:(0x31).Nodup){e0 y0:aL}(hp:y0∈es)(hn:y0.n=p)(hne:p≠e0.n):putK (lF 0xF) (.inr p) (.int (y0.own+e0.own))=lF 0x23:=by
 rw[tZ (by rw[<-hn]at hne ⊢;exact A0h.mpr ⟨y0,A0y.mpr ⟨hp,A0t hne⟩,rfl⟩)];unfold cD lF;rw[iV (g:=Dg e0.n p e0.own) 0xC];refine fZ fun y hy=>?_
 show(if y.n=p then V.int (y0.own+e0.own)else V.int y.own)=V.int (if y.n=p then y.own+e0.own else y.own)
 split
 ·rename_i c
  rw[fO nd (A0y.mp hy).1 hp (c.trans hn.symm)]
 ·rfl
end M
namespace L2
open PySem PySem.Spec PyProof.Rows PySem.W
theorem Gd:∀(a b:List Nat),ltCps a b=true↔a<b
 |[],[]=>by simp[ltCps]
 |[],_::_=>by simp[ltCps]
 |_::_,[]=>by simp[ltCps]
 | x::xs,y::ys=>by
  have ih:=Gd xs ys;unfold ltCps;rw[List.cons_lt_cons_iff]
  by_cases h:x<y
  ·simp[h]
  ·by_cases h2:x=y
   ·subst h2;simp[ih]
   ·simp[h,h2]
theorem wj:∀(l:List Str),sortedS l=true->l.Pairwise fun a b=>a.cps.toList<=b.cps.toList
 |[],_=>.nil
 | x::r,h=>by
  have key:∀(r:List Str)(p:Str),risingS p r=true->(∀y∈r,p.cps.toList<=y.cps.toList)/\r.Pairwise fun a b=>a.cps.toList<=b.cps.toList:=by
   intro r
   induction r with
   |nil=>intro p _;exact⟨fun y hy=>(by cases hy),.nil⟩
   | cons x r ih=>
    intro p hp;simp only[risingS,A1v,Bool.not_eq_true']at hp;obtain⟨h1,h2⟩:=ih x hp.2;have h0:p.cps.toList<=x.cps.toList:=by
     refine List.not_lt.mp fun c=>?_;rw[(Gd _ _).mpr c]at hp;exact absurd hp.1 0x6
    refine⟨fun y hy=>?_,.cons (fun y hy=>h1 y hy) h2⟩;rcases A0c.mp hy with q|q
    ·rw[q];exact h0
    ·exact List.le_trans h0 (h1 y q)
  obtain⟨h1,h2⟩:=key r x h;exact .cons (fun y hy=>h1 y hy) h2
def lA{l m:List Str}(p:l.Perm m)(h1:sortedS l=true)(h2:sortedS m=true):l=m:=
 List.Perm.eq_of_pairwise (fun a b _ _ x y=>rF (List.le_antisymm x y)) (wj l h1) (wj m h2) p
def Di{l m:List Str}(p:l.Perm m)(h1:l.Pairwise fun x y=>x.cps.toList<y.cps.toList)(h2:m.Pairwise fun x y=>x.cps.toList<y.cps.toList):l=m:=
 List.Perm.eq_of_pairwise (le:=fun x y=>x.cps.toList<=y.cps.toList) (fun a b _ _ x y=>rF (List.le_antisymm x y)) (h1.imp fun q=>List.le_of_lt q) (h2.imp fun q=>List.le_of_lt q) p
theorem Ge:∀{xs:List V}{us:List Value},xs.length=us.length->(∀(i:Nat)(x:V)(u:Value),xs[i]?=some x->us[i]?=some u->RelV x u)->Vals xs us
 |[],[],_,_=>.nil
 |[],_::_,h,_=>by simp at h
 |_::_,[],h,_=>by simp at h
 |x::xs,u::us,h,hr=>.cons (hr 0 x u rfl rfl) (Ge (by simpa using h) fun i a b h1 h2=>hr (i+1) a b (by simpa using h1) (by simpa using h2))
inductive Nf(xs:List V)(H:Hp)(Q:VK):Prop
 |mk(a:Addr)(kvs:List (Prod L2.Key V))(_:xs=[.ref a])(_:H a=some 0x18)(_:∀p,H p=none->Q 0x3E (upd H p (.lst (kvs.map fun kv=>kV kv.1)))):Nf xs H Q
def oE(hin:X.A.handled=none):gw X (.type "list") Nf:=by
 intro pins s σ H xs us Q I r h;obtain⟨a,kvs,rfl,ha,q⟩:=h;obtain⟨u,rfl,ru⟩:=vals1 r;cases ru;obtain⟨z,hs,vs,ep,rel,dat⟩:=Ma I ha;have hlen:vs.length=kvs.length:=rel.length.symm;refine kdl_call (kdl_dict (knd:=bQ X.prog X.w) (kvs:=vs) (ep:=ep) hs) hin dat 0x1 fun h' tk acc c hk hS hI=>?_;have hv:Vals (kvs.map fun kv=>kV kv.1) acc.toList:=by
  refine Ge (by have h1:=hI.1;have h2:acc.toList.length=acc.size:=A0U;rw[bY];lia) fun i x u h1 h2=>?_;rw[lJ]at h1;obtain⟨kv,hkv,rfl⟩:=A1b.mp h1;obtain⟨u',hu',_⟩:=rel.at hkv;obtain⟨k,y,e1,e2⟩:=hI.2 i u (by rw[<-A2W];exact h2);rw[hu']at e1;cases e1;exact Ko e2
 exact⟨.ref s.heap.objs.size,_,I.laid (o:=.lst (kvs.map fun kv=>kV kv.1)) (t':=tk) hk 0x2F ⟨by rw[bY];exact z,acc.toList,c,hv,hS⟩,rfl,q _ 0x47⟩
def TX{o:Obj}{e:Str}(h:H a=some 0x3B)(hv:bH kvs 0x15=some v):fP H a (V.str e) 0x8B:=.inl ⟨kvs,.inr e,.inr ⟨_,h⟩,rfl,hv.symm⟩
end L2
namespace M
open PySem L2 PyProof.Rows
def ni{f:aL->V}{es:List aL}{k:Nat}{Q:VK}(p:aL->Bool)(ha:H a=some (.dK 0x56))(hl:es.length<=1000)
  (hd:∀(o:Obj)(R:VK),R 0x48 (upd H a (.gD o (.dK 0x56)))->td σ (upd H a (.gD o (.dK 0x56))) R)
  (turn:∀(o:Obj)(y:aL)(Hz:Hp)(A:V->Hp->Prop)(B:Hp->Prop),y∈es->Same (upd H a (.gD o (.dK 0x56))) Hz->(if p y=true then A (V.str y.n) Hz else B Hz)->g (V.str y.n) 0x89 Hz fun σ2 H4=>Kp 0x89 σ2/\tt σ2 H4 fun b H5=>if b=true then te σ2 H5 A else B H5)
  (done:∀D Hz,Same H Hz->H D=none->Hz D=some (.lst (((es.filter p).map (·.n)).map V.str))->Q 0x86 Hz):Qj (Er k ix (Tn td) g tt te) σ H Q:=by
 refine⟨a,_,ha,fun o=>hd o _ ⟨a,o,kv f es,rfl,ao,fun D hD=>?_⟩⟩;have nD:a≠D:=aA (show(upd H a (.gD o (.dK 0x56))) a=some (.gD o (.dK 0x56))from ao) hD
 have Yd:H D=none:=by rw[ak (A0k nD)]at hD;exact hD
 refine vM (o:=o) (fun i ys Hz=>ys=(((es.take i).filter p).map (·.n)).map V.str/\Same (upd H a (.gD o (.dK 0x56))) Hz/\Hz D=some 0x57) (fun i ys Hz h=>h.2.1 _ _ ao) ⟨rfl,aJ hD _,ao⟩ (fun i ys Hz h=>h.2.2) ?_ ?_
 ·rintro i ys Hz kx hkv ⟨rfl,sz,gJ⟩;rw[lJ]at hkv;obtain⟨y,hy,rfl⟩:=A1b.mp hkv;refine turn o y Hz _ _ (oF hy) sz ?_;have step:(((es.take (i+1)).filter p).map (·.n)).map V.str=(((es.take i).filter p).map (·.n)).map V.str++(if p y=true then[V.str y.n]else[]):=by
   rw[A1S,hy,A4k,lN,lN]
   congr 1
   cases e:p y<;>simp[e]
  by_cases c:p y=true
  ·rw[A0i c]at step ⊢;refine⟨gJ,?_,step.symm,bC sz hD,ao⟩;rw[bY,bY];have:=A0s p (es.take i);rw[A0T]at this;exact bO 0x1
  ·rw[A0f c]at step ⊢;refine⟨by rw[step,A2h],sz,gJ⟩
 ·rintro ys Hz ⟨rfl,sz,gJ⟩;rw[gq,A1x]at gJ;refine⟨sz _ _ ao,?_⟩;exact done D _ (jV ha sz) Yd (by rw[ak (A0k nD)];exact gJ)
def dR{xs:List Str}{k:Nat}{Q:VK}(p:Str->Bool)(e:Str->V)(hs:bF K H1 a (xs.map V.str))(hD:H1 D=none)(hl:xs.length<=1000)
  (turn:∀(x:Str)(Hz:Hp)(A:V->Hp->Prop)(B:Hp->Prop),x∈xs->Same H1 Hz->(∀H',Same Hz H'->if p x=true then A (e x) H' else B H')->g (V.str x) 0x89 Hz fun σ2 H4=>Kp 0x89 σ2/\tt σ2 H4 fun b H5=>if b=true then te σ2 H5 A else B H5)
  (done:∀Hz,Same H1 Hz->Hz D=some (.lst ((xs.filter p).map e))->Q 0x86 Hz):nY (UW K a) D σ k ix g tt te Q H1:=by
 refine HF (xs:=xs.map V.str) (fun i ys Hz=>ys=((xs.take i).filter p).map e/\Same H1 Hz/\Hz D=some 0x57) (fun i ys Hz h=>h.2.1.seq hs) ⟨rfl,aJ hD _,ao⟩ (fun i ys Hz h=>h.2.2) ?_ ?_
 ·rintro i ys Hz v hv ⟨rfl,sz,gJ⟩;rw[lJ]at hv;obtain⟨x,hx,rfl⟩:=A1b.mp hv;refine turn x Hz _ _ (oF hx) sz fun H' s'=>?_;have step:((xs.take (i+1)).filter p).map e=((xs.take i).filter p).map e++(if p x=true then[e x]else[]):=by
   rw[A1S,hx,A4k,lN]
   congr 1
   cases c:p x<;>simp[c]
  by_cases c:p x=true
  ·rw[A0i c]at step ⊢;refine⟨s' _ _ gJ,?_,step.symm,bC (sz.trans s') hD,ao⟩;rw[bY];have:=A0s p (xs.take i);rw[A0T]at this;exact bO 0x1
  ·rw[A0f c]at step ⊢;exact⟨by rw[step,A2h],sz.trans s',s' _ _ gJ⟩
 ·rintro ys Hz ⟨rfl,sz,gJ⟩;rw[bY,A1x]at gJ;exact done Hz sz gJ
structure Ad where
 x:Addr
 dx:Addr
 a1:Addr
 a2:Addr
 a3:Addr
 a4:Addr
 a5:Addr
 B:Addr
 l:Addr
 h:Addr
 o:Addr
 d:Addr
 kn:Addr
 dd:Addr
 kvs:List 0x45
 wd:Int
abbrev Bk(q:Ad)(H:Hp)(es:List aL)(ks:List Str):Prop:=fG H q.B q.l q.h q.o q.d q.kn q.dd q.kvs 0x96 (hoL es) (lF es) (qU es) ks
abbrev Ln(C:Addr)(q:Ad)(H:Hp)(es:List aL):Prop:=bT C H q.x q.dx q.a1 q.a2 q.a3 q.a4 q.a5 0x96 (hoL es) (lF es) (Rb es) (TQ es)
inductive yh(C:Addr)(vs:List V)(H:Hp)(Q:VK)(cP:XK):Prop
 |mk(q:Ad)(es:List aL)(_:vs=[.ref q.x])(_:Ln C q H es)(_:es.length<64)(_:∀(r:Addr)(ss:List Str)(H':Hp),Same H H'->H r=none->H' r=some 0x8E->ss.Perm (jM 0x3A)->ss.Pairwise (fun x y=>x.cps.toList<y.cps.toList)->Q 0x6E H'):yh C vs H Q cP
def W6:aX A5J A5J (aH Fp):=0x0
def scF1:Scope:={kind:=.function,names:=[0x40,("man",.local)],isGenerator:=false,isCoroutine:=false}
def csF1:cM A5J (aH Fp) scF1 ["man"] [] []:=0x7
def ndF1:((["man"]:List Str)++([]:List Str)).Nodup:=by decide+kernel
def Rf(T:eO K C)(ms:mg "sorted"=none)(F:gF K "folk" "Land.folk" Fp f fd):aP P w K mg base bV 1 f fd A5J (yh C):=by
 refine F.ok W6 0x3 0x5;obtain⟨q,es,rfl,L,hl,k⟩:=h;refine⟨_,aF (bh (aY (pO hr.hd) rfl ms fB (aj (o9 (Mr rfl csF1 (QZ 0x1C) (fun s H fp C'=>⟨bf (i:=0) ndF1 rfl 0x9,jE,pv 0⟩))) aC))),?_⟩;have nx:=bB L.o L.l2 0xD;refine⟨q.a2,_,L.l2,fun o=>⟨_,rfl,q.x,C,q.dx,_,_,rfl,by rw[ak nx];exact L.o,T.cl,T.n2,rfl,q.a2,o,_,rfl,ao,fun D hD=>?_⟩⟩;have nD:q.a2≠D:=aA (show(upd H q.a2 (.gD o (.dK (hoL es)))) q.a2=some (.gD o (.dK (hoL es)))from ao) hD
 have Yd:H D=none:=by rw[ak (A0k nD)]at hD;exact hD
 refine Dd (fun i zs Hz=>zs=jM ((es.take i).map (·.man))/\Same (upd H q.a2 (.gD o (.dK (hoL es)))) Hz/\Hz D=some (iT P w D zs)) (fun i zs Hz h=>h.2.1 _ _ ao) ⟨rfl,aJ hD _,ao⟩ (fun i zs Hz h=>h.2.2) ?_ ?_
 ·rintro i zs Hz kx hkv ⟨rfl,sz,gJ⟩;rw[lJ]at hkv;obtain⟨y,hy,rfl⟩:=A1b.mp hkv;refine⟨Kp.set rfl 0x39,iM ⟨_,rfl,y.man,rfl,gJ,?_,?_,bC sz hD,ao⟩⟩
  ·have:=pP ((es.take i).map (·.man));rw[bY,A0T]at this;lia
  ·rw[A1S,hy,lN];exact(vY _ _).symm
 ·rintro zs Hz ⟨rfl,sz,gJ⟩;rw[gq,A1x]at gJ;have s2:=jV L.l2 sz;refine⟨sz _ _ ao,D,_,rfl,by rw[ak (A0k nD)];exact gJ,?_,fun l ys hl0 hp hs=>?_⟩
  ·have:=pP 0x3A;rw[bY]at this;lia
  ·exact k l ys _ (bC s2 (s2.free hl0)) (s2.free hl0) ao hp hs
abbrev Rg:Stmt:=top 23
abbrev W7:Stmt:=top 24
abbrev Rh:Stmt:=top 25
abbrev Ri:Stmt:=top 26
abbrev W8:Stmt:=top 35
def Ap(q:Ad):Prop:=[q.a1,q.a2,q.a3,q.a4,q.a5,q.B,q.l,q.h,q.o,q.d,q.kn,q.dd].Nodup
def bN{l:List Addr}(h:l.Nodup)(i j:Nat)(ha:l[i]?=some a)(hb:l[j]?=some b)(hij:i≠j):a≠b:=by
 obtain⟨h1,e1⟩:=A0p.mp ha;obtain⟨h2,e2⟩:=A0p.mp hb;intro q;exact hij ((List.getElem_inj h).mp (by rw[e1,e2,q]))
inductive Ah(vs:List V)(H:Hp)(Q:VK)(cP:XK):Prop
 |mk(q:Ad)(es:List aL)(ks:List Str)(e:Str)(_:vs=[.ref q.B,.str e])(_:Ap q)(_:Bk q H es ks)(_:(0x31).Nodup)(_:es.length<64)(_:∀(r:Addr)(ss:List Str)(H':Hp),Same H H'->H r=none->H' r=some 0x8E->ss.Perm ((es.filter fun y=>decide (y.lord=some e)).map (·.n))->sortedS ss=true->Q 0x6E H'):Ah vs H Q cP
inductive Gf(vs:List V)(H:Hp)(Q:VK)(cP:XK):Prop
 |mk(q:Ad)(es:List aL)(ks:List Str)(m:Str)(_:vs=[.ref q.B,.str m])(_:Ap q)(_:Bk q H es ks)(_:(0x31).Nodup)(_:es.length<64)(_:∀(r:Addr)(ss:List Str)(H':Hp),Same H H'->H r=none->H' r=some 0x8E->ss.Perm ((es.filter fun y=>decide (y.man=m)).map (·.n))->sortedS ss=true->Q 0x6E H'):Gf vs H Q cP
inductive Ng(vs:List V)(H:Hp)(Q:VK)(cP:XK):Prop
 |mk(q:Ad)(es:List aL)(ks:List Str)(e:Str)(l:List Str)(_:vs=[.ref q.B,.str e])(_:Ap q)(_:Bk q H es ks)(_:WF es)(_:e∈nms es)(_:Ch 0x96 e l)(_:l.length<=1000)(_:∀(r:Addr)(H':Hp),Same H H'->H r=none->H' r=some (.lst (l.map V.str))->Q 0x6E H'):Ng vs H Q cP
inductive Nh(vs:List V)(H:Hp)(Q:VK)(cP:XK):Prop
 |mk(q:Ad)(es:List aL)(ks:List Str)(m:Str)(_:vs=[.ref q.B,.str m])(_:Ap q)(_:Bk q H es ks)(_:WF es)(_:es.length<64)(_:∀(r:Addr)(ss:List Str)(H':Hp),Same H H'->H r=none->H' r=some 0x8E->ss.length<64->Q 0x6E H'):Nh vs H Q cP
def J0(o:Option Str)(e:Str):Jz (gU o) (V.str e)=true:=by cases o<;>rfl
def Ni{o:Option Str}{e:Str}:decide (gU o=V.str e)=decide (o=some e):=A3h.mpr vZ
def fG.gl{q:Ad}{es:List aL}(b:Bk q H es ks):fP H q.B (V.str "lords") (some (.ref q.l)):=gn b.b b.vl
def fG.gh{q:Ad}{es:List aL}(b:Bk q H es ks):fP H q.B (V.str "holders") (some (.ref q.h)):=gn b.b b.vh
def fG.go{q:Ad}{es:List aL}(b:Bk q H es ks):fP H q.B (V.str "own") (some (.ref q.o)):=gn b.b b.vo
def fG.gd{q:Ad}{es:List aL}(b:Bk q H es ks):fP H q.B (V.str "due") (some (.ref q.d)):=gn b.b b.vd
def fG.gk{q:Ad}{es:List aL}(b:Bk q H es ks):fP H q.B (V.str "known") (some (.ref q.kn)):=gn b.b b.vk
def fG.gx{q:Ad}{es:List aL}(b:Bk q H es ks):fP H q.B (V.str "dead") (some (.ref q.dd)):=gn b.b b.vx
def Dj{f:aL->V}{es:List aL}{e:aL}(h:H a=some (.dK 0x56))(nd:(0x31).Nodup)(he:e∈es):fP H a (V.str e.n) (some (f e)):=gn h (cu nd he)
def ZS:aX A5d A5d (aH Rg):=0x0
def ZV:Scope:={kind:=.function,names:=[0x40,0x46,0x4A,("_law_estate",.free)],isGenerator:=false,isCoroutine:=false}
def ZW:cM A5d (aH Rg) ZV A5v A5d [0,1]:=0x7
def ZX:((A5v:List Str)++(A5d:List Str)).Nodup:=by decide+kernel
def W9(ms:mg "sorted"=none)(F:gF K "_law_under" "_law_under" Rg f fd):aP P w K mg base bV 1 f fd A5d Ah:=by
 refine F.ok ZS 0x3 0x5;obtain⟨q,es,ks,e,rfl,ap,bk,nd,hl,k⟩:=h;refine⟨_,aF (bh (aY dw rfl ms fB (aj (o9 (gj rfl ZW (mX 0x1A) (fun s H fp C'=>⟨bf (i:=0) ZX rfl 0x9,fM (aQ cU (aN 0x17 0x29 0x11 0x2) 0x37 0x7C),pv 0⟩))) aC))),?_⟩;have nB:q.B≠q.l:=bN ap 5 6 rfl rfl 0x6;have gB:∀{o:Obj}{Hz:Hp},Same (upd H q.l (.gD o (.dK 0x96))) Hz->fP Hz q.B (V.str "lords") (some (.ref q.l)):=fun sz=>gn (sz _ _ (by rw[ak nB];exact bk.b)) bk.vl;refine ni (fun y=>decide (y.lord=some e)) bk.l 0x1 (fun o R hR=>⟨_,rfl,q.B,_,rfl,gB 0x41,hR⟩) (fun o y Hz A B hy sz hAB=>?_) (fun D Hz sz Yd gJ=>?_)
 ·refine⟨Kp.set rfl 0x39,_,rfl,q.B,_,rfl,gB sz,_,rfl,q.l,_,rfl,TX (sz _ _ ao) (cu nd hy),_,rfl,J0 _ _,_,rfl,?_⟩;rw[Ni];refine gA 0x24 0x24
  ·rw[A0i c]at hAB;exact⟨_,rfl,hAB⟩
  ·rw[A0f c]at hAB;exact hAB
 ·refine⟨D,_,rfl,bF.of gJ,?_,fun l ss hl0 hp hs=>?_⟩
  ·rw[bY];exact A0Q (A0s _ _) hl
  ·exact k l ss _ (bC sz (sz.free hl0)) (sz.free hl0) ao hp hs
def a0a:aX A5h A5h (aH Rh):=0x0
def a0b:Scope:={kind:=.function,names:=[0x40,0x46,0x4A,("_law_man",.free)],isGenerator:=false,isCoroutine:=false}
def a0c:cM A5h (aH Rh) a0b A5v A5h [0,1]:=0x7
def a0d:((A5v:List Str)++(A5h:List Str)).Nodup:=by decide+kernel
def Wa(ms:mg "sorted"=none)(F:gF K "_law_held" "_law_held" Rh f fd):aP P w K mg base bV 1 f fd A5h Gf:=by
 refine F.ok a0a 0x3 0x5;obtain⟨q,es,ks,m,rfl,ap,bk,nd,hl,k⟩:=h;refine⟨_,aF (bh (aY dw rfl ms fB (aj (o9 (gj rfl a0c (mX 0x1A) (fun s H fp C'=>⟨bf (i:=0) a0d rfl 0x9,fM (aQ cU (aN 0x17 0x29 0x11 0x2) 0x37 0x7C),pv 0⟩))) aC))),?_⟩;have nB:q.B≠q.h:=bN ap 5 7 rfl rfl 0x6;have gB:∀{o:Obj}{Hz:Hp},Same (upd H q.h (.gD o (.dK (hoL es)))) Hz->fP Hz q.B (V.str "holders") (some (.ref q.h)):=fun sz=>gn (sz _ _ (by rw[ak nB];exact bk.b)) bk.vh;refine ni (fun y=>decide (y.man=m)) bk.h 0x1 (fun o R hR=>⟨_,rfl,q.B,_,rfl,gB 0x41,hR⟩) (fun o y Hz A B hy sz hAB=>?_) (fun D Hz sz Yd gJ=>?_)
 ·refine⟨Kp.set rfl 0x39,_,rfl,q.B,_,rfl,gB sz,_,rfl,q.h,_,rfl,TX (sz _ _ ao) (cu nd hy),_,rfl,rfl,_,rfl,?_⟩;rw[dU];refine gA 0x24 0x24
  ·rw[A0i c]at hAB;exact⟨_,rfl,hAB⟩
  ·rw[A0f c]at hAB;exact hAB
 ·refine⟨D,_,rfl,bF.of gJ,?_,fun l ss hl0 hp hs=>?_⟩
  ·rw[bY];exact A0Q (A0s _ _) hl
  ·exact k l ss _ (bC sz (sz.free hl0)) (sz.free hl0) ao hp hs
def a0e:aX A5h A5h (aH Ri):=0x0
def a0f:Scope:={kind:=.function,names:=[0x40,0x46,0x4A],isGenerator:=false,isCoroutine:=false}
def a0g:cM A5h (aH Ri) a0f A5v A5u [0]:=0x7
def a0h:((A5v:List Str)++(A5u:List Str)).Nodup:=by decide+kernel
def Gg(es:List aL)(n:Str):Str:=match es.find? fun e=>decide (e.n=n)with
 | some e=>match e.lord with
  | some p=>match es.find? fun e=>decide (e.n=p)with
   |some y=>y.man
   |none=>""
  |none=>""
 |none=>""
def Wb(F:gF K "_law_bound_to" "_law_bound_to" Ri f fd)(G1:aP P w K mg base bV 1 g1 d1 A5h Gf)(M1:Ms K mg "_law_held" g1 d1 A5h):aP P w K mg base bV 2 f fd A5h Nh:=by
 refine F.ok a0e 0x3 0x5;obtain⟨q,es,ks,m,rfl,ap,bk,W,hl,k⟩:=h;refine⟨_,aF (bh (gj rfl a0g (eU (aZ G1 hr rfl M1.m M1.k M1.b .nil aU (aj 0x11 0x4D))) (fun s H fp C'=>⟨bf (i:=0) a0h rfl 0x9,fM (aQ lD 0x11 aG 0x7C),aN 0x17 0x29 (aN 0x17 0x29 0x11 0x2) 0x2⟩))),?_⟩;refine⟨_,rfl,_,rfl,q,es,ks,m,rfl,ap,bk,W.nd,hl,fun r ss H' s' hr0 hr1 hp hs=>?_⟩;have hsl:ss.length<64:=by
  rw[hp.length_eq,bY];exact A0Q (A0s _ _) hl
 refine⟨r,rfl,⟨_,bF.of hr1⟩,fun D hD=>dR (xs:=ss) (fun x=>!decide (x="")) (fun x=>V.str (Gg es x)) (bF.of hr1) hD 0x1 0x83 (fun Hz sz gJ=>?_)⟩
 ·obtain⟨y,hy,rfl⟩:=A0h.mp (hp.mem_iff.mp hx);have hye:=(A0y.mp hy).1;have hAB:=hAB _ 0x41;refine⟨Kp.set rfl 0x39,_,rfl,rfl,_,rfl,?_⟩;rw[dU];refine gA 0x24 0x24
  ·rw [A0i c]at hAB;have bz:=(bk.same s').same sz;have hne:y.n≠"":=by
    intro z;rw[z]at c;exact absurd c 0x6
   obtain⟨p,hp1,hp2,_⟩:=W.lord y hye hne;obtain⟨z,hz,TY⟩:=cY hp2;have eu:Gg es y.n=z.man:=by
    unfold Gg;rw[Dh W.nd hye];dsimp only;rw[hp1];dsimp only;rw[<-TY,Dh W.nd hz]
   rw[eu]at hAB;have g1:=Dj bz.l W.nd hye;rw[hp1]at g1;have g2:=Dj bz.h W.nd hz;rw[TY]at g2;exact⟨_,rfl,q.B,_,rfl,bz.gh,_,rfl,q.B,_,rfl,bz.gl,_,rfl,q.l,_,rfl,g1,q.h,_,rfl,g2,hAB⟩
  ·rw[A0f c]at hAB;exact hAB
 ·have hDz':Hz D=some (.lst ((((ss.filter fun x:Str=>!decide (x="")).map (Gg es))).map V.str)):=by rw[gJ,A0N];rfl
  exact k D _ Hz (s'.trans sz) (s'.free hD) hDz' (by rw[bY];exact A0Q (A0s _ _) hsl)
theorem jX:∀ss:List Str,dW H 0x2C (ss.map PyData.str)
 |[]=>.nil
 |x::r=>.cons (.str x) (jX r)
theorem wk:∀{ss:List Str},(∀s∈ss,PyData.strOk s=true)->PyData.canLayAll0 (ss.map PyData.str)=true
 |[],_=>by simp[PyData.canLayAll0]
 |x::r,h=>by simp[PyData.canLayAll0,PyData.canLay0,h x A0l,wk fun s hs=>h s (lH _ hs)]
def ju(h:∀s∈ss,PyData.strOk s=true):(PyData.list (ss.map .str)).canLay0=true:=by
 have:=wk h
 simpa[PyData.canLay0]using this
theorem wu:∀ss:List Str,PyData.depthAll (ss.map PyData.str)<=2
 |[]=>by simp[PyData.depthAll]
 | x::r=>by
  have:=wu r;simp[PyData.depthAll,PyData.depth];lia
def mG(ss:List Str):(PyData.list (ss.map .str)).depth<=8:=by
 have:=wu ss;simp[PyData.depth];lia
theorem strs_nil:∀ss:List Str,PyData.eqv (.list (ss.map .str)) (.list [])=decide (ss=[])
 |[]=>by simp[PyData.eqv,PyData.eqvAll]
 |x::r=>by simp[PyData.eqv,PyData.eqvAll]
def Nj(x:V)(xs:List V):gH (x::xs) (some 1) none=xs:=by
 unfold gH;have e1:HT.fY (x::xs).length 0 (some 1)=1:=by
  unfold HT.fY;simp
 have e2:HT.fY (x::xs).length (x::xs).length none=xs.length+1:=rfl;rw[e1,e2];simp
theorem U0:∀(es:List aL)(n:Str),wt es n<=2^es.length
 |[],_=>A1i _
 | x::r,n=>by
  unfold wt;rw[rT,Nat.pow_succ];have:=U0 r n;have h2:0<2^r.length:=Nat.pow_pos 0x6
  split<;>lia
theorem Nk:∀{es:List aL}{n:Str},n∈nms es->1<=wt es n
 | x::r,n,h=>by
  unfold wt;have h2:0<2^r.length:=Nat.pow_pos 0x6
  split
  ·lia
  ·rename_i c
   rcases A0c.mp h with q|q
   ·exact absurd q.symm c
   ·exact Nk q
theorem Dk{es:List aL}:∀{ss:List Str},(∀s∈ss,s∈nms es)->ss.length<=(ss.map (wt es)).sum
 |[],_=>A0g _
 | x::r,h=>by
  have h1:=Nk (h x A0l);have h2:=Dk (es:=es) (ss:=r) fun s hs=>h s (lH _ hs);rw[rT,A0r,A0G];lia
def Ai:aX ["_law_book_here","_law_estate","_law_found","_law_ahead"] A5d (aH W7):=0x0
inductive Rj(vs:List V)(H:Hp)(Q:VK)(cP:XK):Prop
 |mk(q:Ad)(es:List aL)(ks:List Str)(e:aL)(_:vs=[.ref q.B,.str e.n])(_:Ap q)(_:Bk q H es ks)(_:WF es)(_:e∈es)(_:es.length<=18)(_:∀H':Hp,Same H H'->Q (.int e.br) H'):Rj vs H Q cP
def Wc(F:gF K "_law_breadth" "_law_breadth" W7 f fd)(G1:aP P w K mg base bV 1 g1 d1 A5d Ah)(M1:Ms K mg "_law_under" g1 d1 A5d):aP P w K mg base bV 2 f fd A5d Rj:=by
 refine F.ok Ai 0x3 0x5;obtain⟨q,es,ks,e,rfl,ap,bk,W,he,hl,k⟩:=h;refine⟨_,aq (aW (i:=2) Ai.nd rfl 0x9 (aN 0x17 0x1A 0xE 0x2))
  (aq (aW (i:=3) Ai.nd rfl 0x9 (aZ G1 hr rfl M1.m M1.k M1.b .nil aU (aj 0x11 0x4D)))
  (aq (lR A0M (aQ (Vh hr.units) 0x70 (dZ aC) 0x7C)
   (aq (aW (i:=2) Ai.nd rfl 0x9 (aO cL 0x37 (aN 0x17 0x1A (aK aM 0x70 au 0x2) 0x2)))
   (aF (aW (i:=3) Ai.nd rfl 0x9 (aO nW (fj jc 0x70 (cW au) j9) (aZ G1 hr rfl M1.m M1.k M1.b .nil aU (aj 0x11 (aj (aK aM 0x70 au 0x2) aC))))))))
  (aF (bh 0x37)))),?_⟩
 have hw:2^es.length<=262144:=A0L (A2k 0x6 hl) 0x6;refine⟨_,rfl,q.B,_,rfl,bk.go,_,rfl,q.o,_,rfl,Dj bk.o W.nd he,?_⟩;refine⟨_,rfl,_,rfl,q,es,ks,e.n,rfl,ap,bk,W.nd,by lia,fun t ss H1 s1 ht0 ht1 hp hs=>?_⟩;refine⟨fun m σ Hx=>∃(found:Int)(t:Addr)(ss:List Str),m=(ss.map (wt es)).sum/\σ=[some (.ref q.B),some (.str e.n),some (.int found),some 0x72]/\Same H Hx/\Hx t=some 0x8E/\(∀s∈ss,s∈nms es)/\found+(ss.map (Iz es)).sum=e.br/\(ss.map (wt es)).sum<=262144,⟨_,e.own,t,ss,rfl,rfl,s1,ht1,(mZ W.nd hp).1,?_,?_⟩,?_⟩
 ·rw[w6 W.nd hp];exact(W.br e he).symm
 ·have:=ug W he hp;have h2:=U0 es e.n;lia
 rintro m σ Hx ⟨found,t,ss,rfl,rfl,sx,tx,hm,hf,hb⟩;refine⟨_,rfl,small 0x8,fun z hz=>?_⟩;have sz:=aJ hz 0x6D;refine⟨_,_,.lst (sz _ _ tx) (jX ss),.lst ao .nil,ju (fun s hs=>by obtain⟨y,hy,rfl⟩:=cY (hm s hs);exact W.ok y hy),ju (ss:=[]) (fun _ h=>nomatch h),mG ss,_,rfl,?_⟩
 rw[strs_nil];cases ss with
 | nil=>
  refine bZ ⟨_,rfl,?_⟩;have:found=e.br:=by simpa using hf
  rw[this];exact k _ (sx.trans sz)
 | cons x r=>
  refine dJ ?_;obtain⟨y,hy,rfl⟩:=cY (hm x A0l);have sxz:=sx.trans sz;have bz:=bk.same sxz;have tz:=sz _ _ tx;rw[A0r,A0G]at hf hb;have lr:=Dk (es:=es) (ss:=r) fun s hs=>hm s (lH _ hs);refine⟨fun σ' H'=>∃(found:Int)(t:Addr)(ss:List Str),(ss.map (wt es)).sum<wt es y.n+(r.map (wt es)).sum/\σ'=[some (.ref q.B),some (.str e.n),some (.int found),some 0x72]/\Same H H'/\H' t=some 0x8E/\(∀s∈ss,s∈nms es)/\found+(ss.map (Iz es)).sum=e.br/\(ss.map (wt es)).sum<=262144,fun σ' H' ⟨fo,t',ss',q1,q2⟩=>⟨_,by rw[A0r,A0G];exact q1,fo,t',ss',rfl,q2⟩,?_⟩;refine⟨_,rfl,_,rfl,q.B,_,rfl,bz.go,_,rfl,t,_,_,_,rfl,rfl,bF.of tz,aD (j:=0) rfl,q.o,_,rfl,Dj bz.o W.nd hy,_,_,rfl,rfl,?_⟩;refine⟨_,rfl,_,rfl,t,_,rfl,bF.of tz,fun c hc=>?_⟩;rw[A0r,Nj];have sc:=aJ hc (.lst (r.map V.str));have bc:=bz.same sc;refine⟨_,rfl,_,rfl,t,_,_,_,rfl,rfl,bF.of (sc _ _ tz),aD (j:=0) rfl,q,es,ks,y.n,rfl,ap,bc,W.nd,by lia,fun u su H2 s2 hu0 hu1 hpu hsu=>?_⟩;have hum:=ug W hy hpu;have hus:=w6 W.nd hpu;have humm:=(mZ W.nd hpu).1;have lu:=Dk humm;refine⟨c,u,_,_,rfl,rfl,s2 _ _ ao,hu1,?_,fun v hv=>?_⟩
  ·rw[bY,bY];exact small 0x1
  have e2:r.map V.str++su.map V.str=(r++su).map V.str:=by rw[lN]
  rw[e2];refine⟨_,v,r++su,?_,rfl,bC ((sxz.trans sc).trans s2) (((sxz.trans sc).trans s2).free hv),ao,fun s hs=>?_,?_,?_⟩
  ·rw[lN,A2S];lia
  ·rcases A0u.mp hs with z|z
   ·exact hm s (lH _ z)
   ·exact humm s z
  ·rw[lN,A2S,hus];have b1:=MN W.nd hy;have b2:=W.br y hy;rw[b1]at hf;lia
  ·rw[lN,A2S];lia
def Gh{e:Str}{l:List Str}(h:Ch lo e l):∃r,l=e::r:=by cases h<;>exact⟨_,rfl⟩
def U3:aX ["_law_book_here","_law_estate","_law_found"] A5d (aH W8):=0x0
def Gi(l0:List Str)(y:Str):oG ((l0++[y]).map V.str) (-1)=some (V.str y):=by
 rw[lN];exact sS _ _
def Wd(F:gF K "_law_chain" "_law_chain" W8 f fd):aP P w K mg base bV 1 f fd A5d Ng:=by
 refine F.ok U3 0x3 0x5;obtain⟨q,es,ks,e,l,rfl,ap,bk,W,he,hc,hl,k⟩:=h;refine⟨_,aq (aW (i:=2) U3.nd rfl 0x9 (dZ 0x4D))
  (aq (lR A0M (aQ lD (aK aM 0x37 (uW qg au) 0x2) aG 0x7C)
   (aF (bJ (jD A0J A0R A0S cX 0x37 (aj (aN 0x17 0x1A (aK aM 0x37 (uW qg au) 0x2) 0x2) aC)))))
  (aF (bh 0x37))),?_⟩
 refine⟨_,rfl,small 0x8,fun t ht=>?_⟩;have s1:=aJ ht (.lst [V.str e]);obtain⟨r0,hr0⟩:=Gh hc;refine⟨fun m σ Hx=>∃(pre:List Str)(cur:Str)(rest:List Str),m=rest.length/\l=pre++cur::rest/\Ch 0x96 cur (cur::rest)/\cur∈nms es/\σ=[some (.ref q.B),some (.str e),some 0x72]/\Same H Hx/\Hx t=some (.lst ((pre++[cur]).map V.str)),⟨_,[],e,r0,rfl,hr0,hr0▸ hc,he,rfl,s1,ao⟩,?_⟩;rintro m σ Hx ⟨pre,cur,rest,rfl,hle,hch,hcm,rfl,sx,tx⟩;have bx:=bk.same sx;obtain⟨y,hy,rfl⟩:=cY hcm;have hvy:=cu (f:=fun e=>gU e.lord) W.nd hy;refine⟨_,rfl,_,rfl,t,_,_,_,rfl,rfl,bF.of tx,Gi pre y.n,rfl,_,rfl,?_⟩;rw[dU]
 by_cases c:y.n=""
 ·rw [A0t c];refine bZ ⟨_,rfl,?_⟩;have:rest=[]:=by
   generalize hz:y.n::rest=z at hch;cases hch with
   |crown _=>injection hz
   | up hv _=>
    rw[hvy,W.crown y hy c]at hv;cases hv
  rw[this]at hle;exact k t Hx sx ht (by rw[tx,hle])
 ·rw [A0K c];obtain⟨p,hp1,hp2,_⟩:=W.lord y hy c;have g1:=Dj bx.l W.nd hy;rw[hp1]at g1;have hrest:∃r',rest=p::r'/\Ch 0x96 p (p::r'):=by
   generalize hz:y.n::rest=z at hch;cases hch with
   | crown hv=>
    rw[hvy,hp1]at hv;cases hv
   | up hv h2=>
    rw[hvy,hp1]at hv;injection hv with hv;injection hv with hv;injection hz with _ hz;obtain⟨r',hr'⟩:=Gh h2;rw[hz];rw[hr']at h2 ⊢;rw[hv];exact⟨r',rfl,h2⟩
  obtain⟨r',rfl,hch2⟩:=hrest;have hlen:pre.length+(r'.length+2)=l.length:=by rw[hle];simp
  refine dJ ⟨fun σ' H'=>∃(pre:List Str)(cur:Str)(rest:List Str),rest.length<(p::r').length/\l=pre++cur::rest/\Ch 0x96 cur (cur::rest)/\cur∈nms es/\σ'=[some (.ref q.B),some (.str e),some 0x72]/\Same H H'/\H' t=some (.lst ((pre++[cur]).map V.str)),fun σ' H' ⟨a,b,c,q1,q2⟩=>⟨_,q1,a,b,c,rfl,q2⟩,?_⟩;refine⟨_,rfl,.inl ⟨rfl,_,bF.of tx⟩,_,rfl,q.B,_,rfl,bx.gl,_,rfl,_,rfl,t,_,_,_,rfl,rfl,bF.of tx,Gi pre y.n,q.l,_,rfl,g1,t,_,_,rfl,rfl,tx,?_,?_⟩
  ·rw[bY,lG,A0w];exact bO 0x1
  ·refine⟨pre++[y.n],p,r',by rw[rT];lia,by rw[hle];simp,hch2,hp2,rfl,bC sx ht,?_⟩;rw[ao,lN (l₂:=[p])];rfl
abbrev Wf:Stmt:=top 28
abbrev sNew:Stmt:=top 30
abbrev BQ(q:Ad)(H:Hp)(lo ho ow du:List 0x45)(ks:List Str):Prop:=fG H q.B q.l q.h q.o q.d q.kn q.dd q.kvs lo ho ow du ks
section
variable{q:Ad}{l':List 0x45}
def fG.ul(ap:Ap q)(b:BQ q H lo ho ow du ks):BQ q (upd H q.l (.dK l')) l' ho ow du ks:=
 ⟨by rw[ak (bN ap 5 6 rfl rfl 0x6)];exact b.b,b.vl,b.vh,b.vo,b.vd,b.vk,b.vx,ao,by rw[ak (bN ap 7 6 rfl rfl 0x6)];exact b.h,by rw[ak (bN ap 8 6 rfl rfl 0x6)];exact b.o,by rw[ak (bN ap 9 6 rfl rfl 0x6)];exact b.d,by rw[ak (bN ap 10 6 rfl rfl 0x6)];exact b.k,by rw[ak (bN ap 11 6 rfl rfl 0x6)];exact b.x,b.len⟩
def fG.uh(ap:Ap q)(b:BQ q H lo ho ow du ks):BQ q (upd H q.h (.dK l')) lo l' ow du ks:=
 ⟨by rw[ak (bN ap 5 7 rfl rfl 0x6)];exact b.b,b.vl,b.vh,b.vo,b.vd,b.vk,b.vx,by rw[ak (bN ap 6 7 rfl rfl 0x6)];exact b.l,ao,by rw[ak (bN ap 8 7 rfl rfl 0x6)];exact b.o,by rw[ak (bN ap 9 7 rfl rfl 0x6)];exact b.d,by rw[ak (bN ap 10 7 rfl rfl 0x6)];exact b.k,by rw[ak (bN ap 11 7 rfl rfl 0x6)];exact b.x,b.len⟩
def fG.uo(ap:Ap q)(b:BQ q H lo ho ow du ks):BQ q (upd H q.o (.dK l')) lo ho l' du ks:=
 ⟨by rw[ak (bN ap 5 8 rfl rfl 0x6)];exact b.b,b.vl,b.vh,b.vo,b.vd,b.vk,b.vx,by rw[ak (bN ap 6 8 rfl rfl 0x6)];exact b.l,by rw[ak (bN ap 7 8 rfl rfl 0x6)];exact b.h,ao,by rw[ak (bN ap 9 8 rfl rfl 0x6)];exact b.d,by rw[ak (bN ap 10 8 rfl rfl 0x6)];exact b.k,by rw[ak (bN ap 11 8 rfl rfl 0x6)];exact b.x,b.len⟩
def fG.ud(ap:Ap q)(b:BQ q H lo ho ow du ks):BQ q (upd H q.d (.dK l')) lo ho ow l' ks:=
 ⟨by rw[ak (bN ap 5 9 rfl rfl 0x6)];exact b.b,b.vl,b.vh,b.vo,b.vd,b.vk,b.vx,by rw[ak (bN ap 6 9 rfl rfl 0x6)];exact b.l,by rw[ak (bN ap 7 9 rfl rfl 0x6)];exact b.h,by rw[ak (bN ap 8 9 rfl rfl 0x6)];exact b.o,ao,by rw[ak (bN ap 10 9 rfl rfl 0x6)];exact b.k,by rw[ak (bN ap 11 9 rfl rfl 0x6)];exact b.x,b.len⟩
def fG.uk(ap:Ap q)(b:BQ q H lo ho ow du ks):BQ q (upd H q.kn (.lst (ks'.map V.str))) lo ho ow du ks':=
 ⟨by rw[ak (bN ap 5 10 rfl rfl 0x6)];exact b.b,b.vl,b.vh,b.vo,b.vd,b.vk,b.vx,by rw[ak (bN ap 6 10 rfl rfl 0x6)];exact b.l,by rw[ak (bN ap 7 10 rfl rfl 0x6)];exact b.h,by rw[ak (bN ap 8 10 rfl rfl 0x6)];exact b.o,by rw[ak (bN ap 9 10 rfl rfl 0x6)];exact b.d,ao,by rw[ak (bN ap 11 10 rfl rfl 0x6)];exact b.x,b.len⟩
def fG.kl(b:BQ q H lo ho ow du ks):fP H q.B (V.str "lords") (some (.ref q.l)):=gn b.b b.vl
def fG.kh(b:BQ q H lo ho ow du ks):fP H q.B (V.str "holders") (some (.ref q.h)):=gn b.b b.vh
def fG.ko(b:BQ q H lo ho ow du ks):fP H q.B (V.str "own") (some (.ref q.o)):=gn b.b b.vo
def fG.kd(b:BQ q H lo ho ow du ks):fP H q.B (V.str "due") (some (.ref q.d)):=gn b.b b.vd
def fG.kk(b:BQ q H lo ho ow du ks):fP H q.B (V.str "known") (some (.ref q.kn)):=gn b.b b.vk
end
def dI(q:Ad)(H H':Hp):Prop:=∀c u,c≠q.l->c≠q.h->c≠q.o->c≠q.d->c≠q.kn->H c=some u->H' c=some u
def dI.trans{q:Ad}(a:dI q H H1)(b:dI q H1 H2):dI q H H2:=fun c u h1 h2 h3 h4 h5 e=>b c u h1 h2 h3 h4 h5 (a c u h1 h2 h3 h4 h5 e)
def dI.ul{q:Ad}:dI q H (upd H q.l o):=fun c u h1 h2 h3 h4 h5 e=>by rw[ak h1];exact e
def dI.uh{q:Ad}:dI q H (upd H q.h o):=fun c u h1 h2 h3 h4 h5 e=>by rw[ak h2];exact e
def dI.uo{q:Ad}:dI q H (upd H q.o o):=fun c u h1 h2 h3 h4 h5 e=>by rw[ak h3];exact e
def dI.ud{q:Ad}:dI q H (upd H q.d o):=fun c u h1 h2 h3 h4 h5 e=>by rw[ak h4];exact e
def dI.uk{q:Ad}:dI q H (upd H q.kn o):=fun c u h1 h2 h3 h4 h5 e=>by rw[ak h5];exact e
def dI.same{q:Ad}(s:Same H H'):dI q H H':=fun c u _ _ _ _ _ e=>s c u e
def cZ{q:Ad}(b:BQ q H lo ho ow du ks)(o:dI q H H')(h:H r=some 0x52):H' r=some 0x52:=
 o r _ (bB h b.l 0x10) (bB h b.h 0x10) (bB h b.o 0x10) (bB h b.d 0x10) (bB h b.k 0x10) h
inductive Np(vs:List V)(H:Hp)(Q:VK)(cP:XK):Prop
 |mk(q:Ad)(lo ho ow du:List 0x20)(ks:List Str)(r:Addr)(xs:List V)(e n man lord:Str)(due:Addr)(a own:Int)(_:vs=[.ref q.B,.ref r,.str lord,.ref due])(_:Ap q)(_:BQ q H lo ho ow du ks)(_:H r=some 0x52)(_:xs[2]?=some (.str e))(_:xs[3]?=some (.str n))(_:xs[4]?=some (.str man))(_:xs[5]?=some (.int a))(_:bH (putK ow 0x21 (.int a)) 0x15=some (.int own))(_:lo.length<=800)(_:ho.length<=800)(_:ow.length<=800)(_:du.length<=800)(_:ks.length<=800)(_:∀H':Hp,BQ q H' (putK lo 0x21 (.str lord)) (putK ho 0x21 (.str man)) (putK (putK ow 0x21 (.int a)) 0x15 (.int (own-a))) (putK du 0x21 (.ref due)) (ks++[n])->dI q H H'->Q .non H'):Np vs H Q cP
inductive Wg(vs:List V)(H:Hp)(Q:VK)(cP:XK):Prop
 |mk(q:Ad)(es:List aL)(ks:List Str)(e0:aL)(p:Str)(_:vs=[.ref q.B,.str e0.n])(_:Ap q)(_:Bk q H es ks)(_:WF es)(_:e0∈es)(_:e0.n≠"")(_:e0.lord=some p)(_:es.length<64)(_:∀H':Hp,Bk q H' 0x23 ks->dI q H H'->Q .non H'):Wg vs H Q cP
def a0i:aX A5o A5o (aH sNew):=0x0
def Wh(F:gF K "_law_new" "_law_new" sNew f fd):aP P w K mg base bV 1 f fd A5o Np:=by
 refine F.ok a0i 0x3 0x5;obtain⟨q,lo,ho,ow,du,ks,r,xs,e,n,man,lord,due,a,own,rfl,ap,bk,hx,x2,x3,x4,x5,hown,l1,l2,l3,l4,l5,k⟩:=h;refine⟨_,aq (eY 0x17 0x1A 0x19 0x37 rfl)
  (aq (eY 0x17 0x1A 0x19 0x19 rfl)
  (aq (eY 0x17 0x1A 0x19 0x19 rfl)
  (aq (eY 0x17 0x1A 0x19 0x70 rfl)
  (aq (mW 0x17 0x1A 0x19 0x19 wN (fun _ _ _=>rfl))
  (aF (bJ (jD A0J A0R A0S cX 0x1A (aj 0x19 aC)))))))),?_⟩
 refine⟨_,rfl,_,rfl,q.B,_,rfl,bk.kl,_,rfl,r,_,_,_,rfl,rfl,bI.of hx,aD (j:=3) x3,q.l,_,rfl,gY.k (k:=.inr n) bk.l (bO 0x1),?_⟩;have b1:=bk.ul (l':=putK lo 0x21 (.str lord)) ap;have o1:dI q H (upd H q.l (.dK (putK lo 0x21 (.str lord)))):=dI.ul;have hx1:=cZ bk o1 hx;generalize upd H q.l (.dK (putK lo 0x21 (.str lord)))=H1 at b1 o1 hx1 ⊢;refine⟨_,rfl,r,_,_,_,rfl,rfl,bI.of hx1,aD (j:=4) x4,_,rfl,q.B,_,rfl,b1.kh,_,rfl,r,_,_,_,rfl,rfl,bI.of hx1,aD (j:=3) x3,q.h,_,rfl,gY.k (k:=.inr n) b1.h (bO 0x1),?_⟩;have b2:=b1.uh (l':=putK ho 0x21 (.str man)) ap;have o2:=o1.trans (dI.uh (H:=H1) (o:=.dK (putK ho 0x21 (.str man))));have hx2:=cZ bk o2 hx;generalize upd H1 q.h (.dK (putK ho 0x21 (.str man)))=H2 at b2 o2 hx2 ⊢;refine⟨_,rfl,r,_,_,_,rfl,rfl,bI.of hx2,aD (j:=5) x5,_,rfl,q.B,_,rfl,b2.ko,_,rfl,r,_,_,_,rfl,rfl,bI.of hx2,aD (j:=3) x3,q.o,_,rfl,gY.k (k:=.inr n) b2.o (bO 0x1),?_⟩;have b3:=b2.uo (l':=putK ow 0x21 (.int a)) ap;have o3:=o2.trans (dI.uo (H:=H2) (o:=.dK (putK ow 0x21 (.int a))));have hx3:=cZ bk o3 hx;generalize upd H2 q.o (.dK (putK ow 0x21 (.int a)))=H3 at b3 o3 hx3 ⊢;refine⟨_,rfl,_,rfl,q.B,_,rfl,b3.kd,_,rfl,r,_,_,_,rfl,rfl,bI.of hx3,aD (j:=3) x3,q.d,_,rfl,gY.k (k:=.inr n) b3.d (bO 0x1),?_⟩;have b4:=b3.ud (l':=putK du 0x21 (.ref due)) ap;have o4:=o3.trans (dI.ud (H:=H3) (o:=.dK (putK du 0x21 (.ref due))));have hx4:=cZ bk o4 hx;generalize upd H3 q.d (.dK (putK du 0x21 (.ref due)))=H4 at b4 o4 hx4 ⊢;have hl3:=dG ow 0x21 (.int a);refine⟨_,rfl,q.B,_,rfl,b4.ko,_,rfl,r,_,_,_,rfl,rfl,bI.of hx4,aD (j:=2) x2,q.o,_,rfl,gn b4.o hown,_,rfl,r,_,_,_,rfl,rfl,bI.of hx4,aD (j:=5) x5,_,_,rfl,rfl,_,gY.k (k:=.inr e) b4.o (bO 0x1),?_⟩;have b5:=b4.uo (l':=putK (putK ow 0x21 (.int a)) 0x15 (.int (own-a))) ap;have o5:=o4.trans (dI.uo (H:=H4) (o:=.dK (putK (putK ow 0x21 (.int a)) 0x15 (.int (own-a)))));have hx5:=cZ bk o5 hx;generalize upd H4 q.o (.dK (putK (putK ow 0x21 (.int a)) 0x15 (.int (own-a))))=H5 at b5 o5 hx5 ⊢;refine⟨_,rfl,q.B,_,rfl,b5.kk,.inl ⟨rfl,_,bF.of b5.k⟩,_,rfl,r,_,_,_,rfl,rfl,bI.of hx5,aD (j:=3) x3,q.kn,_,_,rfl,rfl,b5.k,0x7F,?_⟩;have e1:ks.map V.str++[V.str n]=(ks++[n]).map V.str:=by rw[lN];rfl
 rw[e1];exact k _ (b5.uk ap) (o5.trans dI.uk)
def Nq:aX ["_law_book_here","_law_estate","_law_lord","_law_one"] A5d (aH Wf):=0x0
def Aj(h:H a=none)(h2:H b=some o):a≠b:=fun q=>by rw[q,h2]at h;cases h
def isD(h:H a=some 0x18):IsD H a:=.inl ⟨kvs,.inl h⟩
def a0j(F:gF K "_law_fall" "_law_fall" Wf f fd)(G1:aP P w K mg base bV 1 g1 d1 A5d Ah)(M1:Ms K mg "_law_under" g1 d1 A5d):aP P w K mg base bV 2 f fd A5d Wg:=by
 refine F.ok Nq 0x3 0x5;obtain⟨q,es,ks,e0,p,rfl,ap,bk,W,he,hne,hp,hl,k⟩:=h;refine⟨_,aq (aW (i:=2) Nq.nd rfl 0x9 (pD 0x1A 0xE ⟨rfl,rfl,rfl,rfl⟩))
  (aq (mW 0x17 0x1A 0x37 (pD 0x1A 0xE ⟨rfl,rfl,rfl,rfl⟩) JH (fun _ _ _=>rfl))
  (aq (bJ (pD 0x1A 0xE ⟨rfl,rfl,rfl,rfl⟩))
  (aq (bJ (pD 0x1A 0xE ⟨rfl,rfl,rfl,rfl⟩))
  (aF (eZ A0M rfl (eU (aZ G1 hr rfl M1.m M1.k M1.b .nil aU (aj 0x11 0x4D))) (bf (i:=3) Nq.nd rfl 0x9) (aF (eY 0x17 0x1A 0x70 0x37 rfl))))))),?_⟩
 obtain⟨p',hp',hpm,hpn⟩:=W.lord e0 he hne;obtain rfl:p=p':=by rw[hp]at hp';injection hp'
 obtain⟨y0,hy0,U4⟩:=cY hpm;have v1:=cu (f:=fun e=>gU e.lord) W.nd he;rw[hp]at v1;refine⟨_,rfl,q.B,_,rfl,bk.kl,q.l,rfl,isD bk.l,_,rfl,_,.inr e0.n,_,bk.l,rfl,v1,?_⟩;rw[kZ];have b1:=fG.ul (l':=gZ 0xF) ap bk;have o1:dI q H (upd H q.l (.dK (gZ 0xF))):=dI.ul;generalize upd H q.l (.dK (gZ 0xF))=H1 at b1 o1 ⊢;have gp:=Dj b1.o W.nd hy0;rw[U4]at gp;refine⟨_,rfl,q.B,_,rfl,b1.ko,_,rfl,q.o,_,rfl,gp,_,rfl,q.B,_,rfl,b1.ko,q.o,rfl,isD b1.o,_,rfl,_,.inr e0.n,_,b1.o,rfl,cu W.nd he,?_⟩;rw[kZ];have b2:=b1.uo (l':=lF 0xF) ap;have o2:=o1.trans (dI.uo (H:=H1) (o:=.dK (lF 0xF)));generalize upd H1 q.o (.dK (lF 0xF))=H2 at b2 o2 ⊢;have fl:(0xF).length<=es.length:=A0s _ _;refine⟨_,_,rfl,rfl,_,gY.k (k:=.inr p) b2.o (by rw[gq];exact bO 0x1),?_⟩;rw[IW W.nd hy0 U4 hpn];have b3:=b2.uo (l':=lF 0x23) ap;have o3:=o2.trans (dI.uo (H:=H2) (o:=.dK (lF 0x23)));generalize upd H2 q.o (.dK (lF 0x23))=H3 at b3 o3 ⊢;refine⟨_,rfl,q.B,_,rfl,b3.kh,q.h,rfl,isD b3.h,_,rfl,_,.inr e0.n,_,b3.h,rfl,cu W.nd he,?_⟩;rw[kZ];have b4:=b3.uh (l':=hoL 0xF) ap;have o4:=o3.trans (dI.uh (H:=H3) (o:=.dK (hoL 0xF)));generalize upd H3 q.h (.dK (hoL 0xF))=H4 at b4 o4 ⊢;refine⟨_,rfl,q.B,_,rfl,b4.kd,q.d,rfl,isD b4.d,_,rfl,_,.inr e0.n,_,b4.d,rfl,cu W.nd he,?_⟩;rw[kZ];have b5:=b4.ud (l':=qU 0xF) ap;have o5:=o4.trans (dI.ud (H:=H4) (o:=.dK (qU 0xF)));generalize upd H4 q.d (.dK (qU 0xF))=H5 at b5 o5 ⊢;have nd1:(nms 0xF).Nodup:=(List.filter_sublist.map _).nodup W.nd;generalize hes1:0xF=es1 at b5 nd1 fl
 let g2:aL->aL:=fun y=>{y with own:=if y.n=p then y.own+e0.own else y.own}
 have m1:gZ 0x7B=gZ es1:=iV (g:=g2) fun _=>rfl;have m2:hoL 0x7B=hoL es1:=iV (g:=g2) fun _=>rfl;have m3:lF 0x7B=lF 0x23:=by
  unfold cD;rw[hes1]
  show kv _ 0x7B=kv _ (es1.map _)
  rw[iV (g:=g2) 0xC,iV (g:=Dg e0.n p e0.own) 0xC];rfl
 have m4:qU 0x7B=qU es1:=iV (g:=g2) fun _=>rfl;have b6:Bk q H5 0x7B ks:=by
  show BQ q H5 (gZ 0x7B) (hoL 0x7B) (lF 0x7B) (qU 0x7B) ks
  rw[m1,m2,m3,m4];exact b5
 have nd2:(nms 0x7B).Nodup:=by
  have:nms 0x7B=nms es1:=by
   show(0x7B).map _=_
   rw[A0N];rfl
  rw[this];exact nd1
 refine⟨_,rfl,_,rfl,q,es1.map g2,ks,e0.n,rfl,ap,b6,nd2,by rw[bY];lia,fun r ss H6 s6 hr0 hr1 hpp hs=>?_⟩;have hpp1:ss.Perm ((es1.filter fun y=>decide (y.lord=some e0.n)).map (·.n)):=by
  rw[A3q,A0N]at hpp;exact hpp
 have hsl:ss.length<=es1.length:=by
  rw[hpp1.length_eq,bY];exact A0s _ _
 have b7:=b5.same s6;have o6:=o5.trans (dI.same (q:=q) s6);refine⟨r,rfl,⟨_,bF.of hr1⟩,lV (K:=K) (a:=r) (xs:=ss.map V.str) (fun i σ Hx=>(∃u3,σ=[some (.ref q.B),some (.str e0.n),some (.str p),u3])/\Hx r=some 0x8E/\BQ q Hx (moved (gZ es1) (ss.take i) p) (hoL es1) (lF 0x23) (qU es1) ks/\dI q H Hx/\r≠q.l)
  ⟨⟨none,rfl⟩,hr1,b7,o6,Aj hr0 b5.l⟩ (fun i σ Hx _ h=>bF.of h.2.1) ?_ ?_⟩
 ·rintro i v σ Hx hv ⟨⟨u3,rfl⟩,rx,bx,ox,nr⟩;rw[lJ]at hv;obtain⟨n,hn,rfl⟩:=A1b.mp hv;have hml:=vN (gZ es1) p (ss.take i);rw[A0T,gq]at hml;refine⟨_,rfl,_,rfl,q.B,_,rfl,bx.kl,_,rfl,q.l,_,rfl,gY.k (k:=.inr n) bx.l (bO 0x1),?_⟩;have em:moved (gZ es1) (ss.take (i+1)) p=putK (moved (gZ es1) (ss.take i) p) 0x21 (.str p):=by rw[A1S,hn];exact tQ _ _ _ _
  refine⟨⟨_,rfl⟩,by rw[ak nr];exact rx,?_,ox.trans dI.ul,nr⟩;rw[em];exact bx.ul ap
 ·rintro σ Hx ⟨⟨u3,rfl⟩,rx,bx,ox,nr⟩;rw[bY,A1x]at bx;subst hes1;rw[IV (a:=e0.own) W.nd hpp1]at bx;refine k Hx ?_ ox;have f1:hoL 0x23=hoL 0xF:=iV (g:=Dg e0.n p e0.own) fun _=>rfl;have f2:qU 0x23=qU 0xF:=iV (g:=Dg e0.n p e0.own) fun _=>rfl
  show BQ q Hx (gZ 0x23) (hoL 0x23) (lF 0x23) (qU 0x23) ks
  rw[f1,f2];exact bx
inductive Rw
 |grant (e n m:Str) (a s:Int)
 |part (e n m:Str) (a:Int)
 |convey (e m:Str)
 |jY (e:Str)
def Rw.vs:Rw->List V
 | .grant e n m a s=>[.str "grant",.int 0,.str e,.str n,.str m,.int a,.int s]
 | .part e n m a=>[.str "part",.int 0,.str e,.str n,.str m,.int a]
 | .convey e m=>[.str "convey",.int 0,.str e,.str m]
 | .jY e=>[.str "surrender",.int 0,.str e]
def Rw.Ok(ls:List Str):Rw->Prop
 | .grant _ n _ a s=>n∈ls/\1<=a/\a<=9999/\0<=s/\s<=9999
 | .part e n _ a=>n∈ls/\1<=a/\a<=9999/\e≠""
 | .convey e _=>e≠""
 | .jY e=>e≠""
def fV(es:List aL)(ks:List Str)(y:aL):Rw->Prop
 | .grant e n _ a _=>y∈es/\y.n=e/\n∉ks/\a<=y.own
 | .part e n _ a=>y∈es/\y.n=e/\n∉ks/\a<=y.own
 | .convey e _=>y∈es/\y.n=e
 | .jY e=>y∈es/\y.n=e
def jZ(a:Int)(y:aL):aL:={y with own:=y.own-a}
def lM(a:Int)(t b:Addr)(y:aL):aL:={y with own:=y.own-a,br:=y.br-a,due:=oH (y.due.1*(y.br-a)) (y.due.2*y.br),ta:=t,tb:=b}
def nj(m:Str)(y:aL):aL:={y with man:=m}
def nT(e n m:Str)(a s:Int)(t b:Addr):aL:=⟨n,some e,m,a,a,(s,1),t,b⟩
def qW(y:aL)(n m:Str)(a:Int)(t b:Addr):aL:=⟨n,y.lord,m,a,a,oH (y.due.1*a) (y.due.2*y.br),t,b⟩
def stp(y:aL)(es:List aL)(t1 t2 b1 b2:Addr):Rw->List aL
 | .grant _ n m a s=>mod y.n (jZ a) es++[nT y.n n m a s t1 b1]
 | .part _ n m a=>mod y.n (lM a t2 b2) es++[qW y n m a t1 b1]
 | .convey _ m=>mod y.n (nj m) es
 | .jY _=>cD y.n (y.lord.getD "") y.own es
def stK(ks:List Str):Rw->List Str
 | .grant _ n _ _ _=>ks++[n]
 | .part _ n _ _=>ks++[n]
 |_=>ks
def ji{f:aL->V}{es:List aL}{y:aL}{g:aL->aL}(hg:∀e,(g e).n=e.n)(nd:(0x31).Nodup)(hy:y∈es):kv f (mod y.n g es)=putK 0x56 0x5F (f (g y)):=by
 rw[Mx hg,tZ (A0h.mpr ⟨y,hy,rfl⟩)];refine fZ fun e he=>?_
 split
 ·rename_i c
  rw[fO nd he hy c]
 ·rfl
def cJ{f:aL->V}{es:List aL}{n:Str}{g:aL->aL}{x:aL}(hg:∀e,(g e).n=e.n)(h:x.n∉nms es):kv f (mod n g es++[x])=putK (kv f (mod n g es)) (.inr x.n) (f x):=by
 rw[VR,yg (by rw[rQ hg];exact h)]
def um{f:aL->V}{es:List aL}{e n:Str}{u:V}(he:e∈nms es)(hn:n∉nms es):putK (putK 0x56 0x21 v) 0x15 u=putK (putK 0x56 0x15 u) 0x21 v:=by
 have ne:n≠e:=fun z=>hn (z▸ he);rw[yg hn,tZ he,yg hn];unfold putK;have ha:((kv f es++[(Sum.inr n,v)]).any fun x=>decide (x.1=Sum.inr e))=true:=by
  rw[List.any_append,Mt,A0t he];rfl
 rw[A0i ha,lN,A0N]
 congr 1
 ·refine A1e fun y _=>?_
  show(if(Sum.inr y.n:Key)=.inr e then(Sum.inr y.n,u)else(Sum.inr y.n,f y))=(Sum.inr y.n,if y.n=e then u else f y)
  by_cases q:y.n=e
  ·rw[A0i (key_eq.mpr q),A0i q]
  ·rw[A0f (fun z=>q (key_eq.mp z)),A0f q]
 ·show[if(Sum.inr n:Key)=.inr e then(Sum.inr n,u)else(Sum.inr n,v)]=_
  rw[A0f fun z=>ne (key_eq.mp z)]
structure Rel(C:Addr)(q:Ad)(H:Hp)(es:List aL)(ks:List Str)(ls:List Str)(j:Nat):Prop where
 ap:Ap q
 L:Ln C q H es
 B:Bk q H es ks
 W:WF es
 fr:∀e∈es,qT H e.ta e.due.1 e.due.2/\qT H e.tb e.due.1 e.due.2/\Bd (10+5*j) e.due
 kn:∀e∈es,e.n≠""->e.n∈ks
 ln:es.length<=1+j
 lk:ks.length<=j
 nl:∀e∈es,e.n=""\/e.n∈ls
 tot:(es.map (·.own)).sum=q.wd
 cr:∀e∈es,e.n=""->e.br=q.wd
def Rel.same{q:Ad}{es:List aL}(r:Rel C q H es ks ls j)(s:Same H H'):Rel C q H' es ks ls j:=
 ⟨r.ap,r.L.same s,r.B.same s,r.W,fun e he=>⟨s _ _ (r.fr e he).1,s _ _ (r.fr e he).2.1,(r.fr e he).2.2⟩,r.kn,r.ln,r.lk,r.nl,r.tot,r.cr⟩
def Rel.up{q:Ad}{es:List aL}{k:Nat}(r:Rel C q H es ks ls j)(h:j<=k):Rel C q H es ks ls k:=
 ⟨r.ap,r.L,r.B,r.W,fun e he=>⟨(r.fr e he).1,(r.fr e he).2.1,(r.fr e he).2.2.mono 0x1⟩,r.kn,by have:=r.ln;lia,by have:=r.lk;lia,r.nl,r.tot,r.cr⟩
def Rel.ten{q:Ad}{es:List aL}(r:Rel C q H es ks ls j)(h:ls.length=9):es.length<=10:=by
 have:=sub_len (l:=nms es) (m:=("":Str)::ls) r.W.nd fun x hx=>by
  obtain⟨y,hy,rfl⟩:=cY hx;rcases r.nl y hy with z|z
  ·rw[z];exact A0l
  ·exact lH _ z
 rw[bY,rT]at this;lia
def Rel.new{q:Ad}{es:List aL}(r:Rel C q H es ks ls j){n:Str}(h:n∉ks)(h0:n≠""):n∉nms es:=fun c=>by
 obtain⟨y,hy,rfl⟩:=cY c;exact h (r.kn y hy h0)
def Wi{q:Ad}{es:List aL}{bU:Rw}{y:aL}(r:Rel C q H es ks ls j)(hok:bU.Ok ls):∀e∈stp y es t1 t2 b1 b2 bU,e.n=""\/e.n∈ls:=by
 intro z hz;cases bU with
 | grant e n m a s=>
  rcases A0u.mp hz with c|c
  ·obtain⟨z0,h0,rfl⟩:=cH c;have e1:(if z0.n=y.n then jZ a z0 else z0).n=z0.n:=by split<;>rfl
   rw[e1];exact r.nl z0 h0
  ·rw[A0e.mp c];exact .inr hok.1
 | part e n m a=>
  rcases A0u.mp hz with c|c
  ·obtain⟨z0,h0,rfl⟩:=cH c;have e1:(if z0.n=y.n then lM a t2 b2 z0 else z0).n=z0.n:=by split<;>rfl
   rw[e1];exact r.nl z0 h0
  ·rw[A0e.mp c];exact .inr hok.1
 | convey e m=>
  obtain⟨z0,h0,rfl⟩:=cH hz;have e1:(if z0.n=y.n then nj m z0 else z0).n=z0.n:=by split<;>rfl
  rw[e1];exact r.nl z0 h0
 | jY e=>
  obtain⟨z0,h0,rfl⟩:=A0h.mp hz;exact r.nl z0 (A0y.mp h0).1
def Wj{q:Ad}{es:List aL}{bU:Rw}{y:aL}(r:Rel C q H es ks ls j)(hst:fV es ks y bU)(hok:bU.Ok ls)(hls:∀n∈ls,n≠""/\PyData.strOk n=true):∀e∈stp y es t1 t2 b1 b2 bU,e.n=""->e.br=q.wd:=by
 intro z hz h0;cases bU with
 | grant e n m a s=>
  rcases A0u.mp hz with c|c
  ·obtain⟨z0,h1,rfl⟩:=cH c
   revert h0;split
   ·exact r.cr z0 h1
   ·exact r.cr z0 h1
  ·rw[A0e.mp c]at h0;exact absurd h0 (hls n hok.1).1
 | part e n m a=>
  rcases A0u.mp hz with c|c
  ·obtain⟨z0,h1,rfl⟩:=cH c
   revert h0;split
   ·rename_i hc
    exact fun h0=>absurd ((hst.2.1.symm.trans hc.symm).trans h0) hok.2.2.2
   ·exact r.cr z0 h1
  ·rw[A0e.mp c]at h0;exact absurd h0 (hls n hok.1).1
 | convey e m=>
  obtain⟨z0,h1,rfl⟩:=cH hz
  revert h0;split
  ·exact r.cr z0 h1
  ·exact r.cr z0 h1
 | jY e=>
  obtain⟨z0,h1,rfl⟩:=A0h.mp hz;exact r.cr z0 (A0y.mp h1).1 h0
def yj{es:List aL}{y:aL}{g:aL->aL}(nd:(0x31).Nodup)(hy:y∈es):((mod y.n g es).map (·.own)).sum=(es.map (·.own)).sum-y.own+(g y).own:=by
 unfold mod;rw[A0N,rP (F:=(·.own)) (e0:=y) nd hy fun z _ ne=>?_]
 ·show _-y.own+(if y.n=y.n then g y else y).own=_
  rw[A0i rfl]
 ·show(if z.n=y.n then g z else z).own=z.own
  rw[A0f ne]
def Rk{es:List aL}{bU:Rw}{y:aL}(W:WF es)(hst:fV es ks y bU)(hok:bU.Ok ls):((0x33).map (·.own)).sum=(es.map (·.own)).sum:=by
 cases bU with
 | grant e n m a s=>
  obtain⟨hy,rfl,_⟩:=hst
  show((mod y.n (jZ a) es++[nT y.n n m a s t1 b1]).map (·.own)).sum=_
  rw[lN,A2S,yj W.nd hy]
  show _-y.own+(y.own-a)+(a+0)=_
  lia
 | part e n m a=>
  obtain⟨hy,rfl,_⟩:=hst
  show((mod y.n (lM a t2 b2) es++[qW y n m a t1 b1]).map (·.own)).sum=_
  rw[lN,A2S,yj W.nd hy]
  show _-y.own+(y.own-a)+(a+0)=_
  lia
 | convey e m=>
  obtain⟨hy,rfl⟩:=hst
  show((0x25).map (·.own)).sum=_
  rw[yj W.nd hy]
  show _-y.own+y.own=_
  lia
 | jY e=>
  obtain⟨hy,rfl⟩:=hst;obtain⟨p,hp,hpm,hpn⟩:=W.lord y hy hok;obtain⟨z,hz,TY⟩:=cY hpm;have ep:y.lord.getD ""=p:=by rw[hp];rfl
  show((0x7A).map (·.own)).sum=_
  rw [ep];unfold cD;rw[A0N,u6 (F:=(·.own)∘Dg y.n p y.own) W.nd hy];have e1:(es.map ((·.own)∘Dg y.n p y.own)).sum=(es.map (·.own)).sum-z.own+(z.own+y.own):=by
   rw[rP (F:=(·.own)) (e0:=z) W.nd hz fun u _ ne=>?_]
   ·show _-z.own+(if z.n=p then z.own+y.own else z.own)=_
    rw[A0i TY]
   ·show(if u.n=p then u.own+y.own else u.own)=u.own
    rw[A0f (by rw[<-TY];exact ne)]
  rw[e1]
  show _-(if y.n=p then y.own+y.own else y.own)=_
  rw[A0f (A0k hpn)];lia
def Wk{q:Ad}{es:List aL}{bU:Rw}{y:aL}(r:Rel C q H es ks ls j)(hst:fV es ks y bU)(hok:bU.Ok ls)(hls:∀n∈ls,n≠""/\PyData.strOk n=true):
  WF 0x33/\(∀e∈stp y es t1 t2 b1 b2 bU,e.n≠""->e.n∈stK ks bU)/\(0x33).length<=1+(j+1)/\(stK ks bU).length<=j+1:=by
 have lk:=r.lk;have ln:=r.ln;have ml:∀(n:Str)(g:aL->aL),(mod n g es).length=es.length:=fun n g=>bY _;cases bU with
 | grant e n m a s=>
  obtain⟨hy,rfl,hn,ha⟩:=hst;obtain⟨h1,h2,h3,h4,h5⟩:=hok;have hx:=r.new hn (hls n h1).1;refine⟨WF.new r.W hy (x:=nT y.n n m a s t1 b1) 0xC 0xC rfl 0x1 ha hx (hls n h1).2 rfl rfl (.inl ⟨rfl,rfl⟩),fun z hz hne=>?_,?_,?_⟩
  ·rcases A0u.mp hz with c|c
   ·obtain⟨z0,h0,rfl⟩:=cH c;refine A2Z _ ?_;have e1:(if z0.n=y.n then jZ a z0 else z0).n=z0.n:=by split<;>rfl
    rw[e1]at hne ⊢;exact r.kn z0 h0 hne
   ·rw[A0e.mp c];exact A0H _ (A0e.mpr rfl)
  ·show(mod y.n (jZ a) es++[nT y.n n m a s t1 b1]).length<=_
   rw[lG,ml,A0w];lia
  ·show(ks++[n]).length<=_
   rw[lG,A0w];lia
 | part e n m a=>
  obtain⟨hy,rfl,hn,ha⟩:=hst;obtain⟨h1,h2,h3,h4⟩:=hok;have hx:=r.new hn (hls n h1).1;refine⟨WF.new r.W hy (x:=qW y n m a t1 b1) 0xC 0xC rfl 0x1 ha hx (hls n h1).2 rfl rfl (.inr ⟨rfl,h4,rfl⟩),fun z hz hne=>?_,?_,?_⟩
  ·rcases A0u.mp hz with c|c
   ·obtain⟨z0,h0,rfl⟩:=cH c;refine A2Z _ ?_;have e1:(if z0.n=y.n then lM a t2 b2 z0 else z0).n=z0.n:=by split<;>rfl
    rw[e1]at hne ⊢;exact r.kn z0 h0 hne
   ·rw[A0e.mp c];exact A0H _ (A0e.mpr rfl)
  ·show(mod y.n (lM a t2 b2) es++[qW y n m a t1 b1]).length<=_
   rw[lG,ml,A0w];lia
  ·show(ks++[n]).length<=_
   rw[lG,A0w];lia
 | convey e m=>
  refine⟨WF.mod r.W 0xC 0xC 0xC fun _=>rfl,fun z hz hne=>?_,?_,?_⟩
  ·obtain⟨z0,h0,rfl⟩:=cH hz;have e1:(if z0.n=y.n then nj m z0 else z0).n=z0.n:=by split<;>rfl
   rw[e1]at hne ⊢;exact r.kn z0 h0 hne
  ·show(0x25).length<=_
   rw[ml];lia
  ·show ks.length<=_
   lia
 | jY e=>
  obtain⟨hy,rfl⟩:=hst;obtain⟨p,hp,_,_⟩:=r.W.lord y hy hok;have ep:y.lord.getD ""=p:=by rw[hp];rfl
  refine⟨?_,fun z hz hne=>?_,?_,?_⟩
  ·show WF 0x7A
   rw[ep];exact WF.fall r.W hy hok hp
  ·obtain⟨z0,h0,rfl⟩:=A0h.mp hz;exact r.kn z0 (A0y.mp h0).1 hne
  ·show(0x7A).length<=_
   unfold cD;rw[bY];have:=A0s (fun x=>decide (x.n≠y.n)) es;lia
  ·show ks.length<=_
   lia
end M
namespace L2
open PySem
open AutoSeq1 (wpAny_loadPart')
open PySem.Spec PyProof.Rows PySem.W
section
variable{M:Model}
end
end L2
namespace M
open PySem L2 PyProof.Rows
abbrev Wm:Stmt:=top 27
abbrev Wn:Stmt:=top 41
def nA(h:Str)(l:List Str):inV (V.str h) (l.map V.str)=decide (h∈l):=by
 unfold inV
 induction l with
 |nil=>rfl
 | cons x r ih=>
  rw[A0r,A2T,ih]
  show((x==h)||decide (h∈r))=_
  rw[A2g,Bool.or_eq_true,A2P,A2P,A0c,A3s]
  constructor
  ·rintro(e|e)
   ·exact .inl e.symm
   ·exact .inr e
  ·rintro(e|e)
   ·exact .inl e.symm
   ·exact .inr e
def iC(l:List Str):(l.map V.str).all oU=true:=by
 rw[List.all_map];exact A1w.mpr fun x _=>rfl
def fH{k:Str}{b:Bool}{A:Prop}(h:decide (k∈ls)=b)(g:if b=true then A else B):if(if(false:Bool)=true then !inV (V.str k) (ls.map V.str)else inV (V.str k) (ls.map V.str))=true then A else B:=by
 rw[A0f A0n,nA,h];exact g
def jP{k l:Str}{b:Bool}{A:Prop}(h:decide (k=l)=b)(g:if b=true then A else B):if decide (V.str k=V.str l)=true then A else B:=by
 rw[dU,h];exact g
def yp{k l:Str}{b:Bool}{A:Prop}(h:decide (k=l)=b)(g:if(!b)=true then A else B):if(!decide (V.str k=V.str l))=true then A else B:=by
 rw[dU,h];exact g
def pU{h:Str}{l:List Str}{A:Prop}(h1:h∈l->A)(h2:h∉l->B):if(if(false:Bool)=true then !inV (V.str h) (l.map V.str)else inV (V.str h) (l.map V.str))=true then A else B:=by
 rw[A0f A0n,nA];exact gA (fun c=>h1 (yI c)) fun c=>h2 fun z=>c (A0t z)
def Rm:TT:=fun _ _ _=>False
def wA:PT X e Rm:=fun _ _ _ _ _ _ h=>h.elim
inductive Nr(vs:List V)(H:Hp)(Q:VK)(cP:XK):Prop
 |mk(q:Ad)(es:List aL)(ks:List Str)(r:Addr)(bU:Rw)(_:vs=[.ref q.B,.ref r])(_:Ap q)(_:Bk q H es ks)(_:(0x31).Nodup)(_:H r=some (.tup (Rw.vs bU)))(_:∀(z:Str)(H':Hp),Same H H'->(z="stands"↔∃y,fV es ks y bU)->Q (.str z) H'):Nr vs H Q cP
inductive Nt(vs:List V)(H:Hp)(Q:VK)(cP:XK):Prop
 |mk(q:Ad)(es:List aL)(ks:List Str)(r:Addr)(bU:Rw)(_:vs=[.ref q.B,.ref r])(_:Ap q)(_:Bk q H es ks)(_:(0x31).Nodup)(_:H r=some (.tup (Rw.vs bU)))(_:∀(b:Bool)(H':Hp),Same H H'->(b=true↔∃y,fV es ks y bU)->Q (.bl b) H'):Nt vs H Q cP
def Ak:aX ["_law_book_here","_law_row_here","_law_kind","_law_man"] A5g (aH Wm):=0x0
def Wo(F:gF K "_law_why" "_law_why" Wm f fd):aP P w K mg base bV 1 f fd A5g Nr:=by
 refine F.ok Ak 0x3 0x5;obtain⟨q,es,ks,r,bU,rfl,ap,b0,nd,hx,k⟩:=h;refine⟨_,(aq (aW (i:=2) Ak.nd rfl 0x9 0x19)
  (aq (bM (PW.pt (q9 (aQ fQ 0x37 (cB (aj aG (aj aG (aj aG 0x94)))) 0x13) (mO (Jq (HS 0x17 0x19 0x1A) 0x13)))) (aF (bh aG)) aV)
  (aq (bM (PW.pt (q9 (aQ fQ 0x37 (cB (aj aG 0x94)) 0x13) (mO (aQ fQ 0x19 0x1A 0x13)))) (aF (bh aG)) aV)
  (aq (aW (i:=3) Ak.nd rfl 0x9 0x19)
  (aq (bM (aQ fQ 0x37 (cB (aj aG 0x94)) 0x13) (aF (aW (i:=3) Ak.nd rfl 0x9 0x19)) aV)
  (aq (bM (aQ cU 0x37 aG 0x7C) (aF (aW (i:=3) Ak.nd rfl 0x9 0x19)) aV)
  (aq (bM (PW.pt (q9 (aQ lD 0x37 aG 0x7C) (mO (aQ fQ 0x70 0x1A 0x13)))) (aF (bh aG)) aV)
  (aq (bM (PW.pt (q9 (aQ fQ 0x37 (cB (aj aG 0x94)) 0x13) (mO (aQ Ef 0x19 (aN 0x17 0x1A 0x19 0x2) 0x7C)))) (aF (bh aG)) aV)
  (aq (bM (PW.pt (q9 (aQ cU 0x37 aG 0x7C) (mO wA))) bR aV)
  (aF (bh aG))))))))))),?_⟩
 cases bU with
 | grant e n m a s=>
  refine⟨_,rfl,r,_,_,_,rfl,rfl,bI.of hx,aD (j:=0) rfl,?_⟩;refine⟨_,rfl,small 0x8,fun t1 ht1=>⟨t1,_,rfl,.inr 0x66,rfl,rfl,_,rfl,fH (k:="grant") (ls:=A5l) (b:=true) 0x4 ?_⟩⟩
  apply 0o1 H t1 ht1 n1 hk0 H1
  have s1:=(Same.refl H).trans n1;have b1:=b0.same n1;have x1:=n1 _ _ hx;refine dJ ?_;refine⟨_,rfl,r,_,_,_,rfl,rfl,bI.of x1,aD (j:=2) rfl,_,rfl,q.B,_,rfl,b1.gl,q.l,_,rfl,fP.k (k:=.inr e) b1.l,_,rfl,?_⟩;rw[jt]
  by_cases he:e∈nms es
  rotate_left
  ·rw[A0K he];refine dJ ?_;exact k _ _ s1 ⟨fun z=>absurd z 0x4,fun⟨y,h⟩=>(he (A0h.mpr ⟨y,h.1,h.2.1⟩)).elim⟩
  rw[A0t he];refine bZ ?_;obtain⟨y,hy,rfl⟩:=cY he;refine⟨_,rfl,small 0x8,fun t2 J5=>⟨t2,_,rfl,.inr 0x66,rfl,rfl,_,rfl,fH (k:="grant") (ls:=A5I) (b:=true) 0x4 ?_⟩⟩
  apply 0o1 H1 t2 J5 n2 hk0 H2
  have s2:=s1.trans n2;have b2:=b1.same n2;have x2:=n2 _ _ x1;refine dJ ?_;refine⟨_,rfl,r,_,_,_,rfl,rfl,bI.of x2,aD (j:=3) rfl,_,rfl,q.B,_,rfl,b2.gk,q.kn,_,rfl,.inl (bF.of b2.k),rfl,iC _,_,rfl,pU (fun hk=>?_) (fun hn=>?_)⟩
  ·exact k _ _ s2 ⟨fun z=>absurd z 0x4,fun⟨_,h⟩=>(h.2.2.1 hk).elim⟩
  refine⟨_,rfl,r,_,_,_,rfl,rfl,bI.of x2,aD (j:=2) rfl,?_⟩;refine⟨_,rfl,small 0x8,fun t3 Nu=>⟨t3,_,rfl,.inr 0x66,rfl,rfl,_,rfl,fH (k:="grant") (ls:=A5I) (b:=true) 0x4 ?_⟩⟩
  apply 0o1 H2 t3 Nu n3 hk0 H3
  have s3:=s2.trans n3;have b3:=b2.same n3;have x3:=n3 _ _ x2;refine dJ ?_;refine⟨_,rfl,r,_,_,_,rfl,rfl,bI.of x3,aD (j:=4) rfl,?_⟩;refine⟨_,rfl,rfl,_,rfl,jP (b:=false) 0x4 ?_⟩;refine bZ ?_;refine⟨_,rfl,rfl,_,rfl,yp (b:=false) 0x4 ?_⟩;refine dJ ⟨_,rfl,_,rfl,q.B,_,rfl,b3.gx,q.dd,_,rfl,.inl (bF.of b3.x),rfl,rfl,_,rfl,pU (l:=[]) (fun z=>absurd z 0x8) (fun _=>?_)⟩;refine⟨_,rfl,small 0x8,fun t4 Rn=>⟨t4,_,rfl,.inr 0x66,rfl,rfl,_,rfl,fH (k:="grant") (ls:=A5I) (b:=true) 0x4 ?_⟩⟩
  apply 0o1 H3 t4 Rn n4 hk0 H4
  have s4:=s3.trans n4;have b4:=b3.same n4;have x4:=n4 _ _ x3;refine dJ ?_;refine⟨_,rfl,r,_,_,_,rfl,rfl,bI.of x4,aD (j:=5) rfl,_,rfl,q.B,_,rfl,b4.go,_,rfl,r,_,_,_,rfl,rfl,bI.of x4,aD (j:=2) rfl,q.o,_,rfl,Dj b4.o nd hy,_,_,rfl,rfl,_,rfl,?_⟩;refine gA (fun hgt=>?_) (fun hle=>?_)
  ·exact k _ _ s4 ⟨fun z=>absurd z 0x4,fun⟨y',h1,h2,_,h4⟩=>by
   have:=fO nd h1 hy h2;subst this;simp only[A2m]at hgt;lia⟩
  refine⟨_,rfl,rfl,_,rfl,jP (b:=false) 0x4 (bZ (bZ ?_))⟩;exact k _ _ s4 ⟨fun _=>⟨y,hy,rfl,hn,by have h:=hle;simp only[A2m]at h;lia⟩,fun _=>rfl⟩
 | part e n m a=>
  refine⟨_,rfl,r,_,_,_,rfl,rfl,bI.of hx,aD (j:=0) rfl,?_⟩;refine⟨_,rfl,small 0x8,fun t1 ht1=>⟨t1,_,rfl,.inr 0x66,rfl,rfl,_,rfl,fH (k:="part") (ls:=A5l) (b:=true) 0x4 ?_⟩⟩
  apply 0o1 H t1 ht1 n1 hk0 H1
  have s1:=(Same.refl H).trans n1;have b1:=b0.same n1;have x1:=n1 _ _ hx;refine dJ ?_;refine⟨_,rfl,r,_,_,_,rfl,rfl,bI.of x1,aD (j:=2) rfl,_,rfl,q.B,_,rfl,b1.gl,q.l,_,rfl,fP.k (k:=.inr e) b1.l,_,rfl,?_⟩;rw[jt]
  by_cases he:e∈nms es
  rotate_left
  ·rw[A0K he];refine dJ ?_;exact k _ _ s1 ⟨fun z=>absurd z 0x4,fun⟨y,h⟩=>(he (A0h.mpr ⟨y,h.1,h.2.1⟩)).elim⟩
  rw[A0t he];refine bZ ?_;obtain⟨y,hy,rfl⟩:=cY he;refine⟨_,rfl,small 0x8,fun t2 J5=>⟨t2,_,rfl,.inr 0x66,rfl,rfl,_,rfl,fH (k:="part") (ls:=A5I) (b:=true) 0x4 ?_⟩⟩
  apply 0o1 H1 t2 J5 n2 hk0 H2
  have s2:=s1.trans n2;have b2:=b1.same n2;have x2:=n2 _ _ x1;refine dJ ?_;refine⟨_,rfl,r,_,_,_,rfl,rfl,bI.of x2,aD (j:=3) rfl,_,rfl,q.B,_,rfl,b2.gk,q.kn,_,rfl,.inl (bF.of b2.k),rfl,iC _,_,rfl,pU (fun hk=>?_) (fun hn=>?_)⟩
  ·exact k _ _ s2 ⟨fun z=>absurd z 0x4,fun⟨_,h⟩=>(h.2.2.1 hk).elim⟩
  refine⟨_,rfl,r,_,_,_,rfl,rfl,bI.of x2,aD (j:=2) rfl,?_⟩;refine⟨_,rfl,small 0x8,fun t3 Nu=>⟨t3,_,rfl,.inr 0x66,rfl,rfl,_,rfl,fH (k:="part") (ls:=A5I) (b:=true) 0x4 ?_⟩⟩
  apply 0o1 H2 t3 Nu n3 hk0 H3
  have s3:=s2.trans n3;have b3:=b2.same n3;have x3:=n3 _ _ x2;refine dJ ?_;refine⟨_,rfl,r,_,_,_,rfl,rfl,bI.of x3,aD (j:=4) rfl,?_⟩;refine⟨_,rfl,rfl,_,rfl,jP (b:=false) 0x4 ?_⟩;refine bZ ?_;refine⟨_,rfl,rfl,_,rfl,yp (b:=false) 0x4 ?_⟩;refine dJ ⟨_,rfl,_,rfl,q.B,_,rfl,b3.gx,q.dd,_,rfl,.inl (bF.of b3.x),rfl,rfl,_,rfl,pU (l:=[]) (fun z=>absurd z 0x8) (fun _=>?_)⟩;refine⟨_,rfl,small 0x8,fun t4 Rn=>⟨t4,_,rfl,.inr 0x66,rfl,rfl,_,rfl,fH (k:="part") (ls:=A5I) (b:=true) 0x4 ?_⟩⟩
  apply 0o1 H3 t4 Rn n4 hk0 H4
  have s4:=s3.trans n4;have b4:=b3.same n4;have x4:=n4 _ _ x3;refine dJ ?_;refine⟨_,rfl,r,_,_,_,rfl,rfl,bI.of x4,aD (j:=5) rfl,_,rfl,q.B,_,rfl,b4.go,_,rfl,r,_,_,_,rfl,rfl,bI.of x4,aD (j:=2) rfl,q.o,_,rfl,Dj b4.o nd hy,_,_,rfl,rfl,_,rfl,?_⟩;refine gA (fun hgt=>?_) (fun hle=>?_)
  ·exact k _ _ s4 ⟨fun z=>absurd z 0x4,fun⟨y',h1,h2,_,h4⟩=>by
   have:=fO nd h1 hy h2;subst this;simp only[A2m]at hgt;lia⟩
  refine⟨_,rfl,rfl,_,rfl,jP (b:=false) 0x4 (bZ (bZ ?_))⟩;exact k _ _ s4 ⟨fun _=>⟨y,hy,rfl,hn,by have h:=hle;simp only[A2m]at h;lia⟩,fun _=>rfl⟩
 | convey e m=>
  refine⟨_,rfl,r,_,_,_,rfl,rfl,bI.of hx,aD (j:=0) rfl,?_⟩;refine⟨_,rfl,small 0x8,fun t1 ht1=>⟨t1,_,rfl,.inr 0x66,rfl,rfl,_,rfl,fH (k:="convey") (ls:=A5l) (b:=true) 0x4 ?_⟩⟩
  apply 0o1 H t1 ht1 n1 hk0 H1
  have s1:=(Same.refl H).trans n1;have b1:=b0.same n1;have x1:=n1 _ _ hx;refine dJ ?_;refine⟨_,rfl,r,_,_,_,rfl,rfl,bI.of x1,aD (j:=2) rfl,_,rfl,q.B,_,rfl,b1.gl,q.l,_,rfl,fP.k (k:=.inr e) b1.l,_,rfl,?_⟩;rw[jt]
  by_cases he:e∈nms es
  rotate_left
  ·rw[A0K he];refine dJ ?_;exact k _ _ s1 ⟨fun z=>absurd z 0x4,fun⟨y,h⟩=>(he (A0h.mpr ⟨y,h.1,h.2⟩)).elim⟩
  rw[A0t he];refine bZ ?_;obtain⟨y,hy,rfl⟩:=cY he;refine⟨_,rfl,small 0x8,fun t2 J5=>⟨t2,_,rfl,.inr 0x66,rfl,rfl,_,rfl,fH (k:="convey") (ls:=A5I) (b:=false) 0x4 ?_⟩⟩
  apply 0o1 H1 t2 J5 n2 hk0 H2
  have s2:=s1.trans n2;have b2:=b1.same n2;have x2:=n2 _ _ x1;refine bZ ?_;refine⟨_,rfl,r,_,_,_,rfl,rfl,bI.of x2,aD (j:=2) rfl,?_⟩;refine⟨_,rfl,small 0x8,fun t3 Nu=>⟨t3,_,rfl,.inr 0x66,rfl,rfl,_,rfl,fH (k:="convey") (ls:=A5I) (b:=false) 0x4 ?_⟩⟩
  apply 0o1 H2 t3 Nu n3 hk0 H3
  have s3:=s2.trans n3;have b3:=b2.same n3;have x3:=n3 _ _ x2;refine bZ ?_;refine⟨_,rfl,rfl,_,rfl,jP (b:=true) 0x4 ?_⟩;refine dJ ⟨_,rfl,r,_,_,_,rfl,rfl,bI.of x3,aD (j:=3) rfl,?_⟩;refine⟨_,rfl,rfl,_,rfl,yp (b:=false) 0x4 ?_⟩;refine dJ ⟨_,rfl,_,rfl,q.B,_,rfl,b3.gx,q.dd,_,rfl,.inl (bF.of b3.x),rfl,rfl,_,rfl,pU (l:=[]) (fun z=>absurd z 0x8) (fun _=>?_)⟩;refine⟨_,rfl,small 0x8,fun t4 Rn=>⟨t4,_,rfl,.inr 0x66,rfl,rfl,_,rfl,fH (k:="convey") (ls:=A5I) (b:=false) 0x4 ?_⟩⟩
  apply 0o1 H3 t4 Rn n4 hk0 H4
  have s4:=s3.trans n4;have b4:=b3.same n4;have x4:=n4 _ _ x3;refine bZ ?_;refine⟨_,rfl,rfl,_,rfl,jP (b:=false) 0x4 (bZ (bZ ?_))⟩;exact k _ _ s4 ⟨fun _=>⟨y,hy,rfl⟩,fun _=>rfl⟩
 | jY e=>
  refine⟨_,rfl,r,_,_,_,rfl,rfl,bI.of hx,aD (j:=0) rfl,?_⟩;refine⟨_,rfl,small 0x8,fun t1 ht1=>⟨t1,_,rfl,.inr 0x66,rfl,rfl,_,rfl,fH (k:="surrender") (ls:=A5l) (b:=true) 0x4 ?_⟩⟩
  apply 0o1 H t1 ht1 n1 hk0 H1
  have s1:=(Same.refl H).trans n1;have b1:=b0.same n1;have x1:=n1 _ _ hx;refine dJ ?_;refine⟨_,rfl,r,_,_,_,rfl,rfl,bI.of x1,aD (j:=2) rfl,_,rfl,q.B,_,rfl,b1.gl,q.l,_,rfl,fP.k (k:=.inr e) b1.l,_,rfl,?_⟩;rw[jt]
  by_cases he:e∈nms es
  rotate_left
  ·rw[A0K he];refine dJ ?_;exact k _ _ s1 ⟨fun z=>absurd z 0x4,fun⟨y,h⟩=>(he (A0h.mpr ⟨y,h.1,h.2⟩)).elim⟩
  rw[A0t he];refine bZ ?_;obtain⟨y,hy,rfl⟩:=cY he;refine⟨_,rfl,small 0x8,fun t2 J5=>⟨t2,_,rfl,.inr 0x66,rfl,rfl,_,rfl,fH (k:="surrender") (ls:=A5I) (b:=false) 0x4 ?_⟩⟩
  apply 0o1 H1 t2 J5 n2 hk0 H2
  have s2:=s1.trans n2;have b2:=b1.same n2;have x2:=n2 _ _ x1;refine bZ ?_;refine⟨_,rfl,r,_,_,_,rfl,rfl,bI.of x2,aD (j:=2) rfl,?_⟩;refine⟨_,rfl,small 0x8,fun t3 Nu=>⟨t3,_,rfl,.inr 0x66,rfl,rfl,_,rfl,fH (k:="surrender") (ls:=A5I) (b:=false) 0x4 ?_⟩⟩
  apply 0o1 H2 t3 Nu n3 hk0 H3
  have s3:=s2.trans n3;have b3:=b2.same n3;have x3:=n3 _ _ x2;refine bZ ?_;refine⟨_,rfl,rfl,_,rfl,jP (b:=false) 0x4 ?_⟩;refine bZ ?_;refine⟨_,rfl,rfl,_,rfl,yp (b:=true) 0x4 ?_⟩;refine bZ ?_;refine⟨_,rfl,small 0x8,fun t4 Rn=>⟨t4,_,rfl,.inr 0x66,rfl,rfl,_,rfl,fH (k:="surrender") (ls:=A5I) (b:=false) 0x4 ?_⟩⟩
  apply 0o1 H3 t4 Rn n4 hk0 H4
  have s4:=s3.trans n4;have b4:=b3.same n4;have x4:=n4 _ _ x3;refine bZ ?_;refine⟨_,rfl,rfl,_,rfl,jP (b:=false) 0x4 (bZ (bZ ?_))⟩;exact k _ _ s4 ⟨fun _=>⟨y,hy,rfl⟩,fun _=>rfl⟩
def a0k:aX A5g A5g (aH Wn):=0x0
def Rw.kind:Rw->Str
 | .grant _ _ _ _ _=>"grant"
 | .part _ _ _ _=>"part"
 | .convey _ _=>"convey"
 | .jY _=>"surrender"
def Rw.vs0(bU:Rw):bU.vs[0]?=some (.str bU.kind):=by cases bU<;>rfl
def Rw.Gj(bU:Rw):decide (bU.kind∈(A5l:List Str))=true:=by
 cases bU
 ·exact(show decide (("grant":Str)∈(A5l:List Str))=true by decide+kernel)
 ·exact(show decide (("part":Str)∈(A5l:List Str))=true by decide+kernel)
 ·exact(show decide (("convey":Str)∈(A5l:List Str))=true by decide+kernel)
 ·exact(show decide (("surrender":Str)∈(A5l:List Str))=true by decide+kernel)
def Wq(F:gF K "_law_let_by" "_law_let_by" Wn f fd)(G1:aP P w K mg base bV 1 g1 d1 A5g Nr)(M1:Ms K mg "_law_why" g1 d1 A5g):aP P w K mg base bV 2 f fd A5g Nt:=by
 refine F.ok a0k 0x3 0x5;obtain⟨q,es,ks,r,bU,rfl,ap,b0,nd,hx,k⟩:=h;refine⟨_,(aF (bh (lO (fW fQ 0x19 (cB (aj aG (aj aG (aj aG 0x94)))) 0x13) (sE (fW cU (aZ G1 hr rfl M1.m M1.k M1.b .nil aU (aj 0x11 0x4D)) aG 0x7C))))),?_⟩;refine⟨_,rfl,r,_,_,_,rfl,rfl,bI.of hx,aD (j:=0) bU.vs0,small 0x8,fun t ht=>⟨t,_,rfl,.inr 0x66,rfl,rfl,?_⟩⟩;have s1:=aJ ht (.tup [.str "grant",.str "part",.str "convey",.str "surrender"]);refine⟨_,rfl,fH (k:=bU.kind) (ls:=A5l) (b:=true) bU.Gj (dJ ?_)⟩;refine⟨_,rfl,_,rfl,q,es,ks,r,bU,rfl,ap,b0.same s1,nd,s1 _ _ hx,fun z H' s' hz=>⟨rfl,?_⟩⟩;refine k _ _ (s1.trans s') ?_;rw[dU,A2P];exact hz
abbrev sDo:Stmt:=top 31
abbrev Wr:Stmt:=top 38
def nM(q:Ad)(H H':Hp):Prop:=∀c u,c≠q.a1->c≠q.a2->c≠q.a3->c≠q.a4->c≠q.a5->H c=some u->H' c=some u
def FrN(y:aL)(t1 t2:Addr)(H:Hp):Rw->Prop
 | .grant _ _ _ _ s=>qT H t1 s 1
 | .part _ _ _ a=>qT H t1 (oH (y.due.1*a) (y.due.2*y.br)).1 (oH (y.due.1*a) (y.due.2*y.br)).2/\qT H t2 (oH (y.due.1*(y.br-a)) (y.due.2*y.br)).1 (oH (y.due.1*(y.br-a)) (y.due.2*y.br)).2
 | .convey _ _=>True
 | .jY _=>True
def Ap.five{q:Ad}(ap:Ap q):xO q.a1 q.a2 q.a3 q.a4 q.a5:=
 ⟨bN ap 0 1 rfl rfl 0x6,bN ap 0 2 rfl rfl 0x6,bN ap 0 3 rfl rfl 0x6,bN ap 0 4 rfl rfl 0x6,bN ap 1 2 rfl rfl 0x6,bN ap 1 3 rfl rfl 0x6,bN ap 1 4 rfl rfl 0x6,bN ap 2 3 rfl rfl 0x6,bN ap 2 4 rfl rfl 0x6,bN ap 3 4 rfl rfl 0x6⟩
inductive Nv(C:Addr)(vs:List V)(H:Hp)(Q:VK)(cP:XK):Prop
 |mk(q:Ad)(es:List aL)(ks ls:List Str)(j:Nat)(r:Addr)(bU:Rw)(y:aL)(_:vs=[.ref q.x,.ref r])(_:Rel C q H es ks ls j)(_:H r=some (.tup (Rw.vs bU)))(_:fV es ks y bU)(_:Rw.Ok ls bU)(_:(∀n∈ls,n≠""/\PyData.strOk n=true))(_:j<=60)(_:∀t1 t2 H',(∀b1 b2,Ln C q H' 0x33)->FrN y t1 t2 H' bU->nM q H H'->Q .non H'):Nv C vs H Q cP
inductive Ws(vs:List V)(H:Hp)(Q:VK)(cP:XK):Prop
 |mk(q:Ad)(es:List aL)(ks:List Str)(r:Addr)(bU:Rw)(y:aL)(_:vs=[.ref q.B,.ref r])(_:Ap q)(_:Bk q H es ks)(_:WF es)(_:qT H y.tb y.due.1 y.due.2)(_:Bd 400 y.due)(_:H r=some (.tup (Rw.vs bU)))(_:fV es ks y bU)(_:(∀e n m a s,bU=.grant e n m a s->n∉nms es))(_:(∀e n m a,bU=.part e n m a->n∉nms es/\1<=a/\a<=9999/\e≠""))(_:(∀e,bU=.jY e->e≠""))(_:es.length<=18)(_:ks.length<=60)(_:∀b1 b2 H',(∀t1 t2,Bk q H' 0x33 (stK ks bU))->FrN y b1 b2 H' bU->dI q H H'->Q .non H'):Ws vs H Q cP
def Al{q:Ad}{es:List aL}{y:aL}{n m:Str}{a s:Int}{Q:VK}{E:XK}(L:Ln C q H es)(a5:xO q.a1 q.a2 q.a3 q.a4 q.a5)(W:WF es)(hy:y∈es)(hnn:n∉nms es)(kl:∀{f:aL->V},(0x56).length<=800)
  (k:∀t H',(∀c1 c2,Ln C q H' (stp y es t 0 c1 c2 0x38))->qT H' t s 1->nM q H H'->Q .non H'):jF C [.ref q.x,.str y.n,.str n,.str m,.int a,.int s] H Q E:=by
 refine⟨q.x,q.dx,q.a1,q.a2,q.a3,q.a4,q.a5,_,_,_,_,_,y.n,n,m,a,s,y.own,rfl,L,a5,cu W.nd hy,A0L kl 0x6,A0L kl 0x6,kl,A0L kl 0x6,A0L kl 0x6,fun t ht=>?_⟩;have nt:∀{b:Addr}{u:HO},H b=some u->t≠b:=fun hb z=>by rw[z,hb]at ht;cases ht
 refine k t _ (fun c1 c2=>?_) ?_ ?_
 ·have e1:gZ (stp y es t 0 c1 c2 0x38)=putK 0x96 0x21 (.str y.n):=by
   show kv _ (mod y.n (jZ a) es++[nT y.n n m a s t c1])=_
   rw[cJ (g:=jZ a) (x:=nT y.n n m a s t c1) 0xC hnn,dN (g:=jZ a) 0xC 0xC];rfl
  have e2:hoL (stp y es t 0 c1 c2 0x38)=putK (hoL es) 0x21 (.str m):=by
   show kv _ (mod y.n (jZ a) es++[nT y.n n m a s t c1])=_
   rw[cJ (g:=jZ a) (x:=nT y.n n m a s t c1) 0xC hnn,dN (g:=jZ a) 0xC 0xC];rfl
  have e3:lF (stp y es t 0 c1 c2 0x38)=putK (putK (lF es) 0x5F (.int (y.own-a))) 0x21 (.int a):=by
   show kv _ (mod y.n (jZ a) es++[nT y.n n m a s t c1])=_
   rw[cJ (g:=jZ a) (x:=nT y.n n m a s t c1) 0xC hnn,ji (g:=jZ a) 0xC W.nd hy];rfl
  have e4:Rb (stp y es t 0 c1 c2 0x38)=putK (Rb es) 0x21 0x72:=by
   show kv _ (mod y.n (jZ a) es++[nT y.n n m a s t c1])=_
   rw[cJ (g:=jZ a) (x:=nT y.n n m a s t c1) 0xC hnn,dN (g:=jZ a) 0xC 0xC];rfl
  have e5:TQ (stp y es t 0 c1 c2 0x38)=putK (TQ es) 0x21 (.int a):=by
   show kv _ (mod y.n (jZ a) es++[nT y.n n m a s t c1])=_
   rw[cJ (g:=jZ a) (x:=nT y.n n m a s t c1) 0xC hnn,dN (g:=jZ a) 0xC 0xC];rfl
  show bT C _ q.x q.dx q.a1 q.a2 q.a3 q.a4 q.a5 _ _ _ _ _
  rw[e1,e2,e3,e4,e5];have x1:=bB L.o L.l1 0x10;have x2:=bB L.o L.l2 0x10;have x3:=bB L.o L.l3 0x10;have x4:=bB L.o L.l4 0x10;have x5:=bB L.o L.l5 0x10;unfold qz;refine⟨?_,?_,?_,?_,?_,ao⟩
  ·rw[ak x5,ak x4,ak x3,ak x2,ak x1,ak (A0k (nt L.o)),ak x3];exact L.o
  ·rw[ak a5.n15,ak a5.n14,ak a5.n13,ak a5.n12,ao]
  ·rw[ak a5.n25,ak a5.n24,ak a5.n23,ao]
  ·rw[ak a5.n35,ak a5.n34,ao]
  ·rw[ak a5.n45,ao]
 ·show qz _ _ _ _ _ _ _ _ _ _ _ _ _ _ _ _ t=some (.tup [.int s,.int 1])
  unfold qz;rw[ak (nt L.l5),ak (nt L.l4),ak (nt L.l3),ak (nt L.l2),ak (nt L.l1),ao]
 ·intro c u c1 c2 c3 c4 c5 hc;unfold qz;rw[ak c5,ak c4,ak c3,ak c2,ak c1,ak (A0k (nt hc)),ak c3];exact hc
def dO{k l:Str}{A:Prop}(h:decide (k=l)=false)(g:B):if decide (V.str k=V.str l)=true then A else B:=jP h (bZ g)
def qX{k l:Str}{A:Prop}(h:decide (k=l)=true)(g:A):if decide (V.str k=V.str l)=true then A else B:=jP h (dJ g)
def a0l:aX ["_law_land","_law_row_here"] ["_law_land","_law_row_here"] (aH Wr):=0x0
def Wt(T:eO K C)(F:gF K "_law_land_do" "_law_land_do" Wr f fd) 
  (G1:aP P w K mg base bV 2 g1 d1 A5j (jF C))(m1:Meth K C "grant" g1)(b1:Binds K d1 A5j [])
  (G2:aP P w K mg base bV 4 g2 d2 A5H (qC C))(m2:Meth K C "part_off" g2)(b2:Binds K d2 A5H [])
  (G3:aP P w K mg base bV 1 g3 d3 ["self","estate","man"] (tM C))(m3:Meth K C "convey" g3)(b3:Binds K d3 ["self","estate","man"] [])
  (G4:aP P w K mg base bV 4 g4 d4 A5c (Ck C))(m4:Meth K C "fall_back" g4)(b4:Binds K d4 A5c []):
  aP P w K mg base bV 5 f fd ["_law_land","_law_row_here"] (Nv C):=by
 refine F.ok a0l 0x3 0x5;obtain⟨q,es,ks,ls,j,r,bU,y,rfl,R,hx,hst,hok,hls,hj,k⟩:=h;have G1:=aP.mono (k:=4) G1 0x1;have G3:=aP.mono (k:=4) G3 0x1;refine⟨_,(aq (bM 0x51 (aF (bh (bG 0x11 T.cl m1 G1 hr b1 .nil aU (aj 0x19 (aj 0x19 (aj 0x19 (aj 0x19 (aj 0x19 aC)))))))) aV)
  (aq (bM 0x51 (aF (bh (bG 0x11 T.cl m2 G2 hr b2 .nil aU (aj 0x19 (aj 0x19 (aj 0x19 (aj 0x19 aC))))))) aV)
  (aq (bM 0x51 (aF (bh (bG 0x11 T.cl m3 G3 hr b3 .nil aU (aj 0x19 (aj 0x19 aC))))) aV)
  (aq (bM 0x51 (aF (bh (bG 0x11 T.cl m4 G4 hr b4 .nil aU (aj 0x19 aC)))) aV)
  (aF (bh rZ)))))),?_⟩
 have W:=R.W;have L:=R.L;have ln:=R.ln;have a5:=R.ap.five;have kl:∀{f:aL->V},(0x56).length<=800:=by intro f;rw[gq];lia
 cases bU with
 | grant e n m a s=>
  obtain⟨hy,rfl,hn,ha⟩:=hst;obtain⟨h1,h2,h3,h4,h5⟩:=hok;have hnn:=R.new hn (hls n h1).1;refine 0x30;refine⟨_,rfl,q.x,q.dx,_,rfl,L.o,rfl,_,rfl,r,_,_,_,rfl,rfl,bI.of hx,aD (j:=2) rfl,_,rfl,r,_,_,_,rfl,rfl,bI.of hx,aD (j:=3) rfl,_,rfl,r,_,_,_,rfl,rfl,bI.of hx,aD (j:=4) rfl,_,rfl,r,_,_,_,rfl,rfl,bI.of hx,aD (j:=5) rfl,_,rfl,r,_,_,_,rfl,rfl,bI.of hx,aD (j:=6) rfl,?_⟩;dsimp only[fX];exact Al L a5 W hy hnn kl fun t H' hL f1 o1=>k t 0 H' hL f1 o1
 | part e n m a=>
  obtain⟨hy,rfl,hn,ha⟩:=hst;obtain⟨h1,h2,h3,h4⟩:=hok;have hnn:=R.new hn (hls n h1).1;obtain⟨p,hp,_,_⟩:=W.lord y hy h4;have hfr:=R.fr y hy;have hbb:=W.bnd y hy;have hob:=W.uf y hy;refine 0x1B;refine 0x30;refine⟨_,rfl,q.x,q.dx,_,rfl,L.o,rfl,_,rfl,r,_,_,_,rfl,rfl,bI.of hx,aD (j:=2) rfl,_,rfl,r,_,_,_,rfl,rfl,bI.of hx,aD (j:=3) rfl,_,rfl,r,_,_,_,rfl,rfl,bI.of hx,aD (j:=4) rfl,_,rfl,r,_,_,_,rfl,rfl,bI.of hx,aD (j:=5) rfl,?_⟩;refine⟨q.x,q.dx,q.a1,q.a2,q.a3,q.a4,q.a5,_,_,_,_,_,y.n,n,m,p,y.ta,a,y.own,y.br,y.due,rfl,L,a5,(by rw[cu W.nd hy,hp];rfl),cu W.nd hy,cu W.nd hy,cu W.nd hy,hfr.1,hfr.2.2.mono 0x1,by lia,by lia,by lia,kl,kl,kl,kl,kl,fun g r' H' hg hr0 hgr L' f1 f2 out=>?_⟩;rw[Iv hfr.2.2.2.1 0x1]at f2;refine k g r' H' (fun c1 c2=>?_) ⟨f1,f2⟩ out;have e1:gZ (stp y es g r' c1 c2 0x93)=putK 0x96 0x21 (.str p):=by
   show kv _ (mod y.n (lM a r' c2) es++[qW y n m a g c1])=_
   rw[cJ (g:=lM a r' c2) (x:=qW y n m a g c1) 0xC hnn,dN (g:=lM a r' c2) 0xC 0xC]
   show putK _ _ (gU y.lord)=_
   rw[hp];rfl
  have e2:hoL (stp y es g r' c1 c2 0x93)=putK (hoL es) 0x21 (.str m):=by
   show kv _ (mod y.n (lM a r' c2) es++[qW y n m a g c1])=_
   rw[cJ (g:=lM a r' c2) (x:=qW y n m a g c1) 0xC hnn,dN (g:=lM a r' c2) 0xC 0xC];rfl
  have e3:lF (stp y es g r' c1 c2 0x93)=putK (putK (lF es) 0x5F (.int (y.own-a))) 0x21 (.int a):=by
   show kv _ (mod y.n (lM a r' c2) es++[qW y n m a g c1])=_
   rw[cJ (g:=lM a r' c2) (x:=qW y n m a g c1) 0xC hnn,ji (g:=lM a r' c2) 0xC W.nd hy];rfl
  have e4:Rb (stp y es g r' c1 c2 0x93)=putK (putK (Rb es) 0x5F (.ref r')) 0x21 (.ref g):=by
   show kv _ (mod y.n (lM a r' c2) es++[qW y n m a g c1])=_
   rw[cJ (g:=lM a r' c2) (x:=qW y n m a g c1) 0xC hnn,ji (g:=lM a r' c2) 0xC W.nd hy];rfl
  have e5:TQ (stp y es g r' c1 c2 0x93)=putK (putK (TQ es) 0x5F (.int (y.br-a))) 0x21 (.int a):=by
   show kv _ (mod y.n (lM a r' c2) es++[qW y n m a g c1])=_
   rw[cJ (g:=lM a r' c2) (x:=qW y n m a g c1) 0xC hnn,ji (g:=lM a r' c2) 0xC W.nd hy];rfl
  show bT C H' q.x q.dx q.a1 q.a2 q.a3 q.a4 q.a5 _ _ _ _ _
  rw[e1,e2,e3,e4,e5];exact L'
 | convey e m=>
  obtain⟨hy,rfl⟩:=hst;refine 0x1B;refine 0x1B;refine 0x30;refine⟨_,rfl,q.x,q.dx,_,rfl,L.o,rfl,_,rfl,r,_,_,_,rfl,rfl,bI.of hx,aD (j:=2) rfl,_,rfl,r,_,_,_,rfl,rfl,bI.of hx,aD (j:=3) rfl,?_⟩;refine⟨q.x,q.dx,q.a1,q.a2,q.a3,q.a4,q.a5,_,_,_,_,_,y.n,m,rfl,L,A0L kl 0x6,?_⟩;refine k 0 0 _ (fun c1 c2=>?_) True.intro fun c u _ c2 _ _ _ hc=>by rw[ak c2];exact hc
  have e2:hoL 0x25=putK (hoL es) 0x5F (.str m):=ji (g:=nj m) 0xC W.nd hy
  show bT C _ q.x q.dx q.a1 q.a2 q.a3 q.a4 q.a5 (gZ 0x25) (hoL 0x25) (lF 0x25) (Rb 0x25) (TQ 0x25)
  rw[e2];have e1:gZ 0x25=gZ es:=dN (g:=nj m) 0xC 0xC es;have e3:lF 0x25=lF es:=dN (g:=nj m) 0xC 0xC es;have e4:Rb 0x25=Rb es:=dN (g:=nj m) 0xC 0xC es;have e5:TQ 0x25=TQ es:=dN (g:=nj m) 0xC 0xC es;rw[e1,e3,e4,e5];exact⟨by rw[ak (bB L.o L.l2 0x10)];exact L.o,by rw[ak a5.n12];exact L.l1,ao,by rw[ak (A0k a5.n23)];exact L.l3,by rw[ak (A0k a5.n24)];exact L.l4,by rw[ak (A0k a5.n25)];exact L.l5⟩
 | jY e=>
  obtain⟨hy,rfl⟩:=hst;obtain⟨p,hp,hpm,hpn⟩:=W.lord y hy hok;obtain⟨z,hz,TY⟩:=cY hpm;have ep:y.lord.getD ""=p:=by rw[hp];rfl
  refine 0x1B;refine 0x1B;refine 0x1B;refine 0x30;refine⟨_,rfl,q.x,q.dx,_,rfl,L.o,rfl,_,rfl,r,_,_,_,rfl,rfl,bI.of hx,aD (j:=2) rfl,?_⟩;have vp:=cu (f:=fun e=>V.int e.own) W.nd hz;rw[TY]at vp;refine⟨q.x,q.dx,q.a1,q.a2,q.a3,q.a4,q.a5,_,_,_,_,_,y.n,p,y.own,z.own,rfl,L,a5,(by rw[cu W.nd hy,hp];rfl),cu W.nd hy,vp,(by rw[cu W.nd hy];rfl),(by rw[cu W.nd hy];rfl),(by rw[cu W.nd hy];rfl),pR,Mu,(by rw[gq];lia),kl,fun ss H' hss _ L' out=>?_⟩;rw[IK (a:=y.own) W.nd hss,Nb W.nd hz TY,ou (p:=p) (a:=y.own) (f:=fun e=>V.str e.man) 0xC,ou (p:=p) (a:=y.own) (f:=fun e=>V.ref e.ta) 0xC,ou (p:=p) (a:=y.own) (f:=fun e=>V.int e.br) 0xC]at L';refine k 0 0 H' (fun c1 c2=>?_) True.intro out
  show Ln C q H' 0x7A
  rw[ep];exact L'
def Wu:aX ["_law_book_here","_law_row_here","_law_whole","_law_wide","_law_taker_here","_law_estate"] A5g (aH sDo):=0x0
def a0m(F:gF K "_law_do" "_law_do" sDo f fd) 
  (G1:aP P w K mg base bV 1 g1 d1 A5o Np)(M1:Ms K mg "_law_new" g1 d1 A5o)
  (G2:aP P w K mg base bV 2 g2 d2 A5d Rj)(M2:Ms K mg "_law_breadth" g2 d2 A5d)
  (G3:aP P w K mg base bV 1 g3 d3 ["_law_top","_law_bottom"] vO)(M3:Ms K mg "_law_low" g3 d3 ["_law_top","_law_bottom"])
  (G4:aP P w K mg base bV 2 g4 d4 A5d Wg)(M4:Ms K mg "_law_fall" g4 d4 A5d):
  aP P w K mg base bV 3 f fd A5g Ws:=by
 refine F.ok Wu 0x3 0x5;obtain⟨q,es,ks,r,bU,y,rfl,ap,bk,W,hfr,hbd,hx,hst,hgr,hpa,hsu,hl,hk,k⟩:=h;have G1:=aP.mono (k:=2) G1 0x1;have G3:=aP.mono (k:=2) G3 0x1;refine⟨_,(aq (bM 0x51 (aF (bJ (aZ G1 hr rfl M1.m M1.k M1.b .nil aU (aj 0x11 (aj 0xE (aj 0x19 (aj (cB (aj 0x19 0x5A)) aC))))))) aV)
  (aq (bM 0x51 (aq (aW (i:=2) Wu.nd rfl 0x9 (aN 0x17 0x1A 0x19 0x2))
  (aq (aW (i:=3) Wu.nd rfl 0x9 (aZ G2 hr rfl M2.m M2.k M2.b .nil aU (aj 0x11 (aj 0x19 aC))))
  (aq (bJ (aZ G1 hr rfl M1.m M1.k M1.b .nil aU (aj 0x11 (aj 0xE (aj (aN 0x17 0x1A 0x19 0x2) (aj (aZ G3 hr rfl M3.m M3.k M3.b .nil aU (aj (aO jg 0x67 0x19) (aj (aO jg 0x67 0x70) aC))) aC))))))
  (aF (eY 0x17 0x1A 0x19 (aZ G3 hr rfl M3.m M3.k M3.b .nil aU (aj (aO jg 0x67 (aO nU 0x70 0x19)) (aj (aO jg 0x67 0x70) aC))) rfl))))) aV)
  (aq (bM 0x51 (aF (eY 0x17 0x1A 0x19 0x19 rfl)) aV)
  (aq (bM 0x51 (aF (bJ (aZ G4 hr rfl M4.m M4.k M4.b .nil aU (aj 0x11 (aj 0x19 aC))))) aV)
  (aq (bM 0x51 bR aV)
  (aq (bM 0x51 bR aV)
  (aF (bM 0x51 bR aV)))))))),?_⟩
 have kl:∀{f:aL->V},(0x56).length<=800:=by intro f;rw[gq];lia
 cases bU with
 | grant e n m a s=>
  obtain⟨hy,rfl,hn,ha⟩:=hst;have hnn:=hgr _ _ _ _ _ rfl;refine 0x30;refine⟨_,rfl,_,rfl,_,rfl,r,_,_,_,rfl,rfl,bI.of hx,aD (j:=2) rfl,_,rfl,r,_,_,_,rfl,rfl,bI.of hx,aD (j:=6) rfl,small 0x8,fun t ht=>?_⟩
  apply 0o1 H t ht s1 ht1 H1
  have b1:=bk.same s1;have x1:=s1 _ _ hx;refine⟨q,_,_,_,_,ks,r,_,y.n,n,m,y.n,t,a,y.own,rfl,ap,b1,x1,rfl,rfl,rfl,rfl,?_,kl,kl,kl,kl,by lia,fun H' b' o'=>?_⟩
  ·rw[bD,A0f (fun z=>hnn (by rw[<-key_eq.mp z];exact A0h.mpr ⟨y,hy,rfl⟩))];exact cu W.nd hy
  have x2:=cZ b1 o' x1;have J5:=cZ b1 o' ht1;refine⟨_,rfl,r,_,_,_,rfl,rfl,bI.of x2,aD (j:=0) rfl,rfl,_,rfl,dO 0x4 ?_⟩;refine⟨_,rfl,r,_,_,_,rfl,rfl,bI.of x2,aD (j:=0) rfl,rfl,_,rfl,dO 0x4 ?_⟩;refine⟨_,rfl,r,_,_,_,rfl,rfl,bI.of x2,aD (j:=0) rfl,rfl,_,rfl,dO 0x4 ?_⟩;refine⟨_,rfl,r,_,_,_,rfl,rfl,bI.of x2,aD (j:=0) rfl,rfl,_,rfl,dO 0x4 ?_⟩;refine⟨_,rfl,r,_,_,_,rfl,rfl,bI.of x2,aD (j:=0) rfl,rfl,_,rfl,dO 0x4 ?_⟩;refine⟨_,rfl,r,_,_,_,rfl,rfl,bI.of x2,aD (j:=0) rfl,rfl,_,rfl,dO 0x4 ?_⟩;refine k t 0 H' (fun c1 c2=>?_) J5 ((dI.same s1).trans o');have U4:y.n∈nms es:=A0h.mpr ⟨y,hy,rfl⟩;rw[um U4 hnn]at b';have e1:gZ (stp y es c1 c2 t 0 0x38)=putK 0x96 0x21 (.str y.n):=by
   show kv _ (mod y.n (jZ a) es++[nT y.n n m a s c1 t])=_
   rw[cJ (g:=jZ a) (x:=nT y.n n m a s c1 t) 0xC hnn,dN (g:=jZ a) 0xC 0xC];rfl
  have e2:hoL (stp y es c1 c2 t 0 0x38)=putK (hoL es) 0x21 (.str m):=by
   show kv _ (mod y.n (jZ a) es++[nT y.n n m a s c1 t])=_
   rw[cJ (g:=jZ a) (x:=nT y.n n m a s c1 t) 0xC hnn,dN (g:=jZ a) 0xC 0xC];rfl
  have e3:lF (stp y es c1 c2 t 0 0x38)=putK (putK (lF es) 0x5F (.int (y.own-a))) 0x21 (.int a):=by
   show kv _ (mod y.n (jZ a) es++[nT y.n n m a s c1 t])=_
   rw[cJ (g:=jZ a) (x:=nT y.n n m a s c1 t) 0xC hnn,ji (g:=jZ a) 0xC W.nd hy];rfl
  have e4:qU (stp y es c1 c2 t 0 0x38)=putK (qU es) 0x21 0x72:=by
   show kv _ (mod y.n (jZ a) es++[nT y.n n m a s c1 t])=_
   rw[cJ (g:=jZ a) (x:=nT y.n n m a s c1 t) 0xC hnn,dN (g:=jZ a) 0xC 0xC];rfl
  show BQ q H' _ _ _ _ (ks++[n])
  rw[e1,e2,e3,e4];exact b'
 | part e n m a=>
  obtain⟨hy,rfl,hn,ha⟩:=hst;obtain⟨hnn,h2,h3,h4⟩:=hpa _ _ _ _ rfl;obtain⟨p,hp,_,_⟩:=W.lord y hy h4;have hbb:=W.bnd y hy;have hob:=W.uf y hy;have U4:y.n∈nms es:=A0h.mpr ⟨y,hy,rfl⟩;have q1:=iY hbd.1 0x6;have q2:=iY hbd.2.2 0x6;have q3:a.natAbs<lZ:=iY (e:=5) 0x1 0x6;have q4:y.br.natAbs<lZ:=iY (e:=5) 0x1 0x6;have q5:(y.br-a).natAbs<lZ:=iY (e:=5) 0x1 0x6;have q6:(y.due.2*y.br).natAbs<lZ:=iY (mD (f:=5) hbd.2.2 0x1) 0x6;have q7:y.due.2*y.br≠0:=A4P (A2K hbd.2.1 0x1);have gl:∀{Hx:Hp},Bk q Hx es ks->fP Hx q.l (V.str y.n) (some (.str p)):=fun b=>by
   have:=Dj b.l W.nd hy;rw[hp]at this;exact this
  refine 0x1B;refine 0x30;refine⟨_,rfl,q.B,_,rfl,bk.gd,_,rfl,r,_,_,_,rfl,rfl,bI.of hx,aD (j:=2) rfl,q.d,_,rfl,Dj bk.d W.nd hy,?_⟩;refine⟨_,rfl,_,rfl,r,_,_,_,rfl,rfl,bI.of hx,aD (j:=2) rfl,q,es,ks,y,rfl,ap,bk,W,hy,hl,fun H1 s1=>?_⟩;have b1:=bk.same s1;have x1:=s1 _ _ hx;have f1:H1 y.tb=some (.tup [.int y.due.1,.int y.due.2]):=s1 _ _ hfr;refine⟨_,rfl,_,rfl,_,rfl,q.B,_,rfl,b1.gl,_,rfl,r,_,_,_,rfl,rfl,bI.of x1,aD (j:=2) rfl,q.l,_,rfl,gl b1,?_⟩;refine⟨_,rfl,y.tb,_,_,_,rfl,rfl,bI.of f1,aD (j:=0) rfl,_,rfl,r,_,_,_,rfl,rfl,bI.of x1,aD (j:=5) rfl,_,_,rfl,rfl,⟨q1,q3⟩,_,rfl,y.tb,_,_,_,rfl,rfl,bI.of f1,aD (j:=1) rfl,_,rfl,_,_,rfl,rfl,⟨q2,q4⟩,_,_,rfl,q7,q6,fun t ht=>?_⟩
  apply 0o1 H1 t ht s2 J5 H2
  have b2:=b1.same s2;have x2:=s2 _ _ x1;have f2:=s2 _ _ f1;have o2:=dI.same (q:=q) (s1.trans s2);refine⟨q,_,_,_,_,ks,r,_,y.n,n,m,p,t,a,y.own,rfl,ap,b2,x2,rfl,rfl,rfl,rfl,?_,kl,kl,kl,kl,by lia,fun H3 b3 o3=>?_⟩
  ·rw[bD,A0f (fun z=>hnn (by rw[<-key_eq.mp z];exact U4))];exact cu W.nd hy
  have x3:=cZ b2 o3 x2;have f3:=cZ b2 o3 f2;have Nu:=cZ b2 o3 J5;have o4:=o2.trans o3;refine⟨_,rfl,y.tb,_,_,_,rfl,rfl,bI.of f3,aD (j:=0) rfl,_,rfl,_,rfl,r,_,_,_,rfl,rfl,bI.of x3,aD (j:=5) rfl,_,_,rfl,rfl,_,_,rfl,rfl,⟨q1,q5⟩,_,rfl,y.tb,_,_,_,rfl,rfl,bI.of f3,aD (j:=1) rfl,_,rfl,_,_,rfl,rfl,⟨q2,q4⟩,_,_,rfl,q7,q6,fun u hu=>?_⟩
  apply 0o1 H3 u hu s5 hu5 H5
  have b5:=b3.same s5;have x5:=s5 _ _ x3;have ht5:=s5 _ _ Nu;have o5:=o4.trans (dI.same (q:=q) s5);have Pr:(0x91).length<=801:=A0L (dG _ _ _) (Nat.succ_le_succ kl);refine⟨_,rfl,q.B,_,rfl,b5.kd,_,rfl,r,_,_,_,rfl,rfl,bI.of x5,aD (j:=2) rfl,q.d,_,rfl,gY.k (k:=.inr y.n) b5.d (bO 0x1),?_⟩;have b6:=b5.ud (l':=putK 0x91 0x5F (.ref u)) ap;have o6:=o5.trans (dI.ud (H:=H5) (o:=.dK (putK 0x91 0x5F (.ref u))));have x6:=cZ b5 (dI.ud (H:=H5) (o:=.dK (putK 0x91 0x5F (.ref u)))) x5;have ht6:=cZ b5 (dI.ud (H:=H5) (o:=.dK (putK 0x91 0x5F (.ref u)))) ht5;have hu6:=cZ b5 (dI.ud (H:=H5) (o:=.dK (putK 0x91 0x5F (.ref u)))) hu5;generalize upd H5 q.d (.dK (putK 0x91 0x5F (.ref u)))=H6 at b6 o6 x6 ht6 hu6 ⊢;refine⟨_,rfl,r,_,_,_,rfl,rfl,bI.of x6,aD (j:=0) rfl,rfl,_,rfl,dO 0x4 ?_⟩;refine⟨_,rfl,r,_,_,_,rfl,rfl,bI.of x6,aD (j:=0) rfl,rfl,_,rfl,dO 0x4 ?_⟩;refine⟨_,rfl,r,_,_,_,rfl,rfl,bI.of x6,aD (j:=0) rfl,rfl,_,rfl,dO 0x4 ?_⟩;refine⟨_,rfl,r,_,_,_,rfl,rfl,bI.of x6,aD (j:=0) rfl,rfl,_,rfl,dO 0x4 ?_⟩;refine⟨_,rfl,r,_,_,_,rfl,rfl,bI.of x6,aD (j:=0) rfl,rfl,_,rfl,dO 0x4 ?_⟩;refine k t u H6 (fun c1 c2=>?_) ⟨ht6,hu6⟩ o6;rw[um U4 hnn,um U4 hnn]at b6;have e1:gZ (stp y es c1 c2 t u 0x93)=putK 0x96 0x21 (.str p):=by
   show kv _ (mod y.n (lM a c2 u) es++[qW y n m a c1 t])=_
   rw[cJ (g:=lM a c2 u) (x:=qW y n m a c1 t) 0xC hnn,dN (g:=lM a c2 u) 0xC 0xC]
   show putK _ _ (gU y.lord)=_
   rw[hp];rfl
  have e2:hoL (stp y es c1 c2 t u 0x93)=putK (hoL es) 0x21 (.str m):=by
   show kv _ (mod y.n (lM a c2 u) es++[qW y n m a c1 t])=_
   rw[cJ (g:=lM a c2 u) (x:=qW y n m a c1 t) 0xC hnn,dN (g:=lM a c2 u) 0xC 0xC];rfl
  have e3:lF (stp y es c1 c2 t u 0x93)=putK (putK (lF es) 0x5F (.int (y.own-a))) 0x21 (.int a):=by
   show kv _ (mod y.n (lM a c2 u) es++[qW y n m a c1 t])=_
   rw[cJ (g:=lM a c2 u) (x:=qW y n m a c1 t) 0xC hnn,ji (g:=lM a c2 u) 0xC W.nd hy];rfl
  have e4:qU (stp y es c1 c2 t u 0x93)=putK (putK (qU es) 0x5F (.ref u)) 0x21 0x72:=by
   show kv _ (mod y.n (lM a c2 u) es++[qW y n m a c1 t])=_
   rw[cJ (g:=lM a c2 u) (x:=qW y n m a c1 t) 0xC hnn,ji (g:=lM a c2 u) 0xC W.nd hy];rfl
  show BQ q H6 _ _ _ _ (ks++[n])
  rw[e1,e2,e3,e4];exact b6
 | convey e m=>
  obtain⟨hy,rfl⟩:=hst;refine 0x1B;refine 0x1B;refine 0x30;refine⟨_,rfl,r,_,_,_,rfl,rfl,bI.of hx,aD (j:=3) rfl,_,rfl,q.B,_,rfl,bk.gh,_,rfl,r,_,_,_,rfl,rfl,bI.of hx,aD (j:=2) rfl,q.h,_,rfl,gY.k (k:=.inr y.n) bk.h (bO (A0Q kl 0x6)),?_⟩;have b1:=fG.uh (l':=putK (hoL es) 0x5F (.str m)) ap bk;have o1:=dI.uh (q:=q) (H:=H) (o:=.dK (putK (hoL es) 0x5F (.str m)));have x1:=cZ bk o1 hx;generalize upd H q.h (.dK (putK (hoL es) 0x5F (.str m)))=H1 at b1 o1 x1 ⊢;refine 0x6C;refine 0x6C;refine 0x6C;refine 0x6C;refine k 0 0 H1 (fun c1 c2=>?_) True.intro o1;have e2:hoL 0x25=putK (hoL es) 0x5F (.str m):=ji (g:=nj m) 0xC W.nd hy;have e1:gZ 0x25=gZ es:=dN (g:=nj m) 0xC 0xC es;have e3:lF 0x25=lF es:=dN (g:=nj m) 0xC 0xC es;have e4:qU 0x25=qU es:=dN (g:=nj m) 0xC 0xC es
  show BQ q H1 (gZ 0x25) (hoL 0x25) (lF 0x25) (qU 0x25) ks
  rw[e1,e2,e3,e4];exact b1
 | jY e=>
  obtain⟨hy,rfl⟩:=hst;have hne:=hsu _ rfl;obtain⟨p,hp,_,_⟩:=W.lord y hy hne;have ep:y.lord.getD ""=p:=by rw[hp];rfl
  refine 0x1B;refine 0x1B;refine 0x1B;refine 0x30;refine⟨_,rfl,_,rfl,r,_,_,_,rfl,rfl,bI.of hx,aD (j:=2) rfl,q,es,ks,y,p,rfl,ap,bk,W,hy,hne,hp,by lia,fun H1 b1 o1=>?_⟩;have x1:=cZ bk o1 hx;refine 0x6C;refine 0x6C;refine 0x6C;refine k 0 0 H1 (fun c1 c2=>?_) True.intro o1
  show Bk q H1 0x7A ks
  rw[ep];exact b1
abbrev sEi:Stmt:=top 36
abbrev Yg:Stmt:=top 37
def pW{p q:Addr}(hp:H p=some 0x8E)(hq:H q=some 0x8E)(hl:ss.length<=1000):Qu H 3 0x3E (.ref q):=by
 refine .inr (.inr ⟨p,q,_,_,rfl,rfl,hp,hq,rfl,by rw[bY];exact hl,fun i x y h1 h2=>?_⟩);rw[h1]at h2;cases h2;rw[lJ]at h1;obtain⟨z,_,rfl⟩:=A1b.mp h1;exact .inl ⟨rfl,rfl⟩
def a0n{p q:Addr}{x y:Int}(hp:H p=some (.tup [.int x,.int y]))(hq:H q=some (.tup [.int x,.int y])):Qu H 2 0x3E (.ref q):=by
 refine .inr (.inl ⟨p,q,_,_,rfl,rfl,hp,hq,rfl,by simp,fun i u v h1 h2=>?_⟩);rw[h1]at h2;cases h2;have:u=.int x\/u=.int y:=by
  match i,h1 with
  |0,h1=>exact .inl (by simpa using h1.symm)
  |1,h1=>exact .inr (by simpa using h1.symm)
  |(i+2),h1=>simp at h1
 rcases this with rfl|rfl<;>exact .inl ⟨rfl,rfl⟩
def J6(o:Option Str):Tr (gU o)=true:=by cases o<;>rfl
def Ro{p q ta tb:Addr}{m:Str}{o:Option Str}{i j:Int}{d:Int×Int}(hp:H p=some (.tup [.str m,gU o,.int i,.int j,.ref ta]))(hq:H q=some (.tup [.str m,gU o,.int i,.int j,.ref tb]))(h1:qT H ta d.1 d.2)(h2:qT H tb d.1 d.2):Qu H 3 0x3E (.ref q):=by
 refine .inr (.inl ⟨p,q,_,_,rfl,rfl,hp,hq,rfl,by simp,fun i u v e1 e2=>?_⟩)
 match i,e1,e2 with
 |0,e1,e2=>simp at e1 e2;subst e1 e2;exact .inl ⟨rfl,rfl⟩
 |1,e1,e2=>simp at e1 e2;subst e1 e2;exact .inl ⟨rfl,J6 o⟩
 |2,e1,e2=>simp at e1 e2;subst e1 e2;exact .inl ⟨rfl,rfl⟩
 |3,e1,e2=>simp at e1 e2;subst e1 e2;exact .inl ⟨rfl,rfl⟩
 |4,e1,e2=>simp at e1 e2;subst e1 e2;exact a0n h1 h2
 |(i+5),e1,e2=>simp at e1
inductive Wv(C:Addr)(vs:List V)(H:Hp)(Q:VK)(cP:XK):Prop
 |mk(q:Ad)(es:List aL)(ks ls:List Str)(j:Nat)(e:aL)(_:vs=[.ref q.x,.ref q.B,.str e.n])(_:Rel C q H es ks ls j)(_:e∈es)(_:es.length<=18)(_:∀H',Same H H'->Q (.bl true) H'):Wv C vs H Q cP
inductive Ww(C:Addr)(vs:List V)(H:Hp)(Q:VK)(cP:XK):Prop
 |mk(q:Ad)(es:List aL)(ks ls:List Str)(j:Nat)(_:vs=[.ref q.x,.ref q.B])(_:Rel C q H es ks ls j)(_:es.length<=18)(_:∀H',Same H H'->Q (.bl true) H'):Ww C vs H Q cP
def Wx:aX ["_law_land","_law_book_here","_law_estate","_law_told","_law_due"] A5z (aH sEi):=0x0
def a0o(T:eO K C)(F:gF K "_law_estate_is" "_law_estate_is" sEi f fd){g7 g8 g9 g10 g11 g12:Addr}{d7 d8 d9 d10 d11 Rp:FuncData}
  (G1:aP P w K mg base bV 3 g1 d1 A5c (pH C))(m1:Meth K C "holder" g1)(b1:Binds K d1 A5c [])
  (G2:aP P w K mg base bV 3 g2 d2 A5c (Ce C))(m2:Meth K C "lord" g2)(b2:Binds K d2 A5c [])
  (G3:aP P w K mg base bV 3 g3 d3 A5c (Kv C))(m3:Meth K C "own" g3)(b3:Binds K d3 A5c [])
  (G4:aP P w K mg base bV 3 g4 d4 A5c (qw C))(m4:Meth K C "breadth" g4)(b4:Binds K d4 A5c [])
  (G5:aP P w K mg base bV 3 g5 d5 A5c (qy C))(m5:Meth K C "service" g5)(b5:Binds K d5 A5c [])
  (G6:aP P w K mg base bV 3 g6 d6 A5c (rJ C))(m6:Meth K C "chain" g6)(b6:Binds K d6 A5c [])
  (G7:aP P w K mg base bV 1 g7 d7 A5c (rH C))(m7:Meth K C "there" g7)(b7:Binds K d7 A5c [])
  (G8:aP P w K mg base bV 3 g8 d8 A5c (pI C))(m8:Meth K C "under" g8)(b8:Binds K d8 A5c [])
  (G9:aP P w K mg base bV 2 g9 d9 A5d Rj)(M9:Ms K mg "_law_breadth" g9 d9 A5d)
  (Wy:aP P w K mg base bV 1 g10 d10 A5d Ng)(Rq:Ms K mg "_law_chain" g10 d10 A5d)
  (Rt:aP P w K mg base bV 1 g11 d11 A5d Ah)(M11:Ms K mg "_law_under" g11 d11 A5d)
  (Ru:aP P w K mg base bV 3 g12 Rp A5k (kW 3))(yq:Ms K mg "_law_same" g12 Rp A5k):
  aP P w K mg base bV 4 f fd A5z (Wv C):=by
 refine F.ok Wx 0x3 0x5;obtain⟨q,es,ks,ls,j,e,rfl,R,he,hl,k⟩:=h;have G7:=aP.mono (k:=3) G7 0x1;have G9:=aP.mono (k:=3) G9 0x1;have Wy:=aP.mono (k:=3) Wy 0x1;have Rt:=aP.mono (k:=3) Rt 0x1;refine⟨_,(aq (aW (i:=3) Wx.nd rfl 0x9 (cB (aj (bG 0x11 T.cl m1 G1 hr b1 .nil aU 0x5D) (aj (bG 0x11 T.cl m2 G2 hr b2 .nil aU 0x5D) (aj (bG 0x11 T.cl m3 G3 hr b3 .nil aU 0x5D) (aj (bG 0x11 T.cl m4 G4 hr b4 .nil aU 0x5D) (aj (bG 0x11 T.cl m5 G5 hr b5 .nil aU 0x5D) aC)))))))
  (aq (aW (i:=4) Wx.nd rfl 0x9 (cB (aj (aN 0x17 0x29 0x37 0x2) (aj (aN 0x17 0x29 0x37 0x2) (aj (aN 0x17 0x29 0x37 0x2) (aj (aZ G9 hr rfl M9.m M9.k M9.b .nil aU (aj 0xE 0x5D)) aC))))))
  (aq (bM (fL (dg (aZ Ru hr rfl yq.m yq.k yq.b .nil aU (aj 0x70 (aj (aO wQ (pv 4) (cB (aj (aN 0x17 0x29 0x37 0x2) aC))) aC))))) bR aV)
  (aq (bM (PW.pt (oM (fL (dg (aZ Ru hr rfl yq.m yq.k yq.b .nil aU (aj (bG 0x11 T.cl m6 G6 hr b6 .nil aU 0x5D) (aj (aZ Wy hr rfl Rq.m Rq.k Rq.b .nil aU (aj 0xE 0x5D)) aC))))) (kj (fL (dg (aZ Ru hr rfl yq.m yq.k yq.b .nil aU (aj (bG 0x11 T.cl m7 G7 hr b7 .nil aU 0x5D) (aj uV aC)))))))) bR aV)
  (aF (bh (aZ Ru hr rfl yq.m yq.k yq.b .nil aU (aj (bG 0x11 T.cl m8 G8 hr b8 .nil aU 0x5D) (aj (aZ Rt hr rfl M11.m M11.k M11.b .nil aU (aj 0xE 0x5D)) aC))))))))),?_⟩
 have W:=R.W;have L:=R.L;have bk:=R.B;have ap:=R.ap;have hen:e.n∈nms es:=A0h.mpr ⟨e,he,rfl⟩;have hs:(bH 0x96 (.inr e.n)).isSome=true:=by rw[jt,A0t hen]
 obtain⟨f1,f2,_⟩:=R.fr e he;obtain⟨l,hch,hll⟩:=W.chain he;refine⟨_,rfl,q.x,q.dx,_,rfl,L.o,rfl,_,rfl,q.x,q.dx,q.a1,q.a2,q.a3,q.a4,q.a5,_,_,_,_,_,e.n,_,rfl,L,hs,cu W.nd he,_,rfl,q.x,q.dx,_,rfl,L.o,rfl,_,rfl,q.x,q.dx,q.a1,q.a2,q.a3,q.a4,q.a5,_,_,_,_,_,e.n,_,rfl,L,hs,cu W.nd he,_,rfl,q.x,q.dx,_,rfl,L.o,rfl,_,rfl,q.x,q.dx,q.a1,q.a2,q.a3,q.a4,q.a5,_,_,_,_,_,e.n,_,rfl,L,hs,cu W.nd he,_,rfl,q.x,q.dx,_,rfl,L.o,rfl,_,rfl,q.x,q.dx,q.a1,q.a2,q.a3,q.a4,q.a5,_,_,_,_,_,e.n,_,rfl,L,hs,cu W.nd he,_,rfl,q.x,q.dx,_,rfl,L.o,rfl,_,rfl,q.x,q.dx,q.a1,q.a2,q.a3,q.a4,q.a5,_,_,_,_,_,e.n,_,rfl,L,hs,cu W.nd he,small 0x8,fun t1 ht1=>?_⟩
 apply 0o1 H t1 ht1 s1 k1 H1
 have R1:=R.same s1;refine⟨_,rfl,q.B,_,rfl,R1.B.gh,_,rfl,q.h,_,rfl,Dj R1.B.h W.nd he,_,rfl,q.B,_,rfl,R1.B.gl,_,rfl,q.l,_,rfl,Dj R1.B.l W.nd he,_,rfl,q.B,_,rfl,R1.B.go,_,rfl,q.o,_,rfl,Dj R1.B.o W.nd he,_,rfl,_,rfl,q,es,ks,e,rfl,ap,R1.B,W,he,hl,fun H2 s2=>⟨small 0x8,fun t2 J5=>?_⟩⟩
 apply 0o1 H2 t2 J5 s3 k2 H3
 have Wz:=s2.trans s3;have Dl:=s1.trans Wz;have R3:=R.same Dl;refine⟨_,rfl,_,rfl,_,rfl,q.B,_,rfl,R3.B.gd,_,rfl,q.d,_,rfl,Dj R3.B.d W.nd he,small 0x8,fun t3 Nu=>?_⟩;have s4:=aJ Nu (.tup [.ref e.tb]);refine⟨t2,t3,_,_,rfl,rfl,bI.of (s4 _ _ k2),bI.of ao,0x8,small 0x8,(fun z=>absurd z 0x8),fun _ t4 Rn=>?_⟩;have s5:=aJ Rn (.tup [.str e.man,gU e.lord,.int e.own,.int e.br,.ref e.tb]);have s35:=s4.trans s5;refine⟨_,_,rfl,Ro (d:=e.due) (s35 _ _ (Wz _ _ k1)) ao (s35 _ _ (Dl _ _ f1)) (s35 _ _ (Dl _ _ f2)),fun H6 s6=>⟨_,rfl,bZ ?_⟩⟩;have Nx:=(Dl.trans s35).trans s6;have R6:=R.same Nx;refine⟨_,rfl,q.x,q.dx,_,rfl,R6.L.o,rfl,_,rfl,q.x,q.dx,q.a1,q.a2,q.a3,q.a4,q.a5,_,_,_,_,_,e.n,l,rfl,R6.L,hs,hch,by lia,fun r1 H7 s7 hr1 WD=>?_⟩;have R7:=R6.same s7;refine⟨_,rfl,_,rfl,q,es,ks,e.n,l,rfl,ap,R7.B,W,hen,hch,by lia,fun r2 H8 s8 hr2 hr2'=>?_⟩;refine⟨_,_,rfl,pW (s8 _ _ WD) hr2' 0x1,fun H9 s9=>⟨_,rfl,bZ ?_⟩⟩;have s09:=((Nx.trans s7).trans s8).trans s9;have R9:=R.same s09;refine⟨_,rfl,q.x,q.dx,_,rfl,R9.L.o,rfl,_,rfl,q.x,q.dx,q.a1,q.a2,q.a3,q.a4,q.a5,_,_,_,_,_,e.n,rfl,R9.L,?_⟩;rw[hs];refine⟨_,_,rfl,.inl ⟨rfl,rfl⟩,fun H10 U5=>⟨_,rfl,bZ ?_⟩⟩;have s010:=s09.trans U5;have R10:=R.same s010;refine⟨_,rfl,q.x,q.dx,_,rfl,R10.L.o,rfl,_,rfl,q.x,q.dx,q.a1,q.a2,q.a3,q.a4,q.a5,_,_,_,_,_,e.n,rfl,R10.L,hs,pR,Mu,by rw[gq];lia,fun r3 ss H11 s11 vP WK hp hso=>?_⟩;have R11:=R10.same s11;refine⟨_,rfl,_,rfl,q,es,ks,e.n,rfl,ap,R11.B,W.nd,by lia,fun r4 ss' H12 s12 Ih hr4' hp' hso'=>?_⟩;have ess:ss=ss':=lA ((Gb hp).trans hp'.symm) hso hso';subst ess;have hsl:ss.length<=es.length:=by
  rw[hp'.length_eq,bY];exact A0s _ _
 exact⟨_,_,rfl,pW (s12 _ _ WK) hr4' 0x1,fun H13 Wz=>k _ (((s010.trans s11).trans s12).trans Wz)⟩
def WL:aX A5w ["_law_land","_law_book_here"] (aH Yg):=0x0
def a0p:Scope:={kind:=.function,names:=[0x40,0x46],isGenerator:=false,isCoroutine:=false}
def a0q:cM A5w (aH Yg) a0p A5v [] []:=0x7
def a0r:((A5v:List Str)++([]:List Str)).Nodup:=by decide+kernel
def a0s:Scope:={kind:=.function,names:=[0x40,("_law_man",.local),("_law_same",.globalImplicit),("_law_held",.globalImplicit),0x4A,("_law_land",.free)],isGenerator:=false,isCoroutine:=false}
def a0t:cM A5w (aH Yg) a0s ["_law_man"] ["_law_book_here","_law_land"] [1,0]:=0x7
def a0u:((["_law_man"]:List Str)++(["_law_book_here","_law_land"]:List Str)).Nodup:=by decide+kernel
def a0v:Scope:={kind:=.function,names:=[0x40,("_law_estate",.local),("_law_estate_is",.globalImplicit),0x4A,("_law_land",.free)],isGenerator:=false,isCoroutine:=false}
def a0w:cM A5w (aH Yg) a0v ["_law_estate"] ["_law_book_here","_law_land"] [1,0]:=0x7
def a0x:((["_law_estate"]:List Str)++(["_law_book_here","_law_land"]:List Str)).Nodup:=by decide+kernel
def WM:bootBuiltins "set"=some (.type "set"):=by decide+kernel
def qH{α:Type}(l:List α):l.filter (fun _=>true)=l:=List.filter_eq_self.mpr fun _ _=>rfl
def a0y(T:eO K C)(F:gF K "_law_land_is" "_law_land_is" Yg f fd)(m:MgS mg)(ms:mg "sorted"=none)(mse:mg "set"=none) 
  (G1:aP P w K mg base bV 1 g1 d1 A5J (mY C))(m1:Meth K C "estates" g1)(b1:Binds K d1 A5J [])
  (G2:aP P w K mg base bV 1 g2 d2 A5J (yh C))(m2:Meth K C "folk" g2)(b2:Binds K d2 A5J [])
  (G3:aP P w K mg base bV 1 g3 d3 ["self","man"] (xQ C))(m3:Meth K C "held" g3)(b3:Binds K d3 ["self","man"] [])
  (G4:aP P w K mg base bV 1 g4 d4 A5h Gf)(M4:Ms K mg "_law_held" g4 d4 A5h)
  (G5:aP P w K mg base bV 3 g5 d5 A5k (kW 3))(M5:Ms K mg "_law_same" g5 d5 A5k)
  (G6:aP P w K mg base bV 4 g6 d6 A5z (Wv C))(M6:Ms K mg "_law_estate_is" g6 d6 A5z):
  aP P w K mg base bV 5 f fd ["_law_land","_law_book_here"] (Ww C):=by
 refine F.ok WL 0x3 0x5;obtain⟨q,es,ks,ls,j,rfl,R,hl,k⟩:=h;have G1:=aP.mono (k:=4) G1 0x1;have G2:=aP.mono (k:=4) G2 0x1;have G3:=aP.mono (k:=4) G3 0x1;have G4:=aP.mono (k:=4) G4 0x1;have G5:=aP.mono (k:=4) G5 0x1;refine⟨_,(aq (aW (i:=2) WL.nd rfl 0x9 (aY dw rfl ms fB (aj (o9 (gj rfl a0q (mX 0x29) (fun s H fp C'=>⟨bf (i:=0) a0r rfl 0x9,fM (aQ lD 0x11 aG 0x7C),pv 0⟩))) aC)))
  (aq (aW (i:=3) WL.nd rfl 0x9 (aY (pO hr.hd) rfl ms fB (aj (cV (Dc hr.hd) rfl mse WM (aj (cV (CT hr.hd) rfl m.list kI (aj (Io 0x29) aC)) aC)) aC)))
  (aq (bM (PW.pt (oM (fL (dg (aZ G5 hr rfl M5.m M5.k M5.b .nil aU (aj (iK 0x11 T.cl m1 G1 hr b1 .nil aU) 0x5D)))) (kj (fL (dg (aZ G5 hr rfl M5.m M5.k M5.b .nil aU (aj (iK 0x11 T.cl m2 G2 hr b2 .nil aU) (aj 0x70 aC)))))))) bR aV)
  (aq (bM (fL (dg (aY (jR (K:=K) rfl hr.hd) rfl m.all sX (aj (gj rfl a0t (eU 0x70) (fun s H fp C'=>⟨bf (i:=0) a0u rfl 0x9,jE,(aZ G5 hr rfl M5.m M5.k M5.b .nil aU (aj (bG 0x37 T.cl m3 G3 hr b3 .nil aU (aj 0x11 aC)) (aj (aZ G4 hr rfl M4.m M4.k M4.b .nil aU (aj 0xE (aj 0x11 aC))) aC)))⟩)) aC)))) bR aV)
  (aF (bh (aY (jR (K:=K) rfl hr.hd) rfl m.all sX (aj (gj rfl a0w (eU (aO nW (dZ 0x94) 0x37)) (fun s H fp C'=>⟨bf (i:=0) a0x rfl 0x9,jE,(aZ G6 hr rfl M6.m M6.k M6.b .nil aU (aj 0x37 (aj 0xE (aj 0x11 aC))))⟩)) aC)))))))),?_⟩
 have W:=R.W;have bk:=R.B;have ap:=R.ap;have nB:q.B≠q.l:=bN ap 5 6 rfl rfl 0x6;have gB:∀{o:Obj}{Hz:Hp},Same (upd H q.l (.gD o (.dK 0x96))) Hz->fP Hz q.B (V.str "lords") (some (.ref q.l)):=fun sz=>gn (sz _ _ (by rw[ak nB];exact bk.b)) bk.vl;refine ni (fun y=>!decide (y.n="")) bk.l 0x1 (fun o R' hR=>⟨_,rfl,q.B,_,rfl,gB 0x41,hR⟩) (fun o y Hz A B hy sz hAB=>?_) (fun D Hz sz Yd gJ=>?_)
 ·refine⟨Kp.set rfl 0x39,_,rfl,rfl,_,rfl,?_⟩;rw[dU];refine gA 0x24 0x24
  ·rw[A0i c]at hAB;exact⟨_,rfl,hAB⟩
  ·rw[A0f c]at hAB;exact hAB
 have WQ:(es.filter fun y:aL=>!decide (y.n=("":Str))).length<=es.length:=A0s _ _;refine⟨D,_,rfl,bF.of gJ,(by rw[bY];lia),fun r1 ns hr1 hpn hsn=>?_⟩;have s1:=sz.trans (aJ hr1 (.lst (ns.map V.str)));have k1:(upd Hz r1 (.lst (ns.map V.str))) r1=some (.lst (ns.map V.str)):=ao;generalize upd Hz r1 (.lst (ns.map V.str))=H1 at s1 k1 ⊢;have R1:=R.same s1;have nl:ns.length<=es.length:=by rw[hpn.length_eq,bY];exact WQ
 refine⟨_,rfl,q.B,_,rfl,R1.B.gh,q.h,_,rfl,R1.B.h,fun v1 hv1=>?_⟩
 apply 0o1 H1 v1 hv1 sv kv1 Ha
 refine⟨v1,q.h,_,rfl,kv1,sv _ _ R1.B.h,fun l1 hl1=>?_⟩;have em:(hoL es).map (·.2)=(0x3A).map V.str:=by rw[A0N,A0N];rfl
 rw[em];have sl:=sv.trans (aJ hl1 (.lst ((0x3A).map V.str)));have kl1:(upd Ha l1 (.lst ((0x3A).map V.str))) l1=some (.lst ((0x3A).map V.str)):=ao;generalize upd Ha l1 (.lst ((0x3A).map V.str))=Hb at sl kl1 ⊢;refine⟨l1,_,rfl,bF.of kl1,(by rw[bY];lia),fun se hse=>?_⟩;have al:=pP 0x3A;rw[bY]at al;have ss0:=sl.trans (aJ hse (iT P w se (jM 0x3A)));have kse:(upd Hb se (iT P w se (jM 0x3A))) se=some (iT P w se (jM 0x3A)):=ao;refine⟨se,_,rfl,ao,by lia,fun r2 fk hr2 hpf hsf=>?_⟩;have hr2':(upd Hb se (iT P w se (jM 0x3A))) r2=none:=hr2;have s12:=ss0.trans (aJ hr2' (.lst (fk.map V.str)));have s2:=s1.trans s12;have k1':=s12 _ _ k1;have k2:(upd (upd Hb se (iT P w se (jM 0x3A))) r2 (.lst (fk.map V.str))) r2=some (.lst (fk.map V.str)):=ao
 change(GR _ _) _ _ (upd (upd Hb se (iT P w se (jM 0x3A))) r2 (.lst (fk.map V.str)))
 generalize upd (upd Hb se (iT P w se (jM 0x3A))) r2 (.lst (fk.map V.str))=H2 at s2 k1' k2 ⊢;have R2:=R.same s2;have fl:fk.length<=es.length:=by rw[hpf.length_eq];exact al
 refine⟨_,rfl,q.x,q.dx,_,rfl,R2.L.o,rfl,q.x,q.dx,q.a1,q.a2,q.a3,q.a4,q.a5,_,_,_,_,_,rfl,R2.L,pR,by rw[gq];lia,fun r3 ss H3 s3 vP WK hp3 hs3=>?_⟩;have e3:ss=ns:=by
  rw[rO]at hp3;exact lA (hp3.trans hpn.symm) hs3 hsn
 subst e3;refine⟨_,rfl,_,_,rfl,pW WK (s3 _ _ k1') 0x1,fun H4 s4=>⟨_,rfl,bZ ?_⟩⟩;have Ny:=(s2.trans s3).trans s4;have R4:=R.same Ny;refine⟨_,rfl,q.x,q.dx,_,rfl,R4.L.o,rfl,q,es,rfl,R4.L,by lia,fun r5 ff H5 s5 Fx hr5' U6 Pk=>?_⟩;have e5:ff=fk:=Di (U6.trans hpf.symm) Pk hsf;subst e5;have k2':=s4 _ _ (s3 _ _ k2);refine⟨_,rfl,_,_,rfl,pW hr5' (s5 _ _ k2') 0x1,fun H6 s6=>⟨_,rfl,bZ ?_⟩⟩;have Nx:=(Ny.trans s5).trans s6;have k26:=s6 _ _ (s5 _ _ k2');have k16:=s6 _ _ (s5 _ _ (s4 _ _ (s3 _ _ k1')));refine⟨_,rfl,r2,rfl,⟨_,bF.of k26⟩,fun D2 hD2=>dR (xs:=ff) (fun _=>true) (fun _=>V.bl true) (bF.of k26) hD2 0x1 (fun x WR A B hx Jf hAB=>?_) (fun WR Jf uq=>?_)⟩
 ·refine⟨Kp.set rfl 0x39,iM ?_⟩;have Yh:=Nx.trans Jf;have R7:=R.same Yh;refine⟨_,rfl,q.x,q.dx,_,rfl,R7.L.o,rfl,_,rfl,q.x,q.dx,q.a1,q.a2,q.a3,q.a4,q.a5,_,_,_,_,_,x,rfl,R7.L,pR,Mv,by rw[gq];lia,fun r8 s8l H8 s8 hr8 hr8' hp8 hs8=>?_⟩;have R8:=R7.same s8;refine⟨_,rfl,_,rfl,q,es,ks,x,rfl,ap,R8.B,W.nd,by lia,fun r9 s9l H9 s9 hr9 hr9' hp9 hs9=>?_⟩;have e9:s8l=s9l:=by
   rw[rO]at hp8;have ef:(es.filter fun e=>decide (V.str e.man=V.str x))=es.filter fun y=>decide (y.man=x):=A4I fun y _=>dU;have hp8':s8l.Perm ((es.filter fun y=>decide (y.man=x)).map (·.n)):=by rw[<-ef];exact hp8
   exact lA (hp8'.trans hp9.symm) hs8 hs9
  subst e9;have l8:s8l.length<=es.length:=by rw[hp9.length_eq,bY];exact A0s _ _
  refine⟨_,_,rfl,pW (s9 _ _ hr8') hr9' 0x1,fun H10 U5=>?_⟩;have:=hAB _ ((s8.trans s9).trans U5);rw[A0i rfl]at this;exact this
 have ebl:(ff.filter fun _=>true).map (fun _=>V.bl true)=(List.replicate ff.length true).map V.bl:=by rw[qH,List.map_const',A4l]
 refine⟨D2,List.replicate ff.length true,rfl,bF.of (by rw[<-ebl];exact uq),?_⟩;rw[all_true fun b hb=>A2r hb];refine⟨_,rfl,bZ ?_⟩;have Yh:=Nx.trans Jf;have k17:=Jf _ _ k16;refine⟨small 0x8,fun c1 hc1=>?_⟩;have sc1:=aJ hc1 (.lst [.str ""]);refine⟨_,rfl,c1,r1,_,_,rfl,rfl,ao,sc1 _ _ k17,(by rw[bY,A0w];exact small 0x1),fun c2 hc2=>?_⟩;have sc2:=sc1.trans (aJ hc2 (.lst ([.str ""]++ss.map V.str)));have kc2:(upd (upd WR c1 (.lst [.str ""])) c2 (.lst ([.str ""]++ss.map V.str))) c2=some (.lst (((("":Str)::ss)).map V.str)):=ao;generalize upd (upd WR c1 (.lst [.str ""])) c2 (.lst ([.str ""]++ss.map V.str))=H11 at sc2 kc2 ⊢;have s011:=Yh.trans sc2;refine⟨c2,rfl,⟨_,bF.of kc2⟩,fun D3 hD3=>dR (xs:=""::ss) (fun _=>true) (fun _=>V.bl true) (bF.of kc2) hD3 (by rw[rT];lia) (fun x Hz3 A B hx sz3 hAB=>?_) (fun Hz3 sz3 hDz3=>?_)⟩
 ·refine⟨Kp.set rfl 0x39,iM ?_⟩;have hxn:x∈nms es:=by
   rcases A0c.mp hx with z|z
   ·rw[z];exact W.W0
   ·obtain⟨y,hy,rfl⟩:=A0h.mp (hpn.mem_iff.mp z);exact A0h.mpr ⟨y,(A0y.mp hy).1,rfl⟩
  obtain⟨y,hy,rfl⟩:=cY hxn;refine⟨_,rfl,_,rfl,_,rfl,q,es,ks,ls,j,y,rfl,R.same (s011.trans sz3),hy,hl,fun H12 s12=>?_⟩;have:=hAB _ s12;rw[A0i rfl]at this;exact this
 have ebl3:((("":Str)::ss).filter fun _=>true).map (fun _=>V.bl true)=(List.replicate (("":Str)::ss).length true).map V.bl:=by rw[qH,List.map_const',A4l]
 refine⟨D3,List.replicate (("":Str)::ss).length true,rfl,bF.of (by rw[<-ebl3];exact hDz3),?_⟩;rw[all_true fun b hb=>A2r hb];exact k _ (s011.trans sz3)
abbrev yr:Stmt:=top 21
def az:Str:="abcdefghijklmnopqrstuvwxyz"
def low(c:Nat):Bool:=decide (97<=c)&&decide (c<=122)
def nameB(l:List Nat):Bool:=l.all low&&(decide (1<=l.length)&&decide (l.length<=8))
def jj{α:Type}{xs:List α}{i:Int}(h0:0<=i)(h1:i<xs.length):∃v,oG xs i=some v/\v∈xs:=by
 have hi:i.toNat<xs.length:=by lia
 have e:i=((i.toNat:Nat):Int):=by lia
 refine⟨xs[i.toNat],?_,A1Z hi⟩;have q:oG xs ((i.toNat:Nat):Int)=some xs[i.toNat]:=aD (by simp[hi]);rw[<-e]at q;exact q
def Dm(cs:List Nat):(Txt.join (Str.ofString "") (cs.map fun c=>lK [c]))=lK cs:=by
 have e:(Str.ofString "").cps=#[]:=by decide+kernel
 have fo:∀(ds:List Nat)(acc:Array Nat),(ds.map fun c=>lK [c]).foldl (fun acc p=>acc++(Str.ofString "").cps++p.cps) acc=acc++ds.toArray:=by
  intro ds
  induction ds with
  |nil=>intro acc;simp
  | cons d r ih=>
   intro acc;rw[A0r,A1f,ih,e];simp
 show Builtin.Str.glued (Str.ofString "") (cs.map fun c=>lK [c])=_
 cases cs with
 |nil=>rfl
 | cons c r=>
  unfold Builtin.Str.glued;rw[A0r,List.drop_one,List.tail_cons,fo,List.headD_cons];simp[lK]
def Rv{cs:List Nat}(h:cs.length<=1000):JoinOk (Str.ofString "") (cs.map fun c=>lK [c])=true:=by
 have e:(Str.ofString "").length=0:=by decide+kernel
 have fo:∀(ds:List Nat)(n:Nat),(ds.map fun c=>lK [c]).foldl (fun a p=>a+p.length+(Str.ofString "").length) n=n+ds.length:=by
  intro ds
  induction ds with
  |nil=>intro n;simp
  | cons d r ih=>
   intro n;rw[A0r,A1f,ih,e,jf];simp;lia
 unfold JoinOk;rw[List.foldl_toArray',fo]
 ·unfold Builtin.Str.tooLong;have:=small (n:=cs.length) 0x1;simp;lia
 ·rfl
def app_list(x y:Str):(x++y).cps.toList=x.cps.toList++y.cps.toList:=by
 show(x.cps++y.cps).toList=_
 simp
def Rx(x y:Str):(x++y).length=x.length+y.length:=by
 have e:∀z:Str,z.length=z.cps.toList.length:=fun z=>by simp[Str.length]
 rw[e,e,e,app_list,lG]
def fJ{fs:List Int}(h:∀v∈fs,tR v){i:Int}(h0:0<=i)(h1:i<fs.length):∃v:Int,oG 0x44 i=some (.int v)/\tR v:=by
 obtain⟨x,e,m⟩:=jj (xs:=fs.map V.int) h0 (by rw[bY];exact h1);obtain⟨v,hv,rfl⟩:=A0h.mp m;exact⟨v,e,h v hv⟩
def a0z:∀i:_root_.Fin 26,az.cps.toList[i.val]?=some (97+i.val):=by decide+kernel
def NK{i:Int}(h0:0<=i)(h1:i<26):oG az.cps.toList i=some (97+i.toNat):=by
 have e:i=((i.toNat:Nat):Int):=by lia
 have q:oG az.cps.toList ((i.toNat:Nat):Int)=some (97+i.toNat):=aD (a0z ⟨i.toNat,by lia⟩);rw[<-e]at q;exact q
def NP(h:i<26):low (97+i)=true:=by simp[low];lia
def rep1(n c:Nat):pq n [c]=List.replicate n c:=by
 unfold pq
 induction n with
 |zero=>rfl
 |succ n ih=>rw[A1n,A2i,ih];rfl
def Ry{α:Type}{xs:List α}(h:j<=xs.length):rA xs none (some (j:Int))=xs.take j:=by
 unfold rA;have e1:HT.fY xs.length 0 none=0:=rfl;rw[e1,HT.jB,List.drop_zero,Nat.sub_zero,A1I h]
def J7{α:Type}{xs:List α}(h:j<=xs.length):rA xs (some (j:Int)) none=xs.drop j:=by
 unfold rA;have e2:HT.fY xs.length xs.length none=xs.length:=rfl;rw[e2,HT.jB,A1I h,A3K (by rw[A1l];exact A0g _)]
def Told(p:Nat)(e:Int)(zs:List Str):Prop:=∀(j:Nat)(z:Str),zs[j]?=some z->z.cps.toList[p]?=some (97+((e+7*(j:Int))%26).toNat)/\nameB z.cps.toList=true
def Told.nodup{p:Nat}{e:Int}(h:Told p e zs)(hl:zs.length<=26):zs.Nodup:=by
 unfold List.Nodup;rw[A0W];intro i j hi hj hij he;have h1:=(h i _ (jo hi)).1;have h2:=(h j _ (jo hj)).1;rw[he,h2]at h1;have h3:=A0O h1;lia
def Told.snoc{p:Nat}{e:Int}(h:Told p e zs)(h1:z.cps.toList[p]?=some (97+((e+7*(zs.length:Int))%26).toNat))(h2:nameB z.cps.toList=true):Told p e (zs++[z]):=by
 intro j y hj
 by_cases hlt:j<zs.length
 ·rw[A2e hlt]at hj;exact h j y hj
 ·have hj':j<(zs++[z]).length:=(A0p.mp hj).1;have e:j=zs.length:=by rw[lG,A0w]at hj';lia
  subst e;rw[A1k 0x2F,A4Q]at hj;have:z=y:=by simpa using hj
  subst this;exact⟨h1,h2⟩
def Am{l:List Nat}(h:∀c∈l,low c=true)(h1:1<=l.length)(h2:l.length<=8):nameB l=true:=by
 unfold nameB;rw[A1w.mpr h,A0t h1,A0t h2];rfl
inductive yt(K:W.Frag)(vs:List V)(H:Hp)(Q:VK)(cP:XK):Prop
 |mk(a:Addr)(ds:List Int)(many:Int)(_:vs=[.ref a,.int many])(_:bF K H a (ds.map V.int))(_:4<=ds.length)(_:(∀v∈ds,tR v))(_:0<=many)(_:many<=26)(_:∀(r:Addr)(H':Hp)(zs:List Str),Same H H'->H r=none->H' r=some (.lst 0x73)->zs.length=many.toNat->(∀z∈zs,nameB z.cps.toList=true)->zs.Nodup->Q 0x6E H'):yt K vs H Q cP
def jk:aX A5x ["_law_d","_law_many"] (aH yr):=0x0
def scN1:Scope:={kind:=.function,names:=[0x40,("_law_k",.local),("_law_d",.free),("_law_letters",.free)],isGenerator:=false,isCoroutine:=false}
def csN1:cM A5x (aH yr) scN1 ["_law_k"] ["_law_d","_law_letters"] [0,2]:=0x7
def ndN1:((["_law_k"]:List Str)++(["_law_d","_law_letters"]:List Str)).Nodup:=by decide+kernel
def NQ(F:gF K "_law_names" "_law_names" yr f fd)(ml:mg "len"=none)(mr:mg "range"=none):aP P w K mg base bV 1 f fd ["_law_d","_law_many"] (yt K):=by
 refine F.ok jk 0x3 0x5;obtain⟨a,ds,many,rfl,hS,hlen,hok,m0,m1,k⟩:=h;refine⟨_,aq (aW (i:=2) jk.nd rfl (Or.inr rfl) aG)
  (aq (aW (i:=4) jk.nd rfl 0x9 (jD PySem.F.plainAttrs_str PySem.F.slot_str_join PySem.F.type_str_join Q7 aG (aj
    (gj rfl csN1
     (cT rfl mr (aj (aO bL 0x68 au) aC))
     (fun s H fp C=>⟨bf (i:=0) ndN1 rfl 0x9,jE,aK JQ 0x37 (aO bL (aO cL (aK (z9 (K:=K)) 0xE au 0x2)
      (aO iU (aO cL 0x11 au) (aO mU (aK (z9 (K:=K)) 0xE au 0x2) au))) au) 0x2⟩)) aC)))
  (aq (aW (i:=5) jk.nd rfl 0x9 (aO bL 0x68 (aO cL (aY wW rfl ml A1m (aj (pv 4) aC)) au)))
  (aq (aW (i:=6) jk.nd rfl 0x9 (dZ aC))
  (aq (eZ A0M rfl (cT rfl mr 0x4D) (bf (i:=3) jk.nd rfl 0x9)
   (aq (aW (i:=7) jk.nd rfl 0x9 (aK JQ 0x37 (aO bL (aO cL 0x68 (aO iU au 0x70)) au) 0x2))
   (aq (aW (i:=8) jk.nd rfl 0x9 (aO sH (aO sH (fj K6 (pv 4) j9 (cW (pv 5))) (pv 7)) (fj K6 (pv 4) (cW (pv 5)) j9)))
   (aq (bM (aQ cU (aO bL (aO mU 0x68 au) au) au 0x7C)
    (aF (aW (i:=8) jk.nd rfl 0x9 (aO BJ (pv 7) (aO cL au (aO bL (aO cL 0x68 (aO iU au 0x70)) au))))) aV)
   (aF (bJ (jD A0J A0R A0S cX (pv 6) (aj (pv 8) aC))))))))
  (aF (bh (pv 6))))))),?_⟩
 obtain⟨d0,e0,o0⟩:=fJ hok (i:=0) 0x6 0x1;obtain⟨d1,e1,o1⟩:=fJ hok (i:=1) 0x6 0x1;obtain⟨d2,e2,o2⟩:=fJ hok (i:=2) 0x6 0x1;obtain⟨d3,e3,o3⟩:=fJ hok (i:=3) 0x6 0x1;obtain⟨o0a,o0b⟩:=o0;obtain⟨o1a,o1b⟩:=o1;obtain⟨o2a,o2b⟩:=o2;obtain⟨o3a,o3b⟩:=o3;refine⟨rfl,_,rfl,a,_,_,_,rfl,rfl,hS,e1,_,_,rfl,rfl,(by show(0:Int)<8;decide),d1%8,rfl,by lia,by lia,fun D hD=>?_⟩
 refine sV (lo:=0) (n:=(d1%8).toNat) (fun i ys H2=>∃cs:List Nat,ys=cs.map (fun c=>V.str (lK [c]))/\cs.length=i/\(∀c∈cs,low c=true)/\Same H H2/\H2 D=some 0x57)
  ⟨[],rfl,rfl,(fun c hc=>nomatch hc),aJ hD _,ao⟩ (fun i ys H2 ⟨cs,_,_,_,_,h⟩=>h) ?_ ?_
 ·rintro i ys H2 hi ⟨cs,rfl,hl,hc,s2,h2⟩;have S2:=s2.seq hS;refine⟨Kp.set rfl 0x39,?_⟩;refine iM ?_;have hm0:=A0P (d0+(0+(i:Int)+1)*(d1/8)) (show(26:Int)≠0 by decide)
  have hm1:=A0x (d0+(0+(i:Int)+1)*(d1/8)) (show(0:Int)<26 by decide)
  have hT:((d0+(0+(i:Int)+1)*(d1/8))%26).toNat<26:=by
   generalize(d0+(0+(i:Int)+1)*(d1/8))%26=T at hm0 hm1 ⊢;lia
  refine⟨_,rfl,_,rfl,a,_,_,_,rfl,rfl,S2,e0,_,rfl,_,_,rfl,rfl,_,rfl,a,_,_,_,rfl,rfl,S2,e1,_,_,rfl,rfl,⟨by decide,by decide⟩,_,_,rfl,rfl,.inl ⟨by lia,by lia⟩,_,_,rfl,rfl,_,_,rfl,rfl,(by show(0:Int)<26;decide),
   _,_,_,rfl,rfl,(by show az.length<=sizeLine;decide+kernel),NK hm0 hm1,h2,?_,?_⟩
  ·rw[bY];exact bO 0x1
  ·exact⟨cs++[97+((d0+(0+(i:Int)+1)*(d1/8))%26).toNat],by rw[lN];rfl,by simp[hl],(fun d hd=>by
    rcases A0u.mp hd with z|z
    ·exact hc d z
    ·rw[A0e.mp z];exact NP hT),bC s2 hD,ao⟩
 ·rintro ys H2 ⟨cs,rfl,hl,hc,s2,h2⟩;have hm:cs.map (fun c=>V.str (lK [c]))=(cs.map (fun c=>lK [c])).map V.str:=by simp
  refine⟨_,D,cs.map (fun c=>lK [c]),rfl,rfl,bF.of (by rw[<-hm];exact h2),Rv 0x1,?_⟩;rw[Dm];have S2:=s2.seq hS;have lc:(lK cs).length=cs.length:=jf cs;refine⟨_,rfl,a,_,_,_,rfl,rfl,S2,e2,_,rfl,_,rfl,(by rw[lc];exact small 0x1),_,_,rfl,rfl,_,_,rfl,rfl,(by rw[lc];lia),?_⟩;rw[lc];have q0:0<=d2%((cs.length:Int)+1):=A0P _ 0x1;have q1:d2%((cs.length:Int)+1)<(cs.length:Int)+1:=A0x _ 0x1;obtain⟨at_,hat⟩:∃n:Nat,d2%((cs.length:Int)+1)=(n:Int):=⟨(d2%((cs.length:Int)+1)).toNat,by lia⟩;rw[hat]at q0 q1;refine⟨small 0x8,fun l hl0=>?_⟩;have hl1:H l=none:=s2.free hl0;refine⟨_,rfl,many,rfl,by lia,by lia,?_⟩;refine dH (lo:=0) (n:=many.toNat) (fun j σ H4=>∃(zs:List Str)(u1 u2 u3:Option V),σ=[some 0x48,some (.int many),some (.str az),u1,some (.str (lK cs)),some (.int (at_:Int)),some (.ref l),u2,u3]/\Same H H4/\H4 l=some (.lst 0x73)/\zs.length=j/\Told (if d2/8%2=1 then 0 else at_) d3 zs)
   ⟨[],none,none,none,(by rw[<-hat];rfl),bC s2 hl1,ao,rfl,fun j z h=>by simp at h⟩ ?_ ?_
  ·rintro j σ H4 hj ⟨zs,u1,u2,u3,rfl,s4,hL,hz,ht⟩;have S4:=s4.seq hS;have hm0:=A0P (d3+7*(0+(j:Int))) (show(26:Int)≠0 by decide)
   have hm1:=A0x (d3+7*(0+(j:Int))) (show(0:Int)<26 by decide)
   refine⟨_,rfl,_,rfl,a,_,_,_,rfl,rfl,S4,e3,_,rfl,_,_,rfl,rfl,.inl ⟨by decide,by decide⟩,_,_,rfl,rfl,_,_,rfl,rfl,(by show(0:Int)<26;decide),_,_,_,rfl,rfl,(by show az.length<=sizeLine;decide+kernel),NK hm0 hm1,?_⟩
   have hc0:low (97+((d3+7*(0+(j:Int)))%26).toNat)=true:=NP 0x1;have hcj:97+((d3+7*(0+(j:Int)))%26).toNat=97+((d3+7*(zs.length:Int))%26).toNat:=by rw[hz,A3i]
   generalize 97+((d3+7*(0+(j:Int)))%26).toNat=c at hc0 hcj ⊢;refine⟨_,rfl,_,rfl,_,rfl,_,rfl,(by rw[lc];exact small 0x1),_,rfl,?_⟩;have f1:rA (lK cs).cps.toList none (some (at_:Int))=cs.take at_:=Ry (by show at_<=cs.length;lia)
   have f2:rA (lK cs).cps.toList (some (at_:Int)) none=cs.drop at_:=J7 (by show at_<=cs.length;lia)
   rw[f1];have l1:(lK (cs.take at_)++lK [c]).length=at_+1:=by rw[Rx,jf,jf,A0T,A1I 0x1];rfl
   refine⟨_,_,rfl,rfl,(by rw[jf,jf,A0T];exact small (by simp;lia)),?_⟩;refine⟨_,rfl,_,rfl,_,rfl,_,rfl,(by rw[lc];exact small 0x1),?_⟩;rw[f2];refine⟨_,_,rfl,rfl,(by rw[l1,jf,A1l];exact small 0x1),?_⟩;have en:(lK (cs.take at_)++lK [c]++lK (cs.drop at_)).cps.toList=cs.take at_++[c]++cs.drop at_:=by rw[app_list,app_list]
   refine⟨_,rfl,a,_,_,_,rfl,rfl,S4,e2,_,_,rfl,rfl,⟨by decide,by decide⟩,_,_,rfl,rfl,(by show(0:Int)<2;decide),rfl,_,rfl,?_⟩
   refine gA (fun hb=>?_) (fun hb=>?_)
   ·have hb1:d2/8%2=1:=by
     have:=yI hb;injection this
    rw[A0i hb1]at ht ⊢;refine⟨_,rfl,_,rfl,a,_,_,_,rfl,rfl,S4,e0,_,rfl,_,_,rfl,rfl,.inl ⟨by decide,by decide⟩,_,_,rfl,rfl,_,_,rfl,rfl,(by show(0:Int)<8;decide),_,_,rfl,rfl,?_⟩
    have r0:=A0P (d0+3*(0+(j:Int))) (show(8:Int)≠0 by decide)
    have r1:=A0x (d0+3*(0+(j:Int))) (show(0:Int)<8 by decide)
    refine⟨_,_,rfl,rfl,by lia,by lia,(by show(lK [c]).length<=1000;rw[jf];simp),?_⟩
    have ec:(lK [c]).cps.toList=[c]:=rfl;rw[ec,rep1];refine⟨_,rfl,.inl ⟨rfl,_,bF.of hL⟩,_,rfl,l,_,_,rfl,rfl,hL,0x7F,?_⟩;refine⟨zs++[lK (List.replicate (1+(d0+3*(0+(j:Int)))%8).toNat c)],_,_,_,rfl,bC s4 hl1,by rw[ao,lN];rfl,by rw[lG,A0w,hz],ht.snoc ?_ ?_⟩
    ·rw[<-hcj]
     show(List.replicate _ c)[0]?=some c
     rw[A3y,A0i 0x1]
    ·refine Am (fun x hx=>?_) ?_ ?_
     ·have:=(List.mem_replicate.mp hx).2;rw[this];exact hc0
     ·show 1<=(List.replicate _ c).length
      rw[A1K];lia
     ·show(List.replicate _ c).length<=8
      rw[A1K];lia
   ·have hb1:¬d2/8%2=1:=fun e=>hb (by show decide (V.int (d2/8%2)=V.int 1)=true;rw[e];rfl)
    rw[A0f hb1]at ht ⊢;refine⟨_,rfl,.inl ⟨rfl,_,bF.of hL⟩,_,rfl,l,_,_,rfl,rfl,hL,0x7F,?_⟩;refine⟨zs++[lK (cs.take at_)++lK [c]++lK (cs.drop at_)],_,_,_,rfl,bC s4 hl1,by rw[ao,lN];rfl,by rw[lG,A0w,hz],ht.snoc ?_ ?_⟩
    ·rw[en,<-hcj,A4w,A1k (by rw[A0T];lia),A0T,A1I 0x1,A4Q];rfl
    ·rw [en];refine Am (fun x hx=>?_) ?_ ?_
     ·rcases A0u.mp hx with z|z
      ·rcases A0u.mp z with z|z
       ·exact hc x (A3c z)
       ·rw[A0e.mp z];exact hc0
      ·exact hc x (A2j z)
     ·rw[lG,lG,A0w];lia
     ·rw[lG,lG,A0T,A1l,A0w];lia
  ·rintro σ H4 ⟨zs,u1,u2,u3,rfl,s4,hL,hz,ht⟩;refine⟨_,rfl,k l H4 zs s4 hl1 hL hz (fun z hzm=>?_) (ht.nodup 0x1)⟩;obtain⟨i,hi,rfl⟩:=List.mem_iff_getElem.mp hzm;exact(ht i _ (jo hi)).2
end M
namespace L2
open PySem PySem.Spec PyProof.Rows PySem.W
def idxV(n:Nat)(lo hi st:Option Int):List Nat:=sliceRange (sliceBounds lo hi st n).1 (sliceBounds lo hi st n).2.1 (sliceBounds lo hi st n).2.2
def wB(xs:List V)(lo hi st:Option Int):List V:=(idxV xs.length lo hi st).filterMap (xs[·]?)
theorem qI(r:Vals xs us):∀ix:List Nat,Vals (ix.filterMap (xs[·]?)) (ix.filterMap (us[·]?))
 |[]=>.nil
 | i::ix=>by
  rw[A2u,A2u];cases e:xs[i]? with
  |none=>rw[r.none_of e];exact qI r ix
  | some x=>
   obtain⟨u,eu,ru⟩:=r.get e;rw[eu];exact .cons ru (qI r ix)
inductive rSl3(K:W.Frag)(x:V)(lo hi st:Option Int)(H:Hp)(Q:VK):Prop
 |mk(a:Addr)(xs:List V)(_:x=.ref a)(_:bF K H a xs)(_:st≠some 0)(_:(wB xs lo hi st).length<=1000)(_:∀p,H p=none->Q 0x3E (upd H p (.lst (wB xs lo hi st)))):rSl3 K x lo hi st H Q
def tSl3(K:PySem.W.Frag)(te:TE)(tl th ts:TO):TE:=fun σ H Q=>te σ H fun x H1=>tl σ H1 fun l H2=>th σ H2 fun u H3=>ts σ H3 fun o H4=>rSl3 K x l u o H4 Q
def J8{lo hi:Option Expr}{st:Expr}{tl th ts:TO}(he:PE X e te)(hl:PO X lo tl)(hu:PO X hi th)(ht:PO X (some st) ts):PE X (.Subscript e (.Slice lo hi (some st) p2) pos) (tSl3 X.K te tl th ts):=by
 intro pins s σ H Q I h;refine Subscript_ (cN 0x79 fun v s1 zq=>?_);obtain⟨x,H1,I1,r1,q1⟩:=zq;refine wpAny_Slice (cN (hl pins s1 σ H1 _ I1 q1) fun vl s2 ⟨l,H2,I2,pl,q2⟩=>cN (hu pins s2 σ H2 _ I2 q2) fun vu s3 ⟨u,H3,I3,pu,q3⟩=>cN (ht pins s3 σ H3 _ I3 q3) fun vs s4 zq=>?_);obtain⟨o,H4,I4,po,q4⟩:=zq;obtain⟨a,xs,rfl,hx,h0,hz,q⟩:=q4;cases r1;have I5:Inv X pins σ H4 {s4 with heap:=s4.heap.push {cls:=.type "slice",data:=.fields #[vl,vu,vs]}}:=I4.kept (t':=s4.toks) fun b ob q=>A0b _ q;obtain⟨its,r,pl',hz'⟩:=I5.list hx;have hlen:=r.length
 show wpAny 0xA X.A (subscriptTail e (.Slice lo hi (some st) p2) 0x48 (.ref s4.heap.objs.size)) 0x3F X.xe {s4 with heap:=s4.heap.push {cls:=.type "slice",data:=.fields #[vl,vu,vs]}}
 refine tail_any (ops:=[.ref a,.ref s4.heap.objs.size]) pl'.isList.typeIs A4v.lookup ?_ 0x13;refine wpAny_getItem_list_slice pl'.isList (Heap.IsSliceOf.new ..) pl pu po h0 ?_ (by rw[A0v]<;>lia);have e:slicePick its.toArray l u o=(((idxV xs.length l u o).filterMap (its[·]?))).toArray:=by
  unfold slicePick idxV;rw[A0v,<-hlen];simp
 rw[e];refine⟨.ref _,_,I5.laid (t':=s4.toks) (o:=.lst (wB xs l u o)) (fun b ob q=>A0b _ q) 0x2F ?_,rfl,q _ (I5.hok.fresh 0x2F)⟩;exact⟨A0L hz (by rw[A1H];decide),_,0,qI r _,A0m _ rfl⟩
inductive U7(xs:List V)(H:Hp)(Q:VK):Prop
 |mk(a:Addr)(kvs:List 0x20)(_:xs=[V.ref a])(_:H a=some 0x18)(_:Q (.int kvs.length) H):U7 xs H Q
def Dn:gw X (.builtin "len") U7:=by
 intro pins s σ H xs us Q I r h;obtain⟨a,kvs,rfl,ha,q⟩:=h;obtain⟨u,rfl,ru⟩:=vals1 r;cases ru;obtain⟨z,hs,vs,rel,dd⟩:=nQ I.hok ha;have hlen:vs.length=kvs.length:=rel.length.symm;refine call_len_dict hs dd ?_ ?_
 ·have:sizeLine<2^63:=by rw[A1H];decide
  lia
 ·exact⟨.int _,H,(I.tok _).tok _,⟨_,rfl⟩,by rw[hlen];exact q⟩
inductive WT(t:TS)(D:Ends)(σ:L2.St)(H:Hp):Prop
 |mk(a:Addr)(kvs:List (Prod L2.Key V))(_:H a=some 0x18)(_:∀o,t {nx:=fun σ' H'=>H' a=some 0x3B/\D.nx σ' (upd H' a 0x18),rt:=fun _ _=>False} σ (upd H a 0x3B)):WT t D σ H
def NT{t:TS}(h:PS X st t):PS X st (WT t):=by
 intro pins s σ H D I ⟨a,kvs,ea,q⟩;obtain⟨o,I1,n⟩:=I.freeze ea;refine A1j (h pins s σ _ _ I1 (q o)) (fun fl s' hf=>?_) fun _ _ y=>y;cases fl with
 | next=>
  obtain⟨σ',H',I',e',q'⟩:=hf;exact⟨σ',_,I'.Zo e' n,q'⟩
 |brk=>obtain⟨_,_,_,f⟩:=hf;exact f.elim
 |cont=>obtain⟨_,_,_,f⟩:=hf;exact f.elim
 |ret u=>obtain⟨_,_,_,_,_,f⟩:=hf;exact f.elim
end L2
namespace M
open PySem L2 PyProof.Rows
abbrev Dp:Stmt:=top 32
abbrev sLf:Stmt:=top 33
def ur{fs:List Int}(h:i<=j)(hj:j<=fs.length):gH 0x44 (some (i:Int)) (some (j:Int))=((fs.drop i).take (j-i)).map V.int:=by
 unfold gH;rw[HT.jB,HT.jB,bY,A1I hj,A1I (A0L h hj),A4K,List.map_drop]
def Dr{fs:List Int}(h:∀v∈fs,tR v):∀v∈(fs.drop i).take n,tR v:=fun v hv=>h v (A2j (A3c hv))
def Nm(z:Str):Prop:=nameB z.cps.toList=true
def Nm.ne(h:Nm z):z≠""/\PyData.strOk z=true:=by
 unfold Nm nameB at h;rw[A1v,A1v]at h
 constructor
 ·intro e;rw[e]at h;have:=yI h.2.1;exact absurd this 0x4
 ·unfold PyData.strOk;rw[<-Array.all_toList,A1w];intro c hc;have:=A1w.mp h.1 c hc;unfold low at this;simp at this ⊢;lia
structure nO(H:Hp)(r m la:Addr)(ms ls:List Str)(wd:Int):Prop where
 r:H r=some (.tup [.ref m,.ref la,.int wd])
 m:H m=some (.lst (ms.map V.str))
 la:H la=some (.lst (ls.map V.str))
 lm:ms.length=6
 ll:ls.length=9
 nm:ms.Nodup
 om:∀z∈ms,Nm z
 ol:∀z∈ls,Nm z
 w1:1<=wd
 w2:wd<=9999
 nl:ls.Nodup
def nO.same{m:Addr}(p:nO H r m la ms ls wd)(s:Same H H'):nO H' r m la ms ls wd:=⟨s _ _ p.r,s _ _ p.m,s _ _ p.la,p.lm,p.ll,p.nm,p.om,p.ol,p.w1,p.w2,p.nl⟩
inductive yu(K:W.Frag)(vs:List V)(H:Hp)(Q:VK)(cP:XK):Prop
 |mk(a:Addr)(fs:List Int)(_:vs=[.ref a])(_:bF K H a 0x44)(_:20<=fs.length)(_:(∀v∈fs,tR v))(_:∀r m la ms ls wd H',Same H H'->nO H' r m la ms ls wd->Q 0x6E H'):yu K vs H Q cP
def idx9:idxV 9 (some 8) (some 2) (some (-1))=[8,7,6,5,4,3]:=by decide+kernel
def nine(h:ls.length=9):∃a b c d e f g i j,ls=[a,b,c,d,e,f,g,i,j]:=by
 match ls,h with
 |[a,b,c,d,e,f,g,i,j],_=>exact⟨a,b,c,d,e,f,g,i,j,rfl⟩
inductive WW(K:W.Frag)(vs:List V)(H:Hp)(Q:VK)(cP:XK):Prop
 |mk(q:Ad)(es:List aL)(ks:List Str)(me:Addr)(ms:List Str)(m:Str)(n:Int)(_:vs=[.ref q.B,.ref me,.str m,.int n])(_:Ap q)(_:Bk q H es ks)(_:WF es)(_:es.length<64)(_:H me=some (.lst (ms.map V.str)))(_:ms.length<=20)(_:m≠"")(_:∀(z:Str)(H':Hp),Same H H'->Q (.str z) H'):WW K vs H Q cP
def yw:aX ["_law_feed_here","_law_wide","_law_lands"] ["_law_feed_here"] (aH Dp):=0x0
def NZ(F:gF K "_law_pools" "_law_pools" Dp f fd)(G1:aP P w K mg base bV 1 g1 d1 ["_law_d","_law_many"] (yt K))(M1:Ms K mg "_law_names" g1 d1 ["_law_d","_law_many"]):aP P w K mg base bV 2 f fd ["_law_feed_here"] (yu K):=by
 refine F.ok yw 0x3 0x5;obtain⟨a,fs,rfl,hS,hlen,hok,k⟩:=h;refine⟨_,(aq (aW (i:=1) yw.nd rfl 0x9 (aK aM (dZ (aj (aO cL au (aO bL 0x68 au)) (aj (aO cL au (aO bL 0x68 au)) (aj (aO nU au (aO bL 0x68 au)) 0x5A)))) (aO bL 0x68 au) 0x2))
  (aq (aW (i:=2) yw.nd rfl 0x9 (aZ G1 hr rfl M1.m M1.k M1.b .nil aU (aj (fj jc 0x11 (cW au) (cW au)) 0x5A)))
  (aq (bM (aQ cU (aO bL (aO mU 0x68 au) au) au 0x7C) (aF (bh (cB (aj (J8 0x37 (cW au) (cW au) (cW (uW qg au))) (aj 0x37 0x4D))))) aV)
  (aF (bh (cB (aj (aZ G1 hr rfl M1.m M1.k M1.b .nil aU (aj (fj jc 0x11 (cW au) (cW au)) 0x5A)) (aj 0x37 0x4D)))))))),?_⟩
 obtain⟨Rp,RB,o12⟩:=fJ hok (i:=12) 0x6 0x1;obtain⟨d13,e13,o13⟩:=fJ hok (i:=13) 0x6 0x1;obtain⟨o12a,o12b⟩:=o12;obtain⟨o13a,o13b⟩:=o13;refine⟨_,rfl,a,_,_,_,rfl,rfl,hS,RB,_,_,rfl,rfl,(by show(0:Int)<200;decide),_,_,rfl,rfl,_,rfl,a,_,_,_,rfl,rfl,hS,RB,_,_,rfl,rfl,(by show(0:Int)<9;decide),_,_,rfl,rfl,_,rfl,a,_,_,_,rfl,rfl,hS,RB,_,_,rfl,rfl,(by show(0:Int)<50;decide),_,_,rfl,rfl,small 0x8,fun l hl=>?_⟩
 apply 0o1 H l hl s1 k1 H1
 have S1:=s1.seq hS;obtain⟨x,hx,hm⟩:=jj (xs:=[V.int (7+Rp%200),.int (1+Rp%9),.int (9999-Rp%50),.int 40]) (i:=d13%4) 0x1 (by simp;lia);obtain⟨wd,rfl,w1,w2⟩:∃wd:Int,x=.int wd/\1<=wd/\wd<=9999:=by
  simp only[A0c,A0j,A0V]at hm;rcases hm with rfl|rfl|rfl|rfl
  ·exact⟨_,rfl,by lia,by lia⟩
  ·exact⟨_,rfl,by lia,by lia⟩
  ·exact⟨_,rfl,by lia,by lia⟩
  ·exact⟨_,rfl,by lia,by lia⟩
 refine⟨_,rfl,a,_,_,_,rfl,rfl,S1,e13,_,_,rfl,rfl,(by show(0:Int)<4;decide),l,_,_,_,rfl,rfl,bF.of k1,hx,?_⟩
 refine⟨_,rfl,_,rfl,_,rfl,a,_,rfl,S1,fun p1 hp1=>?_⟩;have c1:gH 0x44 (some 8) (some 12)=((fs.drop 8).take 4).map V.int:=ur (i:=8) (j:=12) 0x6 0x1;rw[c1];have s2:=s1.trans (aJ hp1 (.lst (((fs.drop 8).take 4).map V.int)));refine⟨p1,_,9,rfl,bF.of ao,by rw[A0T,A1l];lia,Dr hok,by decide,by decide,fun la H2 ls s12 hla hla' hll hln hnd=>?_⟩;have O1:=s2.trans s12;have S2:=O1.seq hS;refine⟨_,rfl,a,_,_,_,rfl,rfl,S2,e13,_,_,rfl,rfl,⟨by decide,by decide⟩,_,_,rfl,rfl,(by show(0:Int)<4;decide),rfl,_,rfl,?_⟩
 refine gA (fun _=>?_) (fun _=>?_)
 ·refine⟨_,rfl,_,rfl,_,rfl,_,rfl,_,rfl,la,_,rfl,bF.of hla',by decide,?_,fun p2 hp2=>?_⟩
  ·unfold wB;rw[bY,show ls.length=9 from hll,idx9]
   exact A0L (List.length_filterMap_le _ _) 0x6
  have ep:wB (ls.map V.str) (some 8) (some 2) (some (-1))=([8,7,6,5,4,3].filterMap (ls[·]?)).map V.str:=by
   unfold wB;rw[bY,show ls.length=9 from hll,idx9]
   obtain⟨a,b,c,d,e,f,g,i,j,rfl⟩:=nine (show ls.length=9 from hll)
   rfl
  rw[ep];have s3:=aJ hp2 (.lst (([8,7,6,5,4,3].filterMap (ls[·]?)).map V.str));refine⟨_,rfl,_,rfl,small 0x8,fun r hr0=>?_⟩;have s4:=aJ hr0 (.tup [.ref p2,.ref la,.int wd]);refine k r p2 la ([8,7,6,5,4,3].filterMap (ls[·]?)) ls wd _ ((O1.trans s3).trans s4) ⟨ao,s4 _ _ ao,s4 _ _ (s3 _ _ hla'),?_,hll,?_,?_,hln,w1,w2,hnd⟩
  ·obtain⟨a,b,c,d,e,f,g,i,j,rfl⟩:=nine (show ls.length=9 from hll)
   rfl
  ·obtain⟨a,b,c,d,e,f,g,i,j,rfl⟩:=nine (show ls.length=9 from hll)
   show[j,i,g,f,e,d].Nodup
   simp only[A0z,A0c,A0j,A0V,A3v,A4r,and_true,not_false_eq_true]at hnd ⊢;obtain⟨_,_,_,h4,h5,h6,h7,h8⟩:=hnd;refine⟨⟨A0k h8,A0k h7.2,A0k h6.2.2,A0k h5.2.2.2,A0k h4.2.2.2.2⟩,⟨A0k h7.1,A0k h6.2.1,A0k h5.2.2.1,A0k h4.2.2.2.1⟩,⟨A0k h6.1,A0k h5.2.1,A0k h4.2.2.1⟩,⟨A0k h5.1,A0k h4.2.1⟩,A0k h4.1⟩
  ·intro z hz;obtain⟨i,_,hi⟩:=A4h.mp hz;exact hln z (oF hi)
 ·refine⟨_,rfl,_,rfl,_,rfl,a,_,rfl,S2,fun p2 hp2=>?_⟩;have c2:gH 0x44 (some 4) (some 8)=((fs.drop 4).take 4).map V.int:=ur (i:=4) (j:=8) 0x6 0x1;rw[c2];have s3:=aJ hp2 (.lst (((fs.drop 4).take 4).map V.int));refine⟨p2,_,6,rfl,bF.of ao,by rw[A0T,A1l];lia,Dr hok,by decide,by decide,fun me H3 ms Wz hme hme' hlm hmn hmd=>?_⟩;refine⟨_,rfl,_,rfl,small 0x8,fun r hr0=>?_⟩;have s4:=aJ hr0 (.tup [.ref me,.ref la,.int wd]);exact k r me la ms ls wd _ (((O1.trans s3).trans Wz).trans s4) ⟨ao,s4 _ _ hme',s4 _ _ (Wz _ _ (s3 _ _ hla')),hlm,hll,hmd,hmn,hln,w1,w2,hnd⟩
def scLf:aX ["_law_book_here","_law_men","_law_man","_law_number","_law_some"] A5t (aH sLf):=0x0
def a0A:Scope:={kind:=.function,names:=[0x40,0x46,("_law_man",.free)],isGenerator:=false,isCoroutine:=false}
def a0B:cM ["_law_book_here","_law_men","_law_man","_law_number","_law_some"] (aH sLf) a0A A5v ["_law_man"] [2]:=0x7
def a0C:((A5v:List Str)++(["_law_man"]:List Str)).Nodup:=by decide+kernel
def a0D(F:gF K "_law_lord_for" "_law_lord_for" sLf f fd)(ml:mg "len"=none)(G1:aP P w K mg base bV 2 g1 d1 A5h Nh)(M1:Ms K mg "_law_bound_to" g1 d1 A5h):aP P w K mg base bV 3 f fd A5t (WW K):=by
 refine F.ok scLf 0x3 0x5;obtain⟨q,es,ks,me,ms,m,n,rfl,ap,bk,W,hl,hme,hml,hm,k⟩:=h;refine⟨_,(aq (je (i:=4) rfl a0B (eU (aO nW (aO nW (aO Vb (aZ G1 hr rfl M1.m M1.k M1.b .nil aU (aj 0x11 0x5D)) au) 0xE) (dZ 0x94))) (fun s H fp C'=>⟨bf (i:=0) a0C rfl 0x9,fM (aQ lD 0x11 0xE 0x7C),pv 0⟩) scLf.nd rfl 0x9)
  (aF (bh (aK aM (pv 4) (aO bL 0x70 (aY dh rfl ml A1m (aj (pv 4) aC))) 0x2)))),?_⟩
 refine⟨_,rfl,_,rfl,q,es,ks,m,rfl,ap,bk,W,hl,fun r1 ss H1 s1 hr1 WD hss=>?_⟩;refine⟨r1,3,_,rfl,rfl,WD,by decide,by decide,(by rw[bY];exact small (by show ss.length*3<=_;lia)),fun r2 hr2=>?_⟩
 have er:(List.replicate (3:Int).toNat 0x2C).flatten=(ss++ss++ss).map V.str:=by
  show(List.replicate 3 0x2C).flatten=_
  simp[List.replicate]
 rw[er];have s2:=s1.trans (aJ hr2 (.lst ((ss++ss++ss).map V.str)));have k2:(upd H1 r2 (.lst ((ss++ss++ss).map V.str))) r2=some (.lst ((ss++ss++ss).map V.str)):=ao;generalize upd H1 r2 (.lst ((ss++ss++ss).map V.str))=H2 at s2 k2 ⊢;have l3:(ss++ss++ss).length<=200:=by simp;lia
 generalize ss++ss++ss=Ds at k2 l3;refine⟨_,rfl,r2,me,_,_,rfl,rfl,k2,s2 _ _ hme,(by rw[bY,bY];exact small 0x1),fun r3 vP=>?_⟩;have e3:Ds.map V.str++ms.map V.str=(Ds++ms).map V.str:=by rw[lN]
 rw[e3];have s3:=s2.trans (aJ vP (.lst ((Ds++ms).map V.str)));have k3:(upd H2 r3 (.lst ((Ds++ms).map V.str))) r3=some (.lst ((Ds++ms).map V.str)):=ao;generalize upd H2 r3 (.lst ((Ds++ms).map V.str))=H3 at s3 k3 ⊢;refine⟨small 0x8,fun r4 Ih=>?_⟩;have s4:=aJ Ih (.lst [.str ""]);refine⟨r3,r4,_,_,rfl,rfl,s4 _ _ k3,ao,(by rw[bY,lG,A0w];exact small 0x1),fun r5 Fx=>?_⟩;have e5:(Ds++ms).map V.str++[V.str ""]=(Ds++ms++[("":Str)]).map V.str:=by rw[lN (l₂:=[("":Str)])];rfl
 rw[e5];have s5:=(s3.trans s4).trans (aJ Fx (.lst ((Ds++ms++[("":Str)]).map V.str)));have k5:(upd (upd H3 r4 (.lst [.str ""])) r5 (.lst ((Ds++ms++[("":Str)]).map V.str))) r5=some (.lst ((Ds++ms++[("":Str)]).map V.str)):=ao;generalize upd (upd H3 r4 (.lst [.str ""])) r5 (.lst ((Ds++ms++[("":Str)]).map V.str))=H5 at s5 k5 ⊢;have l5:(Ds++ms++[("":Str)]).length<=300:=by simp;lia
 have in5:("":Str)∈Ds++ms++[("":Str)]:=A0H _ (A0e.mpr rfl);generalize Ds++ms++[("":Str)]=xs at k5 l5 in5;refine⟨r5,rfl,⟨_,bF.of k5⟩,fun D hD=>dR (xs:=xs) (fun x=>!decide (x=m)) V.str (bF.of k5) hD 0x1 0x83 (fun Hz sz gJ=>?_)⟩
 ·have hAB:=hAB _ 0x41;refine⟨Kp.set rfl 0x39,_,rfl,_,rfl,rfl,_,rfl,?_⟩;rw[dU];refine gA 0x24 0x24
  ·rw[A0i c]at hAB;exact⟨_,rfl,hAB⟩
  ·rw[A0f c]at hAB;exact hAB
 ·have hin:("":Str)∈xs.filter fun x=>!decide (x=m):=A0y.mpr ⟨in5,by rw[A0K (A0k hm)];rfl⟩;have hpos:0<(xs.filter fun x=>!decide (x=m)).length:=A2O hin;generalize(xs.filter fun x=>!decide (x=m))=zs at gJ hpos;refine⟨_,rfl,_,rfl,_,rfl,D,_,rfl,.inl (bF.of gJ),_,_,rfl,rfl,(by rw[bY];show(0:Int)<((zs.length:Nat):Int);lia),?_⟩
  have p0:=A0P n (show((0x73).length:Int)≠0 by rw[bY];lia)
  have p1:=A0x n (show(0:Int)<((0x73).length:Int) by rw[bY];lia)
  obtain⟨v,hv,hvm⟩:=jj (xs:=zs.map V.str) p0 p1;obtain⟨z,_,rfl⟩:=A0h.mp hvm;exact⟨D,_,_,_,rfl,rfl,bF.of gJ,hv,k z Hz (s5.trans sz)⟩
end M
namespace L2
open PySem PySem.Spec PyProof.Rows PySem.W
def iJ(h:X.K=K:=by rfl):mQ X (compareOp .NotIn) (rIn K true):=h▸ wV
def WX:bootBuiltins "min"=some (.builtin "min"):=by decide+kernel
def grab{a b:TS}{D:Ends}(Pv:St->Hp->Prop)(h2:∀σ' H',Pv σ' H'->b D σ' H')(h1:(∀σ' H',Pv σ' H'->b D σ' H')->a {D with nx:=fun σ' H'=>b D σ' H'} σ H):GR a b D σ H:=h1 h2
end L2
namespace M
open PySem L2 PyProof.Rows
abbrev O2:Stmt:=top 34
def rB(zs:List Str)(i:Int):Str:=match oG 0x73 i with|some (.str z)=>z|_=>""
def dF(ds:List Int)(i:Int):Int:=match oG (ds.map V.int) i with|some (.int z)=>z|_=>0
def mH{i:Int}(h:oG 0x73 i=some (.str z)):rB zs i=z:=by unfold rB;rw[h]
def iu{ds:List Int}{i z:Int}(h:oG (ds.map V.int) i=some (.int z)):dF ds i=z:=by unfold dF;rw[h]
def uM(es:List aL)(e:Str):Int:=match(bH (lF es) 0x15).getD (.int 0)with| .int v=>v|_=>0
open Classical in
noncomputable def O4 (zs:List Str):List Str:=if h:∃ts:List Str,ts.Perm zs/\sortedS ts=true then h.choose else[]
def O5(p:ts.Perm zs)(s:sortedS ts=true):ts=O4 zs:=by
 have h:∃ts:List Str,ts.Perm zs/\sortedS ts=true:=⟨ts,p,s⟩;unfold O4;rw[A4G h];exact lA (p.trans h.choose_spec.1.symm) s h.choose_spec.2
noncomputable def O6 (nm ls:List Str) (d:Int->Int):Str:=if d 7%12>9 then rB (""::ls) (d 1%10)else rB (O4 nm) (d 1%(((O4 nm).map V.str).length:Int))
def Yi(ks ls:List Str):List Str:=ls.filter fun x=>!decide (x∈ks)
def rNew(ks ls:List Str)(d:Int->Int):Str:=if d 7%12>9 then rB ls (d 3%((ls.map V.str).length:Int))else rB (Yi ks ls++ls) (d 3%(if(((Yi ks ls).map V.str).length:Int)>1 then(((Yi ks ls).map V.str).length:Int)else 1))
def Gk(wv:Int)(d:Int->Int):Int:=if d 7%12=9 then(if wv+1+d 4%2<9999 then wv+1+d 4%2 else 9999)else 1+d 4%(if wv>1 then wv else 1)
def rSr(d:Int->Int):Int:=match oG [V.int 0,.int 1,.int (d 5%30),.int (9999-d 5%9)] (d 6%4)with|some (.int z)=>z|_=>0
def O7(est nw man:Str)(many sr way:Int):Option Rw:=
 if way<4\/(est=""/\way∈[(4:Int),5,6,9,12])then some (.grant est nw man many sr)else if way=4\/way=12 then some (.part est nw man many)else if way<7 then some (.convey est man)else if way=9 then some (.jY est)else none
noncomputable def J9 (nm:List Str) (ow:Str->Int) (ks ms ls:List Str) (d:Int->Int):Option Rw:=O7 (O6 nm ls d) (rNew ks ls d) (rB ms (d 2%((ms.map V.str).length:Int))) (Gk (ow (O6 nm ls d)) d) (rSr d) (d 0%13)
def WY(ls:List Str)(o:Option Rw)(xs:List V):Prop:=match o with
 |some bU=>xs=bU.vs/\bU.Ok ls
 |none=>∃(k z:Str)(rest:List V),xs=.str k::.int 0::.str z::rest/\k∈(A5G:List Str)
def RD(h:Int)(l:List Int):inV (V.int h) (l.map V.int)=decide (h∈l):=by
 unfold inV
 induction l with
 |nil=>rfl
 | cons x r ih=>
  rw[A0r,A2T,ih]
  show((x==h)||decide (h∈r))=_
  rw[A2g,Bool.or_eq_true,A2P,A2P,A0c,A3s]
  constructor
  ·rintro(e|e)
   ·exact .inl e.symm
   ·exact .inr e
  ·rintro(e|e)
   ·exact .inl e.symm
   ·exact .inr e
def X3{h:Int}(l:List Int){A:Prop}(h1:h∈l->A)(h2:h∉l->B):if(if(false:Bool)=true then !inV (V.int h) (l.map V.int)else inV (V.int h) (l.map V.int))=true then A else B:=by
 rw[A0f A0n,RD];exact gA (fun c=>h1 (yI c)) fun c=>h2 fun z=>c (A0t z)
def eq_int{h l:Int}{A:Prop}(h1:h=l->A)(h2:h≠l->B):if decide (V.int h=V.int l)=true then A else B:=by
 refine gA (fun c=>h1 ?_) fun c=>h2 fun z=>c (A0t (by rw[z]));have:=yI c;injection this
def eq_str{h l:Str}{A:Prop}(h1:h=l->A)(h2:h≠l->B):if decide (V.str h=V.str l)=true then A else B:=by
 refine gA (fun c=>h1 ?_) fun c=>h2 fun z=>c (A0t (by rw[z]));have:=yI c;injection this
def jw{i:Int}(h0:0<=i)(h1:i<zs.length):∃z,oG 0x73 i=some (V.str z)/\z∈zs:=by
 obtain⟨v,hv,hm⟩:=jj (xs:=zs.map V.str) h0 (by rw[bY];exact h1);obtain⟨z,hz,rfl⟩:=A0h.mp hm;exact⟨z,hv,hz⟩
def yx{f:aL->V}(es:List aL):(0x56).map (fun x=>kV x.1)=(0x31).map V.str:=by rw[A0N,A0N];rfl
inductive O8(K:W.Frag)(vs:List V)(H:Hp)(Q:VK)(cP:XK):Prop
 |mk(q:Ad)(es:List aL)(ks:List Str)(p d m la:Addr)(ms ls:List Str)(wd:Int)(ds:List Int)(_:vs=[.ref q.B,.ref p,.ref d,.int 0])(_:Ap q)(_:Bk q H es ks)(_:WF es)(_:es.length<64)(_:nO H p m la ms ls wd)(_:bF K H d (ds.map V.int))(_:ds.length=8)(_:(∀v∈ds,tR v))(_:∀r xs H',Same H H'->H' r=some 0x52->WY ls (J9 0x31 (uM es) ks ms ls (dF ds)) xs->Q 0x6E H'):O8 K vs H Q cP
section
def jx:aX A5e A5r (aH O2):=0x0
def a0E:Scope:={kind:=.function,names:=[0x40,0x46,0x4A],isGenerator:=false,isCoroutine:=false}
def a0F:cM A5e (aH O2) a0E A5v A5u [0]:=0x7
def a0G:((A5v:List Str)++(A5u:List Str)).Nodup:=by decide+kernel
def a0H:Scope:={kind:=.function,names:=[0x40,0x46,("_law_man",.free)],isGenerator:=false,isCoroutine:=false}
def a0I:cM A5e (aH O2) a0H A5v ["_law_man"] [8]:=0x7
def a0J:((A5v:List Str)++(["_law_man"]:List Str)).Nodup:=by decide+kernel
def X4(F:gF K "_law_row" "_law_row" O2 f fd)(ms:mg "sorted"=none)(X5:mg "list"=none)(mn:mg "len"=none)(mmax:mg "max"=none)(mmin:mg "min"=none) 
  (G1:aP P w K mg base bV 3 g1 d1 A5t (WW K))(M1:Ms K mg "_law_lord_for" g1 d1 A5t):aP P w K mg base bV 4 f fd A5r (O8 K):=by
 refine F.ok jx 0x3 0x5;obtain⟨q,es,ks,p,d,m,la,mz,ls,wd,ds,rfl,ap,bk,W,hl,pl,hS,hdl,hdo,k⟩:=h;refine⟨_,(aq (aW (i:=4) jx.nd rfl 0x9 0x19)
  (aq (aW (i:=5) jx.nd rfl 0x9 0x19)
  (aq (aW (i:=6) jx.nd rfl 0x9 (aY dw rfl ms fB (aj (cV (oE hr.hd) rfl X5 kI (aj 0x1A aC)) aC)))
  (aq (aW (i:=7) jx.nd rfl 0x9 (aK aM (pv 6) (aO bL 0x27 (aY dh rfl mn A1m (aj (pv 6) aC))) 0x2))
  (aq (aW (i:=8) jx.nd rfl (Or.inr rfl) (aK aM (pv 4) (aO bL 0x27 (aY dh rfl mn A1m (aj (pv 4) aC))) 0x2))
  (aq (je (i:=9) rfl a0F (eU (pv 5)) (fun s H fp C'=>⟨bf (i:=0) a0G rfl 0x9,fM (aQ (iJ (K:=K)) 0x11 0x29 0x13),0x11⟩) jx.nd rfl 0x9)
  (aq (aW (i:=10) jx.nd rfl 0x9 (aK aM (aO nW (pv 9) (pv 5)) (aO bL 0x27 (aY (uX rfl) rfl mmax K7 (aj au (aj (aY dh rfl mn A1m (aj (pv 9) aC)) aC)))) 0x2))
  (aq (bM (aQ Ef (aO bL 0x27 au) au 0x7C) (aq (aW (i:=10) jx.nd rfl 0x9 (aK aM (pv 5) (aO bL 0x27 (aY dh rfl mn A1m (aj (pv 5) aC))) 0x2))
  (aF (aW (i:=7) jx.nd rfl 0x9 (aK aM (aO nW (dZ 0x94) (pv 5)) (aO bL 0x27 au) 0x2)))) aV)
  (aq (aW (i:=11) jx.nd rfl 0x9 (Kl 0x17 0x1A (pv 7) au ⟨rfl,rfl,rfl,rfl⟩))
  (aq (aW (i:=12) jx.nd rfl 0x9 (aO cL au (aO bL 0x27 (aY (uX rfl) rfl mmax K7 (aj au (aj (pv 11) aC))))))
  (aq (bM (aQ cU (aO bL 0x27 au) au 0x7C) (aF (aW (i:=12) jx.nd rfl 0x9 (aY (Hf rfl) rfl mmin WX (aj au (aj (aO cL (aO cL (pv 11) au) (aO bL 0x27 au)) aC))))) aV)
  (aq (aW (i:=13) jx.nd rfl 0x9 (aO bL 0x27 au))
  (aq (bM (PW.pt (oM (aQ yU (pv 13) au 0x7C) (kj (PW.pt (q9 (aQ cU (pv 7) aG 0x7C) (mO (aQ fQ (pv 13) (cB (aj au (aj au (aj au (aj au 0x5A))))) 0x13))))))) (aF (bh (cB (aj aG (aj 0x70 (aj (pv 7) (aj (pv 10) (aj (pv 8) (aj (pv 12) (aj (aK aM (dZ (aj au (aj au (aj (aO bL 0x27 au) (aj (aO nU au (aO bL 0x27 au)) aC))))) (aO bL 0x27 au) 0x2) aC)))))))))) aV)
  (aq (bM (PW.pt (oM (aQ cU (pv 13) au 0x7C) (kj (aQ cU (pv 13) au 0x7C)))) (aF (bh (cB (aj aG (aj 0x70 (aj (pv 7) (aj (pv 10) (aj (pv 8) (aj (pv 12) aC))))))))) aV)
  (aq (bM (aQ yU (pv 13) au 0x7C) (aF (bh (cB (aj aG (aj 0x70 (aj (pv 7) (aj (pv 8) aC))))))) aV)
  (aq (bM (PW.pt (oM (aQ cU (pv 13) au 0x7C) (kj (aQ cU (pv 13) au 0x7C)))) (aq (je (i:=14) rfl a0I (eU (pv 4)) (fun s H fp C'=>⟨bf (i:=0) a0J rfl 0x9,fM (aQ lD 0x11 0xE 0x7C),0x11⟩) jx.nd rfl 0x9)
  (aF (bh (cB (aj aG (aj 0x70 (aj (pv 8) (aj (aK aM (pv 14) (aO bL 0x27 (aY dh rfl mn A1m (aj (pv 14) aC))) 0x2) aC)))))))) aV)
  (aq (bM (aQ cU (pv 13) au 0x7C) (aF (bh (cB (aj aG (aj 0x70 (aj (pv 8) (aj (aZ G1 hr rfl M1.m M1.k M1.b .nil aU (aj 0x11 (aj (pv 4) (aj (pv 8) (aj 0x27 aC))))) aC))))))) aV)
  (aq (bM (aQ cU (pv 13) au 0x7C) (aF (bh (cB (aj aG (aj 0x70 (aj (pv 7) aC)))))) aV)
  (aF (bh (cB (aj aG (aj 0x70 (aj (pv 8) aC)))))))))))))))))))))))),?_⟩
 obtain⟨d0,e0,o0⟩:=fJ hdo (i:=0) 0x6 0x1;obtain⟨o0a,o0b⟩:=o0;obtain⟨d1,e1,o1⟩:=fJ hdo (i:=1) 0x6 0x1;obtain⟨o1a,o1b⟩:=o1;obtain⟨d2,e2,o2⟩:=fJ hdo (i:=2) 0x6 0x1;obtain⟨o2a,o2b⟩:=o2;obtain⟨d3,e3,o3⟩:=fJ hdo (i:=3) 0x6 0x1;obtain⟨o3a,o3b⟩:=o3;obtain⟨d4,e4,o4⟩:=fJ hdo (i:=4) 0x6 0x1;obtain⟨o4a,o4b⟩:=o4;obtain⟨d5,e5,o5⟩:=fJ hdo (i:=5) 0x6 0x1;obtain⟨o5a,o5b⟩:=o5;obtain⟨d6,e6,o6⟩:=fJ hdo (i:=6) 0x6 0x1;obtain⟨o6a,o6b⟩:=o6;obtain⟨d7,e7,o7⟩:=fJ hdo (i:=7) 0x6 0x1;obtain⟨o7a,o7b⟩:=o7;have lm:=pl.lm;have ll:=pl.ll;have npos:0<es.length:=by
  obtain⟨c,r,e,_⟩:=W.hd;rw[e];simp
 refine⟨_,rfl,p,_,_,_,rfl,rfl,bI.of pl.r,aD (j:=0) rfl,?_⟩;refine⟨_,rfl,p,_,_,_,rfl,rfl,bI.of pl.r,aD (j:=1) rfl,?_⟩;refine⟨_,rfl,q.B,_,rfl,bk.gl,q.l,_,rfl,bk.l,fun t1 ht1=>?_⟩;rw[yx];have s1:=aJ ht1 0x59;refine⟨t1,nms es,rfl,bF.of ao,by rw[bY];exact hl,fun th ts hth hpt hsd=>?_⟩;have s2:=s1.trans (aJ hth 0x32);have k2:(upd (upd H t1 0x59) th 0x32) th=some 0x32:=ao;generalize upd (upd H t1 0x59) th 0x32=H2 at s2 k2 ⊢;have tl:ts.length=es.length:=by rw[hpt.length_eq,bY]
 have ets:=O5 hpt hsd;have S2:=s2.seq hS;obtain⟨est0,Jg,_⟩:=jw (zs:=ts) (i:=d1%((ts.map V.str).length:Int)) (A0P _ (by rw[bY];lia)) (by have:=A0x d1 (show(0:Int)<((ts.map V.str).length:Int) by rw[bY];lia);rw[bY]at this ⊢;exact this)
 refine⟨_,rfl,_,rfl,d,_,_,_,rfl,rfl,S2,e1,_,rfl,th,_,rfl,.inl (bF.of k2),_,_,rfl,rfl,(by rw[bY];show(0:Int)<((ts.length:Nat):Int);lia),th,_,_,_,rfl,rfl,bF.of k2,Jg,?_⟩
 have km2:=s2 _ _ pl.m;have Pr:=s2 _ _ pl.la;obtain⟨man,hm0,hmm⟩:=jw (zs:=mz) (i:=d2%((mz.map V.str).length:Int)) (A0P _ (by rw[bY];lia)) (by have:=A0x d2 (show(0:Int)<((mz.map V.str).length:Int) by rw[bY];lia);rw[bY]at this ⊢;exact this)
 refine⟨_,rfl,_,rfl,d,_,_,_,rfl,rfl,S2,e2,_,rfl,m,_,rfl,.inl (bF.of km2),_,_,rfl,rfl,(by rw[bY];show(0:Int)<((mz.length:Nat):Int);lia),m,_,_,_,rfl,rfl,bF.of km2,hm0,?_⟩
 have RG:man≠"":=((pl.om man hmm).ne).1;refine⟨_,rfl,la,rfl,⟨_,bF.of Pr⟩,fun D hD=>dR (xs:=ls) 0x2E V.str (bF.of Pr) hD 0x1 0x83 (fun Hz sz gJ=>?_)⟩
 ·have hAB:=hAB _ 0x41;have bz:=bk.same (s2.trans sz);refine⟨Kp.set rfl 0x39,_,rfl,_,rfl,q.B,_,rfl,bz.gk,q.kn,_,rfl,.inl (bF.of bz.k),rfl,iC _,_,rfl,?_⟩
  show if(!inV (V.str x) (ks.map V.str))=true then _ else _
  rw[nA];refine gA 0x24 0x24
  ·rw[A0i c]at hAB;exact⟨_,rfl,hAB⟩
  ·rw[A0f c]at hAB;exact hAB
 have Dt:∀z∈ls.filter 0x2E,z∈ls:=fun z hz=>(A0y.mp hz).1;have WQ:(ls.filter fun x=>!decide (x∈ks)).length<=9:=by have:=A0s 0x2E ls;lia
 generalize hfr:(ls.filter fun x=>!decide (x∈ks))=fr at gJ Dt WQ;have s3:=s2.trans sz;have S3:=s3.seq hS;have kl3:=sz _ _ Pr;refine⟨_,rfl,_,rfl,D,la,_,_,rfl,rfl,gJ,kl3,(by rw[bY,bY];exact small 0x1),fun c1 hc1=>?_⟩;have e1':fr.map V.str++ls.map V.str=(fr++ls).map V.str:=by rw[lN]
 rw[e1'];have s4:=s3.trans (aJ hc1 0x64);have k4:(upd Hz c1 0x64) c1=some 0x64:=ao;have kD4:=(aJ hc1 0x64) _ _ gJ;have kl4:=(aJ hc1 0x64) _ _ kl3;generalize upd Hz c1 0x64=H4 at s4 k4 kD4 kl4 ⊢;have S4:=s4.seq hS;have mxp:(0:Int)<(if((fr.map V.str).length:Int)>1 then((fr.map V.str).length:Int)else 1):=by split<;>lia
 have mxl:(if((fr.map V.str).length:Int)>1 then((fr.map V.str).length:Int)else 1)<=((fr++ls).length:Int):=by
  rw[bY,lG]
  split<;>lia
 obtain⟨nw0,hn0,hnm⟩:=jw (zs:=fr++ls) (i:=d3%(if((fr.map V.str).length:Int)>1 then((fr.map V.str).length:Int)else 1)) (A0P _ 0x1) (by have:=A0x d3 mxp;lia)
 have hnw0:nw0∈ls:=by
  rcases A0u.mp hnm with z|z
  ·exact Dt _ z
  ·exact z
 refine⟨_,rfl,d,_,_,_,rfl,rfl,S4,e3,_,rfl,D,_,rfl,.inl (bF.of kD4),_,_,rfl,_,_,rfl,rfl,mxp,c1,_,_,_,rfl,rfl,bF.of k4,hn0,?_⟩;dsimp only[iW];refine grab (a:=Py _ _ _) (fun σ' Hx=>∃est nw,σ'=[some (.ref q.B),some 0x3E,some (.ref d),some (.int 0),some (.ref m),some (.ref la),some (.ref th),some (.str est),some (.str man),some 0x86,some (.str nw),none,none,none,none]/\Same H Hx/\nw∈ls/\est=O6 0x31 ls (dF ds)/\nw=rNew ks ls (dF ds)) (fun σ' Hx hp=>?_) (fun go=>?_)
 rotate_left
 ·refine⟨_,rfl,d,_,_,_,rfl,rfl,S4,e7,_,_,rfl,rfl,(by show(0:Int)<12;decide),_,_,rfl,rfl,_,rfl,?_⟩
  refine gA (fun c9=>?_) (fun c9=>?_)
  ·obtain⟨nw1,hn1,hnm1⟩:=jw (zs:=ls) (i:=d3%((ls.map V.str).length:Int)) (A0P _ (by rw[bY];lia)) (by have:=A0x d3 (show(0:Int)<((ls.map V.str).length:Int) by rw[bY];lia);rw[bY]at this ⊢;exact this)
   refine⟨_,rfl,_,rfl,d,_,_,_,rfl,rfl,S4,e3,_,rfl,la,_,rfl,.inl (bF.of kl4),_,_,rfl,rfl,(by rw[bY];show(0:Int)<((ls.length:Nat):Int);lia),la,_,_,_,rfl,rfl,bF.of kl4,hn1,?_⟩
   refine⟨small 0x8,fun c2 hc2=>?_⟩;have sc2:=aJ hc2 (.lst [.str ""]);refine⟨_,rfl,c2,la,_,_,rfl,rfl,ao,sc2 _ _ kl4,(by rw[bY,A0w];exact small 0x1),fun c3 hc3=>?_⟩;have e3':[V.str ""]++ls.map V.str=(("":Str)::ls).map V.str:=rfl;rw[e3'];have sc3:=sc2.trans (aJ hc3 (.lst ((("":Str)::ls).map V.str)));have k5:(upd (upd H4 c2 (.lst [.str ""])) c3 (.lst ((("":Str)::ls).map V.str))) c3=some (.lst ((("":Str)::ls).map V.str)):=ao
   change(fun σ' H'=>_) _ _
   obtain⟨est1,he1,_⟩:=jw (zs:=("":Str)::ls) (i:=d1%10) 0x1 (by rw[rT];lia);refine⟨_,rfl,d,_,_,_,rfl,rfl,(sc3.seq S4),e1,_,_,rfl,rfl,(by show(0:Int)<10;decide),c3,_,_,_,rfl,rfl,bF.of k5,he1,?_⟩
   exact go _ _ ⟨est1,nw1,rfl,s4.trans sc3,hnm1,by unfold O6;rw[iu e7,A0i (yI c9),iu e1,mH he1],by unfold rNew;rw[iu e7,A0i (yI c9),iu e3,mH hn1]⟩
  ·exact go _ _ ⟨est0,nw0,rfl,s4,hnw0,by unfold O6;rw[iu e7,A0f (fun z=>c9 (A0t z)),<-ets,iu e1,mH Jg],by unfold rNew Yi;rw[iu e7,A0f (fun z=>c9 (A0t z)),hfr,iu e3,mH hn0]⟩
 obtain⟨est,nw,rfl,sx,hnw,eE,eN⟩:=hp;have bx:=bk.same sx;have Sx:=sx.seq hS;obtain⟨wv,hwv,w0,w1⟩:∃wv:Int,(bH (lF es) (.inr est)).getD (.int 0)=.int wv/\0<=wv/\wv<=9999:=by
  by_cases c:est∈nms es
  ·obtain⟨y,hy,rfl⟩:=cY c;rw[cu W.nd hy];have b1:=W.bnd y hy;have b2:=W.uf y hy;exact⟨y.own,rfl,by lia,by lia⟩
  ·rw[pQ c];exact⟨0,rfl,by lia,by lia⟩
 refine⟨_,rfl,q.B,_,rfl,bx.go,q.o,rfl,isD bx.o,_,rfl,_,fP.k (k:=.inr est) bx.o,?_⟩;rw[hwv];have mw:(0:Int)<(if wv>1 then wv else 1):=by split<;>lia
 have mw2:(if wv>1 then wv else 1)<=9999:=by split<;>lia
 have q40:=A0P d4 (A4P mw);have q41:=A0x d4 mw;refine⟨_,rfl,d,_,_,_,rfl,rfl,Sx,e4,_,rfl,_,_,rfl,_,_,rfl,rfl,mw,_,_,rfl,rfl,?_⟩;generalize h4:d4%(if wv>1 then wv else 1)=q4 at q40 q41 ⊢
 dsimp only[iW];refine grab (a:=Py _ _ _) (fun σ' Hy=>∃many:Int,σ'=[some (.ref q.B),some 0x3E,some (.ref d),some (.int 0),some (.ref m),some (.ref la),some (.ref th),some (.str est),some (.str man),some 0x86,some (.str nw),some (.int wv),some (.int many),none,none]/\Hy=Hx/\1<=many/\many<=9999/\many=Gk wv (dF ds)) (fun σ' Hy hp=>?_) (fun go=>?_)
 rotate_left
 ·refine⟨_,rfl,d,_,_,_,rfl,rfl,Sx,e7,_,_,rfl,rfl,(by show(0:Int)<12;decide),rfl,_,rfl,eq_int (fun c9=>?_) (fun c9=>?_)⟩
  ·refine⟨_,rfl,_,_,rfl,rfl,_,rfl,d,_,_,_,rfl,rfl,Sx,e4,_,_,rfl,rfl,(by show(0:Int)<2;decide),_,_,rfl,rfl,_,_,rfl,go _ _ ⟨_,rfl,rfl,?_,?_,by unfold Gk;rw[iu e7,A0i c9,iu e4]⟩⟩
   ·split<;>lia
   ·split<;>lia
  ·exact go _ _ ⟨_,rfl,rfl,by lia,by lia,by unfold Gk;rw[iu e7,A0f c9,iu e4,h4]⟩
 obtain⟨many,rfl,rfl,mn1,mn2,eM⟩:=hp;refine⟨_,rfl,d,_,_,_,rfl,rfl,Sx,e0,_,_,rfl,rfl,(by show(0:Int)<13;decide),?_⟩
 dsimp only[iW];have y0:=A0P d0 (show(13:Int)≠0 by decide)
 have y1:=A0x d0 (show(0:Int)<13 by decide)
 generalize hw:d0%13=way at y0 y1 ⊢;obtain⟨sr,hsr,hsm⟩:=jj (xs:=[V.int 0,.int 1,.int (d5%30),.int (9999-d5%9)]) (i:=d6%4) 0x1 (by simp;lia);obtain⟨sr,rfl,sr0,sr1⟩:∃z:Int,sr=.int z/\0<=z/\z<=9999:=by
  simp only[A0c,A0j,A0V]at hsm;rcases hsm with rfl|rfl|rfl|rfl
  ·exact⟨_,rfl,by lia,by lia⟩
  ·exact⟨_,rfl,by lia,by lia⟩
  ·exact⟨_,rfl,by lia,by lia⟩
  ·exact⟨_,rfl,by lia,by lia⟩
 have eW:uM es est=wv:=by unfold uM;rw[hwv]
 have eR:J9 0x31 (uM es) ks mz ls (dF ds)=O7 est nw man many sr way:=by
  unfold J9 rSr;rw[<-eE,<-eN,eW,<-eM,iu e2,mH hm0,iu e5,iu e6,hsr,iu e0,hw]
 rw[eR]at k;refine grab (a:=Py _ _ _) (fun σ' Hw=>σ'=[some (.ref q.B),some 0x3E,some (.ref d),some (.int 0),some (.ref m),some (.ref la),some (.ref th),some (.str est),some (.str man),some 0x86,some (.str nw),some (.int wv),some (.int many),some (.int way),none]/\Same H Hw/\4<=way/\(est=""->way∉[(4:Int),5,6,9,12])) (fun σ' Hw hp=>?_) (fun go=>?_)
 rotate_left
 ·have fin:(way<4\/(est=""/\way∈[(4:Int),5,6,9,12]))->∀{Hw:Hp},Same H Hw->∀r,Hw r=none->Q 0x6E (upd Hw r (.tup [.str "grant",.int 0,.str est,.str nw,.str man,.int many,.int sr])):=fun hgr{Hw}sw r hr0=>k r _ _ (bC sw (sw.free hr0)) ao (by unfold O7;rw[A0i hgr];exact⟨rfl,hnw,mn1,mn2,sr0,sr1⟩);refine⟨_,rfl,_,_,rfl,rfl,_,rfl,gA (fun c4=>?_) (fun c4=>?_)⟩
  ·refine dJ ⟨_,rfl,_,rfl,_,rfl,_,rfl,_,rfl,_,rfl,d,_,_,_,rfl,rfl,Sx,e5,_,_,rfl,rfl,(by show(0:Int)<30;decide),_,rfl,d,_,_,_,rfl,rfl,Sx,e5,_,_,rfl,rfl,(by show(0:Int)<9;decide),_,_,rfl,rfl,small 0x8,fun c hc=>?_⟩
   have sc:=aJ hc (.lst [.int 0,.int 1,.int (d5%30),.int (9999-d5%9)]);refine⟨_,rfl,d,_,_,_,rfl,rfl,(sc.seq Sx),e6,_,_,rfl,rfl,(by show(0:Int)<4;decide),c,_,_,_,rfl,rfl,bF.of ao,hsr,small 0x8,fun r hr0=>?_⟩
   exact fin (.inl (yI c4)) (sx.trans sc) r hr0
  ·have c4':4<=way:=by simpa using c4
   refine⟨_,rfl,rfl,_,rfl,eq_str (fun he=>?_) (fun he=>?_)⟩
   ·refine⟨_,rfl,small 0x8,fun c hc=>⟨c,_,rfl,.inr 0x66,rfl,rfl,_,rfl,X3 [4,5,6,9,12] (fun hin=>?_) (fun hin=>?_)⟩⟩
    ·have sc0:=aJ hc (.tup [.int 4,.int 5,.int 6,.int 9,.int 12]);have Sx2:=sc0.seq Sx;refine⟨_,rfl,_,rfl,_,rfl,_,rfl,_,rfl,_,rfl,d,_,_,_,rfl,rfl,Sx2,e5,_,_,rfl,rfl,(by show(0:Int)<30;decide),_,rfl,d,_,_,_,rfl,rfl,Sx2,e5,_,_,rfl,rfl,(by show(0:Int)<9;decide),_,_,rfl,rfl,small 0x8,fun c' hc'=>?_⟩
     have sc:=aJ hc' (.lst [.int 0,.int 1,.int (d5%30),.int (9999-d5%9)]);refine⟨_,rfl,d,_,_,_,rfl,rfl,(sc.seq Sx2),e6,_,_,rfl,rfl,(by show(0:Int)<4;decide),c',_,_,_,rfl,rfl,bF.of ao,hsr,small 0x8,fun r hr0=>?_⟩
     exact fin (.inr ⟨he,hin⟩) ((sx.trans sc0).trans sc) r hr0
    ·exact go _ _ ⟨rfl,sx.trans (aJ hc _),c4',fun _=>hin⟩
   ·refine bZ ?_;exact go _ _ ⟨rfl,sx,c4',fun z=>absurd z he⟩
 obtain⟨rfl,sw,c4,hcr⟩:=hp;have Sw:=sw.seq hS;have bw:=bk.same sw;have plw:=pl.same sw;have part:way∈[(4:Int),5,6,9,12]->est≠"":=fun h1 h2=>hcr h2 h1;have ngr:¬(way<4\/(est=""/\way∈[(4:Int),5,6,9,12])):=fun z=>z.elim (fun h=>by lia) fun h=>hcr h.1 h.2;unfold O7 at k;rw[A0f ngr]at k;have U8:(way=4\/way=12)->∀r,Hw r=none->Q 0x6E (upd Hw r (.tup [.str "part",.int 0,.str est,.str nw,.str man,.int many])):=fun hy r hr0=>k r _ _ (bC sw (sw.free hr0)) ao (by rw[A0i hy];exact⟨rfl,hnw,mn1,mn2,part (by rcases hy with rfl|rfl<;>decide)⟩);refine⟨_,rfl,rfl,_,rfl,eq_int (fun hy=>dJ ?_) (fun n4=>?_)⟩
 ·exact⟨_,rfl,_,rfl,_,rfl,_,rfl,_,rfl,small 0x8,U8 (.inl hy)⟩
 refine⟨_,rfl,rfl,_,rfl,eq_int (fun hy=>?_) (fun n12=>?_)⟩
 ·exact⟨_,rfl,_,rfl,_,rfl,_,rfl,_,rfl,small 0x8,U8 (.inr hy)⟩
 rw[A0f (fun z:way=4\/way=12=>z.elim n4 n12)]at k;refine⟨_,rfl,_,_,rfl,rfl,_,rfl,gA (fun c7=>?_) (fun c7=>?_)⟩
 ·have c7':way<7:=by simpa using c7
  refine⟨_,rfl,_,rfl,_,rfl,small 0x8,fun r hr0=>?_⟩;have h56:way∈[(4:Int),5,6,9,12]:=by
   have:way=5\/way=6:=by lia
   rcases this with rfl|rfl<;>decide
  exact k r _ _ (bC sw (sw.free hr0)) ao (by rw[A0i c7'];exact⟨rfl,part h56⟩)
 have c7':7<=way:=by simpa using c7
 rw[A0f (show ¬way<7 by lia)]at k
 have U9:∃other,other∈mz/\other≠man:=by
  have h2:∃a b r,mz=a::b::r:=by
   match mz,lm with
   |a::b::r,_=>exact⟨a,b,r,rfl⟩
  obtain⟨a,b,r,rfl⟩:=h2;have hab:a≠b:=fun z=>(A0z.mp pl.nm).1 (by rw[z];exact A0l)
  by_cases c:a=man
  ·exact⟨b,by simp,fun z=>hab (c.trans z.symm)⟩
  ·exact⟨a,by simp,c⟩
 refine⟨_,rfl,rfl,_,rfl,eq_int (fun hy=>dJ ?_) (fun n7=>?_)⟩
 ·refine⟨_,rfl,m,rfl,⟨_,bF.of plw.m⟩,fun D2 hD2=>dR (xs:=mz) (fun x=>!decide (x=man)) V.str (bF.of plw.m) hD2 0x1 (fun x WR A B hx Jf hAB=>?_) (fun WR Jf uq=>?_)⟩
  ·have hAB:=hAB _ 0x41;refine⟨Kp.set rfl 0x39,_,rfl,_,rfl,rfl,_,rfl,?_⟩;rw[dU];refine gA 0x24 0x24
   ·rw[A0i c]at hAB;exact⟨_,rfl,hAB⟩
   ·rw[A0f c]at hAB;exact hAB
  ·obtain⟨ot,ho1,ho2⟩:=U9;have hpos:0<(mz.filter fun x=>!decide (x=man)).length:=A2O (A0y.mpr ⟨ho1,by rw[A0K ho2];rfl⟩);generalize(mz.filter fun x=>!decide (x=man))=zs at uq hpos;obtain⟨oth,hoa,_⟩:=jw (zs:=zs) (i:=d3%((0x73).length:Int)) (A0P _ (by rw[bY];lia)) (by have:=A0x d3 (show(0:Int)<((0x73).length:Int) by rw[bY];lia);rw[bY]at this ⊢;exact this)
   have X6:=sw.trans Jf;refine⟨_,rfl,_,rfl,_,rfl,_,rfl,d,_,_,_,rfl,rfl,(X6.seq hS),e3,_,rfl,D2,_,rfl,.inl (bF.of uq),_,_,rfl,rfl,(by rw[bY];show(0:Int)<((zs.length:Nat):Int);lia),D2,_,_,_,rfl,rfl,bF.of uq,hoa,small 0x8,fun r hr0=>?_⟩
   exact k r _ _ (bC X6 (X6.free hr0)) ao (by rw[A0f 0x1];exact⟨"heir",man,_,rfl,by decide+kernel⟩)
 refine⟨_,rfl,rfl,_,rfl,eq_int (fun hy=>?_) (fun n11=>?_)⟩
 ·refine⟨_,rfl,m,rfl,⟨_,bF.of plw.m⟩,fun D2 hD2=>dR (xs:=mz) (fun x=>!decide (x=man)) V.str (bF.of plw.m) hD2 0x1 (fun x WR A B hx Jf hAB=>?_) (fun WR Jf uq=>?_)⟩
  ·have hAB:=hAB _ 0x41;refine⟨Kp.set rfl 0x39,_,rfl,_,rfl,rfl,_,rfl,?_⟩;rw[dU];refine gA 0x24 0x24
   ·rw[A0i c]at hAB;exact⟨_,rfl,hAB⟩
   ·rw[A0f c]at hAB;exact hAB
  ·obtain⟨ot,ho1,ho2⟩:=U9;have hpos:0<(mz.filter fun x=>!decide (x=man)).length:=A2O (A0y.mpr ⟨ho1,by rw[A0K ho2];rfl⟩);generalize(mz.filter fun x=>!decide (x=man))=zs at uq hpos;obtain⟨oth,hoa,_⟩:=jw (zs:=zs) (i:=d3%((0x73).length:Int)) (A0P _ (by rw[bY];lia)) (by have:=A0x d3 (show(0:Int)<((0x73).length:Int) by rw[bY];lia);rw[bY]at this ⊢;exact this)
   have X6:=sw.trans Jf;refine⟨_,rfl,_,rfl,_,rfl,_,rfl,d,_,_,_,rfl,rfl,(X6.seq hS),e3,_,rfl,D2,_,rfl,.inl (bF.of uq),_,_,rfl,rfl,(by rw[bY];show(0:Int)<((zs.length:Nat):Int);lia),D2,_,_,_,rfl,rfl,bF.of uq,hoa,small 0x8,fun r hr0=>?_⟩
   exact k r _ _ (bC X6 (X6.free hr0)) ao (by rw[A0f 0x1];exact⟨"heir",man,_,rfl,by decide+kernel⟩)
 refine⟨_,rfl,rfl,_,rfl,eq_int (fun hy=>?_) (fun n8=>?_)⟩
 ·refine⟨_,rfl,_,rfl,_,rfl,_,rfl,_,rfl,_,rfl,d,_,_,_,rfl,rfl,Sw,e3,q,es,ks,m,mz,man,d3,rfl,ap,bw,W,hl,plw.m,by lia,RG,fun z Hv sv=>⟨small 0x8,fun r hr0=>?_⟩⟩;exact k r _ _ (bC (sw.trans sv) ((sw.trans sv).free hr0)) ao (by rw[A0f 0x1];exact⟨"liege",man,_,rfl,by decide+kernel⟩)
 refine⟨_,rfl,rfl,_,rfl,eq_int (fun hy=>?_) (fun n9=>?_)⟩
 ·refine⟨_,rfl,_,rfl,small 0x8,fun r hr0=>?_⟩;exact k r _ _ (bC sw (sw.free hr0)) ao (by rw[A0i hy];exact⟨rfl,part (by rw[hy];decide)⟩)
 refine⟨_,rfl,_,rfl,small 0x8,fun r hr0=>?_⟩;exact k r _ _ (bC sw (sw.free hr0)) ao (by rw[A0f n9];exact⟨"death",man,_,rfl,by decide+kernel⟩)
abbrev Gm:Stmt:=top 39
abbrev O9:Stmt:=top 40
def frzS{t:TE}{D:Ends}(h:Qj t σ H fun v H'=>D.nx (σ.set i 0x8B) H'):WT (fun D σ H=>t σ H fun v H'=>D.nx (σ.set i 0x8B) H') D σ H:=by
 obtain⟨a,kvs,h1,h2⟩:=h;exact⟨a,kvs,h1,h2⟩
def Rw.RJ(bU:Rw):decide (bU.kind∈(A5G:List Str))=false:=by
 cases bU
 ·exact(show decide (("grant":Str)∈(A5G:List Str))=false by decide+kernel)
 ·exact(show decide (("part":Str)∈(A5G:List Str))=false by decide+kernel)
 ·exact(show decide (("convey":Str)∈(A5G:List Str))=false by decide+kernel)
 ·exact(show decide (("surrender":Str)∈(A5G:List Str))=false by decide+kernel)
noncomputable def Oa (nm:List Str) (ow:Str->Int) (ks ms ls:List Str) (d:Int->Int):Rw:=match J9 nm ow ks ms ls d with
 |some bU=>bU
 |none=>.grant (rB (O4 nm) (d 1%(nm.length:Int))) (rB (Yi ks ls++ls) 0) (rB ms (d 2%6)) 1 2
inductive Du(K:W.Frag)(vs:List V)(H:Hp)(Q:VK)(cP:XK):Prop
 |mk(q:Ad)(es:List aL)(ks:List Str)(p d m la:Addr)(ms ls:List Str)(wd:Int)(ds:List Int)(_:vs=[.ref q.B,.ref p,.ref d])(_:Ap q)(_:Bk q H es ks)(_:WF es)(_:es.length<64)(_:nO H p m la ms ls wd)(_:bF K H d (ds.map V.int))(_:ds.length=8)(_:(∀v∈ds,tR v))(_:∀r bU H',Same H H'->H' r=some (.tup (Rw.vs bU))->bU.Ok ls->bU=Oa 0x31 (uM es) ks ms ls (dF ds)->Q 0x6E H'):Du K vs H Q cP
abbrev wC:List Str:=A5l
inductive Ob(K:W.Frag)(vs:List V)(H:Hp)(Q:VK)(cP:XK):Prop
 |mk(q:Ad)(es:List aL)(ks:List Str)(p d m la kd:Addr)(ms ls:List Str)(wd:Int)(ds:List Int)(_:vs=[.ref q.B,.ref p,.ref d,.ref kd])(_:Ap q)(_:Bk q H es ks)(_:WF es)(_:es.length<64)(_:nO H p m la ms ls wd)(_:bF K H d (ds.map V.int))(_:ds.length=8)(_:(∀v∈ds,tR v))(_:H kd=some (.lst (wC.map V.str)))(_:∀r bU H',Same H H'->H' r=some (.tup (Rw.vs bU))->bU.Ok ls->bU=Oa 0x31 (uM es) ks ms ls (dF ds)->Q 0x6E H'):Ob K vs H Q cP
def uw:aX ["_law_book_here","_law_pools_here","_law_d","_law_row_here","_law_fresh"] A5y (aH Gm):=0x0
def a0K:Scope:={kind:=.function,names:=[0x40,0x46,0x4A],isGenerator:=false,isCoroutine:=false}
def a0L:cM ["_law_book_here","_law_pools_here","_law_d","_law_row_here","_law_fresh"] (aH Gm) a0K A5v A5u [0]:=0x7
def a0M:((A5v:List Str)++(A5u:List Str)).Nodup:=by decide+kernel
def RK(F:gF K "_law_some_deed" "_law_some_deed" Gm f fd)(ms:mg "sorted"=none)(X5:mg "list"=none)(mn:mg "len"=none) 
  (G1:aP P w K mg base bV 4 g1 d1 A5r (O8 K))(M1:Ms K mg "_law_row" g1 d1 A5r):aP P w K mg base bV 5 f fd A5y (Du K):=by
 refine F.ok uw 0x3 0x5;obtain⟨q,es,ks,p,d,m,la,mz,ls,wd,ds,rfl,ap,bk,W,hl,pl,hS,hdl,hdo,k⟩:=h;refine⟨_,(aq (aW (i:=3) uw.nd rfl 0x9 (aZ G1 hr rfl M1.m M1.k M1.b .nil aU (aj 0x11 (aj 0xE (aj 0x37 0x5A)))))
  (aq (bM (aQ fQ (aK aR 0x70 au 0x2) (cB (aj aG (aj aG 0x94))) 0x13) (aq (aW (i:=3) uw.nd rfl 0x9 (cB (aj aG (aj au (aj (aK aM (aY dw rfl ms fB (aj (cV (oE hr.hd) rfl X5 kI (aj 0x1A aC)) aC)) (aO bL 0x27 (aY Dn rfl mn PySem.boot_len (aj 0x1A aC))) 0x2) (aj (aK aR 0x70 au 0x2) (aj (aK aM 0x19 (aO bL 0x27 au) 0x2) (aj au 0x5A))))))))
  (aq (je (i:=4) rfl a0L (eU 0x19) (fun s H fp C'=>⟨bf (i:=0) a0M rfl 0x9,fM (aQ (iJ (K:=K)) 0x11 0x29 0x13),0x11⟩) uw.nd rfl 0x9)
  (aF (aW (i:=3) uw.nd rfl 0x9 (aO wQ (aO wQ (fj JN 0x70 j9 (cW au)) (cB (aj (aK aM (aO nW (pv 4) 0x19) au 0x2) aC))) (fj JN 0x70 (cW au) j9)))))) aV)
  (aF (bh 0x70)))),?_⟩
 obtain⟨d1,e1,o1⟩:=fJ hdo (i:=1) 0x6 0x1;obtain⟨d2,e2,o2⟩:=fJ hdo (i:=2) 0x6 0x1;obtain⟨o2a,o2b⟩:=o2;have lm:=pl.lm;have ll:=pl.ll;have npos:0<es.length:=by
  obtain⟨c,r,e,_⟩:=W.hd;rw[e];simp
 refine⟨_,rfl,_,rfl,_,rfl,q,es,ks,p,d,m,la,mz,ls,wd,ds,rfl,ap,bk,W,hl,pl,hS,hdl,hdo,fun r xs H1 s1 hr1 hout=>?_⟩;unfold Oa at k;generalize J9 0x31 (uM es) ks mz ls (dF ds)=o at hout k;cases o with
 | some bU=>
  obtain⟨rfl,hok⟩:=hout;refine⟨_,rfl,r,_,_,_,rfl,rfl,bI.of hr1,aD (j:=0) bU.vs0,small 0x8,fun t ht=>⟨t,_,rfl,.inr 0x66,rfl,rfl,_,rfl,fH (k:=bU.kind) (ls:=A5G) (b:=false) bU.RJ (bZ ?_)⟩⟩;have s2:=aJ ht (.tup [.str "heir",.str "liege",.str "death"]);exact⟨_,rfl,k r bU _ (s1.trans s2) (s2 _ _ hr1) hok rfl⟩
 |none=>
 obtain⟨k0,z0,rest,rfl,hk0⟩:=hout;refine⟨_,rfl,r,_,_,_,rfl,rfl,bI.of hr1,aD (j:=0) rfl,small 0x8,fun t ht=>⟨t,_,rfl,.inr 0x66,rfl,rfl,_,rfl,fH (k:=k0) (ls:=A5G) (b:=true) (A0t hk0) (dJ ?_)⟩⟩
 apply 0o1 H1 t ht s12 hk0 H2
 have s2:=s1.trans s12;have hr2:=s12 _ _ hr1;have b2:=bk.same s2;refine⟨_,rfl,q.B,_,rfl,b2.gl,q.l,_,rfl,b2.l,fun t1 ht1=>?_⟩;rw[yx];have s3:=aJ ht1 0x59;refine⟨t1,nms es,rfl,bF.of ao,by rw[bY];exact hl,fun th ts hth hpt hsd=>?_⟩;have s4:=s3.trans (aJ hth 0x32);have k4:(upd (upd H2 t1 0x59) th 0x32) th=some 0x32:=ao;generalize upd (upd H2 t1 0x59) th 0x32=H4 at s4 k4 ⊢;have Ny:=s2.trans s4;have b4:=bk.same Ny;have S4:=Ny.seq hS;have p4:=pl.same Ny;have tl:ts.length=es.length:=by rw[hpt.length_eq,bY]
 have l0:((0x96).length:Int)=(es.length:Int):=by rw[gq]
 have ets:=O5 hpt hsd;obtain⟨est,hest,_⟩:=jw (zs:=ts) (i:=d1%((0x96).length:Int)) (A0P _ 0x1) (by have:=A0x d1 (show(0:Int)<((0x96).length:Int) by lia);lia)
 refine⟨_,rfl,d,_,_,_,rfl,rfl,S4,e1,_,rfl,q.B,_,rfl,b4.gl,q.l,_,rfl,b4.l,_,_,rfl,rfl,(by show(0:Int)<((0x96).length:Int);lia),th,_,_,_,rfl,rfl,bF.of k4,hest,?_⟩
 obtain⟨man,RG,_⟩:=jw (zs:=mz) (i:=d2%6) 0x1 0x1;refine⟨_,rfl,r,_,_,_,rfl,rfl,bI.of (s4 _ _ hr2),aD (j:=2) rfl,_,rfl,p,_,_,_,rfl,rfl,bI.of p4.r,aD (j:=0) rfl,_,rfl,d,_,_,_,rfl,rfl,S4,e2,_,_,rfl,rfl,(by show(0:Int)<6;decide),m,_,_,_,rfl,rfl,bF.of p4.m,RG,small 0x8,fun r3 vP=>?_⟩
 have s45:=aJ vP (.tup [.str "grant",.int 0,.str est,.str z0,.str man,.int 1,.int 2]);have k5:(upd H4 r3 (.tup [.str "grant",.int 0,.str est,.str z0,.str man,.int 1,.int 2])) r3=some (.tup [.str "grant",.int 0,.str est,.str z0,.str man,.int 1,.int 2]):=ao;dsimp only[iW];generalize upd H4 r3 (.tup [.str "grant",.int 0,.str est,.str z0,.str man,.int 1,.int 2])=H5 at s45 k5 ⊢;have s2:=Ny.trans s45;have p5:=pl.same s2;have Pr:=p5.la;refine⟨_,rfl,p,_,_,_,rfl,rfl,bI.of p5.r,aD (j:=1) rfl,la,rfl,⟨_,bF.of Pr⟩,fun D hD=>dR (xs:=ls) 0x2E V.str (bF.of Pr) hD 0x1 0x83 (fun Hz sz gJ=>?_)⟩
 ·have hAB:=hAB _ 0x41;have bz:=bk.same (s2.trans sz);refine⟨Kp.set rfl 0x39,_,rfl,_,rfl,q.B,_,rfl,bz.gk,q.kn,_,rfl,.inl (bF.of bz.k),rfl,iC _,_,rfl,?_⟩
  show if(!inV (V.str x) (ks.map V.str))=true then _ else _
  rw[nA];refine gA 0x24 0x24
  ·rw[A0i c]at hAB;exact⟨_,rfl,hAB⟩
  ·rw[A0f c]at hAB;exact hAB
 have Dt:∀z∈ls.filter 0x2E,z∈ls:=fun z hz=>(A0y.mp hz).1;have WQ:(ls.filter fun x=>!decide (x∈ks)).length<=9:=by have:=A0s 0x2E ls;lia
 generalize hfr:(ls.filter fun x=>!decide (x∈ks))=fr at gJ Dt WQ;have Nx:=s2.trans sz;have p6:=pl.same Nx;have k6:=sz _ _ k5;refine⟨_,rfl,_,rfl,r3,_,rfl,bI.of k6,(by intro h;exact absurd (show HT.fY 7 7 (some 3)=7 from h.2) 0x6),fun c1 hc1=>?_⟩
 have ec1:gH [V.str "grant",.int 0,.str est,.str z0,.str man,.int 1,.int 2] none (some 3)=[.str "grant",.int 0,.str est]:=rfl;rw[ec1];have t1':=aJ hc1 (.tup [.str "grant",.int 0,.str est]);have kc1:(upd Hz c1 (.tup [.str "grant",.int 0,.str est])) c1=some (.tup [.str "grant",.int 0,.str est]):=ao;generalize upd Hz c1 (.tup [.str "grant",.int 0,.str est])=H7 at t1' kc1 ⊢;have p7:=p6.same t1';refine⟨_,rfl,_,rfl,p,_,_,_,rfl,rfl,bI.of p7.r,aD (j:=1) rfl,D,la,_,_,rfl,rfl,t1' _ _ gJ,p7.la,(by rw[bY,bY];exact small 0x1),fun c2 hc2=>?_⟩;have ec2:fr.map V.str++ls.map V.str=(fr++ls).map V.str:=by rw[lN]
 rw [ec2];obtain⟨nw,hnw,hnm⟩:=jw (zs:=fr++ls) (i:=0) 0x6 (by rw[lG];lia);have hnl:nw∈ls:=by
  rcases A0u.mp hnm with z|z
  ·exact Dt _ z
  ·exact z
 have t2:=aJ hc2 0x64;refine⟨c2,_,_,_,rfl,rfl,bF.of ao,hnw,small 0x8,fun c3 hc3=>?_⟩;have t3:=t2.trans (aJ hc3 (.tup [.str nw]));have kc3:(upd (upd H7 c2 0x64) c3 (.tup [.str nw])) c3=some (.tup [.str nw]):=ao;refine⟨c1,c3,_,_,rfl,rfl,bI.of (t3 _ _ kc1),bI.of kc3,0x8,small 0x8,(fun z=>absurd z 0x8),fun _ c4 hc4=>?_⟩;have t4:=t3.trans (aJ hc4 (.tup [.str "grant",.int 0,.str est,.str nw]));have kc4:(upd (upd (upd H7 c2 0x64) c3 (.tup [.str nw])) c4 (.tup [.str "grant",.int 0,.str est,.str nw])) c4=some (.tup [.str "grant",.int 0,.str est,.str nw]):=ao;refine⟨_,rfl,_,rfl,r3,_,rfl,bI.of (t4 _ _ (t1' _ _ k6)),(by intro h;exact absurd (show HT.fY 7 0 (some 4)=0 from h.1) 0x6),fun c5 hc5=>?_⟩
 have ec5:gH [V.str "grant",.int 0,.str est,.str z0,.str man,.int 1,.int 2] (some 4) none=[.str man,.int 1,.int 2]:=rfl;rw[ec5];have t5:=t4.trans (aJ hc5 (.tup [.str man,.int 1,.int 2]));refine⟨c4,c5,_,_,rfl,rfl,bI.of ((aJ hc5 (.tup [.str man,.int 1,.int 2])) _ _ kc4),bI.of ao,0x8,small 0x8,(fun z=>absurd z 0x8),fun _ c6 hc6=>?_⟩;have t6:=(Nx.trans t1').trans (t5.trans (aJ hc6 (.tup [.str "grant",.int 0,.str est,.str nw,.str man,.int 1,.int 2])));refine⟨_,rfl,k c6 (.grant est nw man 1 2) _ t6 ao ⟨hnl,by decide,by decide,by decide,by decide⟩ ?_⟩;have eL:((0x31).length:Int)=((0x96).length:Int):=by rw[gq,bY]
 unfold Yi;rw[hfr,iu e1,iu e2,eL,<-ets,mH hest,mH hnw,mH RG]
def Gn:aX A5n A5p (aH O9):=0x0
def a0N:Scope:={kind:=.function,names:=[0x40,0x46,0x4A],isGenerator:=false,isCoroutine:=false}
def a0O:cM A5n (aH O9) a0N A5v A5u [0]:=0x7
def a0P:((A5v:List Str)++(A5u:List Str)).Nodup:=by decide+kernel
def a0Q:Scope:={kind:=.function,names:=[0x40,0x46],isGenerator:=false,isCoroutine:=false}
def a0R:cM A5n (aH O9) a0Q A5v [] []:=0x7
def a0S:((A5v:List Str)++([]:List Str)).Nodup:=by decide+kernel
def X7(F:gF K "_law_steered" "_law_steered" O9 f fd) 
  (G1:aP P w K mg base bV 5 g1 d1 A5y (Du K))(M1:Ms K mg "_law_some_deed" g1 d1 A5y):aP P w K mg base bV 6 f fd A5p (Ob K):=by
 refine F.ok Gn 0x3 0x5;obtain⟨q,es,ks,p,d,m,la,kd,mz,ls,wd,ds,rfl,ap,bk,W,hl,pl,hS,hdl,hdo,hkd,k⟩:=h;refine⟨_,(aq (je (i:=4) rfl a0O (eU 0x19) (fun s H fp C'=>⟨bf (i:=0) a0P rfl 0x9,fM (aQ (iJ (K:=K)) 0x11 0x29 0x13),0x11⟩) Gn.nd rfl 0x9)
  (aq (NT (je (i:=5) rfl a0R (mX 0x1A) (fun s H fp C'=>⟨bf (i:=0) a0S rfl 0x9,fM (aQ lD 0x11 aG 0x7C),pv 0⟩) Gn.nd rfl 0x9))
  (aq (aW (i:=6) Gn.nd rfl 0x9 (aZ G1 hr rfl M1.m M1.k M1.b .nil aU (aj 0x11 (aj 0xE 0x5D))))
  (aq (bM (PW.pt (oM (aQ fQ (aK aR (pv 6) au 0x2) 0x70 0x13) (kj wA))) (aF (bh (pv 6))) aV) bR)))),?_⟩
 obtain⟨d0,e0,o0⟩:=fJ hdo (i:=0) 0x6 0x1;obtain⟨d1,e1,o1⟩:=fJ hdo (i:=1) 0x6 0x1;obtain⟨d2,e2,o2⟩:=fJ hdo (i:=2) 0x6 0x1;obtain⟨d4,e4,o4⟩:=fJ hdo (i:=4) 0x6 0x1;obtain⟨o2a,o2b⟩:=o2;obtain⟨o4a,o4b⟩:=o4;have lm:=pl.lm;have ll:=pl.ll;have s2:=Same.refl H;have Pr:=pl.la;refine⟨_,rfl,p,_,_,_,rfl,rfl,bI.of pl.r,aD (j:=1) rfl,la,rfl,⟨_,bF.of Pr⟩,fun D hD=>dR (xs:=ls) 0x2E V.str (bF.of Pr) hD 0x1 0x83 (fun Hz sz gJ=>?_)⟩
 ·have hAB:=hAB _ 0x41;have bz:=bk.same (s2.trans sz);refine⟨Kp.set rfl 0x39,_,rfl,_,rfl,q.B,_,rfl,bz.gk,q.kn,_,rfl,.inl (bF.of bz.k),rfl,iC _,_,rfl,?_⟩
  show if(!inV (V.str x) (ks.map V.str))=true then _ else _
  rw[nA];refine gA 0x24 0x24
  ·rw[A0i c]at hAB;exact⟨_,rfl,hAB⟩
  ·rw[A0f c]at hAB;exact hAB
 have Dt:∀z∈ls.filter 0x2E,z∈ls:=fun z hz=>(A0y.mp hz).1;have WQ:(ls.filter fun x=>!decide (x∈ks)).length<=9:=by have:=A0s 0x2E ls;lia
 generalize(ls.filter fun x=>!decide (x∈ks))=fr at gJ Dt WQ;have b1:=bk.same sz;have nB:q.B≠q.l:=bN ap 5 6 rfl rfl 0x6;have gB:∀{o:Obj}{Hx:Hp},Same (upd Hz q.l (.gD o (.dK 0x96))) Hx->fP Hx q.B (V.str "lords") (some (.ref q.l)):=fun sx=>gn (sx _ _ (by rw[ak nB];exact b1.b)) bk.vl;refine frzS (ni (fun y=>!decide (y.n="")) b1.l 0x1 (fun o R' hR=>⟨_,rfl,q.B,_,rfl,gB 0x41,hR⟩) (fun o y Hx A B hy sx hAB=>?_) (fun D2 H2 Jf hD20 uq=>?_))
 ·refine⟨Kp.set rfl 0x39,_,rfl,rfl,_,rfl,?_⟩;rw[dU];refine gA 0x24 0x24
  ·rw[A0i c]at hAB;exact⟨_,rfl,hAB⟩
  ·rw[A0f c]at hAB;exact hAB
 have thm:∀z∈(es.filter fun y:aL=>!decide (y.n=("":Str))).map (·.n),∃y∈es,y.n=z/\z≠"":=fun z hz=>by
  obtain⟨y,hy,rfl⟩:=A0h.mp hz;obtain⟨h1,h2⟩:=A0y.mp hy;refine⟨y,h1,rfl,fun c=>?_⟩;rw[A0t c]at h2;cases h2
 generalize(es.filter fun y:aL=>!decide (y.n=("":Str))).map (·.n)=uT at uq thm;have O1:=sz.trans Jf;have b2:=bk.same O1;have S2:=O1.seq hS;have p2:=pl.same O1;refine⟨_,rfl,_,rfl,_,rfl,q,es,ks,p,d,m,la,mz,ls,wd,ds,rfl,ap,b2,W,hl,p2,S2,hdl,hdo,fun r bU H3 s3 vP hok erw=>?_⟩;have Dl:=O1.trans s3;refine⟨_,rfl,r,_,_,_,rfl,rfl,bI.of vP,aD (j:=0) bU.vs0,_,rfl,kd,_,rfl,.inl (bF.of (Dl _ _ hkd)),rfl,iC wC,_,rfl,fH (k:=bU.kind) (ls:=wC) (b:=true) bU.Gj (dJ (dJ ?_))⟩;exact⟨_,rfl,k r bU H3 Dl vP hok erw⟩
def core(e:aL):aL:={e with ta:=0,tb:=0}
def Ao(es:List aL):nms 0x36=nms es:=by
 show(0x36).map _=es.map _
 rw[A0N];rfl
def RL{f:aL->V}(h:∀e,f (core e)=f e)(es:List aL):kv f 0x36=kv f es:=by
 show(0x36).map _=es.map _
 rw[A0N];exact A1e fun e _=>by show(Sum.inr (core e).n,f (core e))=(Sum.inr e.n,f e);rw[h];rfl
def Aq(es:List aL):uM 0x36=uM es:=by
 funext e
 unfold uM;rw[show lF 0x36=lF es from RL 0xC es]
def ux{n:Str}{g g':aL->aL}(h:∀y,core (g y)=g' (core y))(es:List aL):(mod n g es).map core=mod n g' 0x36:=by
 unfold mod;rw[A0N,A0N];refine A1e fun y _=>?_
 show core (if y.n=n then g y else y)=if y.n=n then g' (core y)else core y
 split
 ·exact h y
 ·rfl
def uy{y:aL}{es:List aL}(bU:Rw):(0x33).map core=stp (core y) 0x36 0 0 0 0 bU:=by
 cases bU with
 | grant e n m a s=>
  show(mod y.n (jZ a) es++[nT y.n n m a s t1 b1]).map core=mod y.n (jZ a) 0x36++[nT y.n n m a s 0 0]
  rw[lN,ux (g:=jZ a) (g':=jZ a) fun _=>rfl];rfl
 | part e n m a=>
  show(mod y.n (lM a t2 b2) es++[qW y n m a t1 b1]).map core=mod y.n (lM a 0 0) 0x36++[qW (core y) n m a 0 0]
  rw[lN,ux (g:=lM a t2 b2) (g':=lM a 0 0) fun _=>rfl];rfl
 |convey e m=>exact ux (g:=nj m) (g':=nj m) 0xC es
 | jY e=>
  show(0x7A).map core=cD y.n (y.lord.getD "") y.own 0x36
  unfold cD;rw[A3q,A0N,A0N];exact A1e fun y0 _=>by
   rfl
def RM{es:List aL}{y:aL}{bU:Rw}(h:fV es ks y bU):fV 0x36 ks (core y) bU:=by
 cases bU<;>exact⟨A0h.mpr ⟨y,h.1,rfl⟩,h.2⟩
def Ua{es:List aL}{y:aL}{bU:Rw}(h:fV 0x36 ks y bU):∃z,fV es ks z bU/\core z=y:=by
 cases bU<;>(obtain⟨z,hz,rfl⟩:=A0h.mp h.1;exact⟨z,⟨hz,h.2⟩,rfl⟩)
def X8{es:List aL}{y z:aL}{bU:Rw}(nd:(0x31).Nodup)(h:fV es ks y bU)(h':fV es ks z bU):y=z:=by
 cases bU with
 |grant=>exact fO nd h.1 h'.1 (h.2.1.trans h'.2.1.symm)
 |part=>exact fO nd h.1 h'.1 (h.2.1.trans h'.2.1.symm)
 |convey=>exact fO nd h.1 h'.1 (h.2.trans h'.2.symm)
 |jY=>exact fO nd h.1 h'.1 (h.2.trans h'.2.symm)
open Classical in
noncomputable def uz (ms ls:List Str) (d:Int->Int) (s:List aL×List Str):List aL×List Str:=
 if h:∃y,fV s.1 s.2 y (Oa (nms s.1) (uM s.1) s.2 ms ls d)then(stp h.choose s.1 0 0 0 0 (Oa (nms s.1) (uM s.1) s.2 ms ls d),stK s.2 (Oa (nms s.1) (uM s.1) s.2 ms ls d))else s
def RN{es:List aL}{d:Int->Int}{bU:Rw}(e:bU=Oa 0x31 (uM es) ks ms ls d)(h:¬∃y,fV es ks y bU):(es.map core,ks)=uz ms ls d (es.map core,ks):=by
 unfold uz;dsimp only;rw[Ao,Aq,<-e,dif_neg];rintro⟨y,hy⟩;obtain⟨z,hz,_⟩:=Ua hy;exact h ⟨z,hz⟩
def RP{es:List aL}{d:Int->Int}{bU:Rw}{y:aL}(nd:(0x31).Nodup)(e:bU=Oa 0x31 (uM es) ks ms ls d)(h:fV es ks y bU):((0x33).map core,stK ks bU)=uz ms ls d (es.map core,ks):=by
 have ex:∃y,fV 0x36 ks y bU:=⟨_,RM h⟩;have ec:ex.choose=core y:=by
  obtain⟨z,hz,ez⟩:=Ua ex.choose_spec;rw[<-ez,X8 nd hz h]
 unfold uz;dsimp only;rw[uy];have e':Oa (nms 0x36) (uM 0x36) ks ms ls d=bU:=by rw[Ao,Aq,e]
 rw[e',A4G ex,ec]
noncomputable def yC (ms ls:List Str) (fs:List Int) (at_:Nat) (n:Nat) (s:List aL×List Str):List aL×List Str:=(List.range n).foldl (fun s i=>uz ms ls (dF ((fs.drop (at_+8*i)).take 8)) s) s
def qJ(ms ls:List Str)(fs:List Int)(at_ n:Nat)(s:List aL×List Str):yC ms ls fs at_ (n+1) s=uz ms ls (dF ((fs.drop (at_+8*n)).take 8)) (yC ms ls fs at_ n s):=by
 unfold yC;rw[List.range_succ,A3M];rfl
abbrev sPl:Stmt:=top 42
def jy(q:Ad)(H H':Hp):Prop:=∀c u,c∉[q.a1,q.a2,q.a3,q.a4,q.a5,q.l,q.h,q.o,q.d,q.kn]->H c=some u->H' c=some u
def jy.refl{q:Ad}:jy q H H:=fun _ _ _ e=>e
def jy.trans{q:Ad}(a:jy q H H1)(b:jy q H1 H2):jy q H H2:=fun c u h e=>b c u h (a c u h e)
def jy.same{q:Ad}(s:Same H H'):jy q H H':=fun c u _ e=>s c u e
def nM.all{q:Ad}(o:nM q H H'):jy q H H':=fun c u h e=>by
 simp only[A0c,A0j,A0V,A3v]at h;exact o c u h.1 h.2.1 h.2.2.1 h.2.2.2.1 h.2.2.2.2.1 e
def dI.all{q:Ad}(o:dI q H H'):jy q H H':=fun c u h e=>by
 simp only[A0c,A0j,A0V,A3v]at h;exact o c u h.2.2.2.2.2.1 h.2.2.2.2.2.2.1 h.2.2.2.2.2.2.2.1 h.2.2.2.2.2.2.2.2.1 h.2.2.2.2.2.2.2.2.2 e
def jz{q:Ad}{es:List aL}(R:Rel C q H es ks ls j)(o:jy q H H')(h:H r=some 0x52):H' r=some 0x52:=by
 refine o r _ ?_ h;simp only[A0c,A0j,A0V,A3v];exact⟨bB h R.L.l1 0x10,bB h R.L.l2 0x10,bB h R.L.l3 0x10,bB h R.L.l4 0x10,bB h R.L.l5 0x10,bB h R.B.l 0x10,bB h R.B.h 0x10,bB h R.B.o 0x10,bB h R.B.d 0x10,bB h R.B.k 0x10⟩
def mJ{q:Ad}{es:List aL}(R:Rel C q H es ks ls j)(o:jy q H H')(h:H r=some 0x53)(hn:r≠q.kn):H' r=some 0x53:=by
 refine o r _ ?_ h;simp only[A0c,A0j,A0V,A3v];exact⟨bB h R.L.l1 0x10,bB h R.L.l2 0x10,bB h R.L.l3 0x10,bB h R.L.l4 0x10,bB h R.L.l5 0x10,bB h R.B.l 0x10,bB h R.B.h 0x10,bB h R.B.o 0x10,bB h R.B.d 0x10,hn⟩
def Ar{q:Ad}(ap:Ap q)(b:BQ q H lo ho ow du ks)(o:nM q H H'):BQ q H' lo ho ow du ks:=by
 have g:∀{c:Addr}{u:HO}(i:Nat),4<i->[q.a1,q.a2,q.a3,q.a4,q.a5,q.B,q.l,q.h,q.o,q.d,q.kn,q.dd][i]?=some c->H c=some u->H' c=some u:=fun{c u}i hi hc e=>o c u (bN ap i 0 hc rfl 0x1) (bN ap i 1 hc rfl 0x1) (bN ap i 2 hc rfl 0x1) (bN ap i 3 hc rfl 0x1) (bN ap i 4 hc rfl 0x1) e;exact⟨g 5 0x6 rfl b.b,b.vl,b.vh,b.vo,b.vd,b.vk,b.vx,g 6 0x6 rfl b.l,g 7 0x6 rfl b.h,g 8 0x6 rfl b.o,g 9 0x6 rfl b.d,g 10 0x6 rfl b.k,g 11 0x6 rfl b.x,b.len⟩
def Oc{q:Ad}{es:List aL}(ap:Ap q)(L:Ln C q H es)(b:BQ q H lo ho ow du ks)(o:dI q H H'):Ln C q H' es:=by
 have g:∀{c:Addr}{u:HO}(i:Nat),i<5->[q.a1,q.a2,q.a3,q.a4,q.a5,q.B,q.l,q.h,q.o,q.d,q.kn,q.dd][i]?=some c->H c=some u->H' c=some u:=fun{c u}i hi hc e=>o c u (bN ap i 6 hc rfl 0x1) (bN ap i 7 hc rfl 0x1) (bN ap i 8 hc rfl 0x1) (bN ap i 9 hc rfl 0x1) (bN ap i 10 hc rfl 0x1) e;refine⟨o _ _ ?_ ?_ ?_ ?_ ?_ L.o,g 0 0x6 rfl L.l1,g 1 0x6 rfl L.l2,g 2 0x6 rfl L.l3,g 3 0x6 rfl L.l4,g 4 0x6 rfl L.l5⟩
 ·exact bB L.o b.l 0x10
 ·exact bB L.o b.h 0x10
 ·exact bB L.o b.o 0x10
 ·exact bB L.o b.d 0x10
 ·exact bB L.o b.k 0x10
def Od{q:Ad}{es:List aL}{bU:Rw}{y:aL}(R:Rel C q H es ks ls j)(hst:fV es ks y bU)(hok:bU.Ok ls)(hls:∀n∈ls,n≠""/\PyData.strOk n=true)
  (hL:∀b1 b2,Ln C q H1 0x33)(f1:FrN y t1 t2 H1 bU)(o1:nM q H H1)(hB:∀t1 t2,Bk q H2 0x33 (stK ks bU))(f2:FrN y b1 b2 H2 bU)(o2:dI q H1 H2):
  Rel C q H2 0x33 (stK ks bU) ls (j+1):=by
 obtain⟨w1,w2,w3,w4⟩:=Wk (t1:=t1) (t2:=t2) (b1:=b1) (b2:=b2) R hst hok hls;have Yj:=Ar R.ap R.B o1;refine⟨R.ap,Oc R.ap (hL b1 b2) Yj o2,hB t1 t2,w1,?_,w2,w3,w4,Wi R hok,(Rk R.W hst hok).trans R.tot,Wj R hst hok hls⟩;have old:∀y0∈es,qT H2 y0.ta y0.due.1 y0.due.2/\qT H2 y0.tb y0.due.1 y0.due.2/\Bd (10+5*(j+1)) y0.due:=fun y0 h0=>by
  obtain⟨g1,g2,g3⟩:=R.fr y0 h0;exact⟨cZ Yj o2 (jz R o1.all g1),cZ Yj o2 (jz R o1.all g2),g3.mono 0x1⟩
 cases bU with
 | grant e n m a s=>
  obtain⟨hy,rfl,hn,ha⟩:=hst;obtain⟨h1,h2,h3,h4,h5⟩:=hok;intro z hz;rcases A0u.mp hz with c|c
  ·obtain⟨y0,h0,rfl⟩:=cH c;have:=old y0 h0
   split
   ·exact this
   ·exact this
  ·rw [A0e.mp c];refine⟨cZ Yj o2 f1,f2,?_⟩
   show Bd _ (s,1)
   have hp:10^5<=10^(10+5*(j+1)):=A2k 0x6 0x1;refine⟨A0o ?_ hp,by show(0:Int)<1;decide,A0o ?_ hp⟩
   ·show s.natAbs<10^5
    lia
   ·show(1:Int).natAbs<10^5
    decide
 | part e n m a=>
  obtain⟨hy,rfl,hn,ha⟩:=hst;obtain⟨h1,h2,h3,h4⟩:=hok;obtain⟨f1a,f1b⟩:=f1;obtain⟨f2a,f2b⟩:=f2;obtain⟨_,_,bd⟩:=R.fr y hy;have bb:=R.W.bnd y hy;have ob:=R.W.uf y hy;have hB0:0<y.due.2*y.br:=A2K bd.2.1 0x1;have e5:10+5*j+5=10+5*(j+1):=by lia
  have m2:=mD (f:=5) bd.2.2 (show y.br.natAbs<10^5 by lia)
  have m1:=mD (f:=5) bd.1 (show a.natAbs<10^5 by lia)
  have m3:=mD (f:=5) bd.1 (show(y.br-a).natAbs<10^5 by lia)
  rw[e5]at m1 m2 m3;intro z hz;rcases A0u.mp hz with c|c
  ·obtain⟨y0,h0,rfl⟩:=cH c
   split
   ·rename_i hc
    obtain rfl:=fO R.W.nd h0 hy hc;exact⟨cZ Yj o2 f1b,f2b,Cv hB0 m3 m2⟩
   ·exact old y0 h0
  ·rw[A0e.mp c];exact⟨cZ Yj o2 f1a,f2a,Cv hB0 m1 m2⟩
 | convey e m=>
  intro z hz;obtain⟨y0,h0,rfl⟩:=cH hz;have:=old y0 h0
  split
  ·exact this
  ·exact this
 | jY e=>
  intro z hz;obtain⟨y0,h0,rfl⟩:=A0h.mp hz;exact old y0 (A0y.mp h0).1
def nO.out{q:Ad}{es:List aL}{ls':List Str}{m:Addr}(R:Rel C q H es ks ls' j)(o:jy q H H')(p:nO H r m la ms ls wd)(h1:m≠q.kn)(h2:la≠q.kn):nO H' r m la ms ls wd:=
 ⟨jz R o p.r,mJ R o p.m h1,mJ R o p.la h2,p.lm,p.ll,p.nm,p.om,p.ol,p.w1,p.w2,p.nl⟩
inductive RQ(C:Addr)(vs:List V)(H:Hp)(Q:VK)(cP:XK):Prop
 |mk(q:Ad)(es:List aL)(ks:List Str)(j:Nat)(p m la fa kd:Addr)(ms ls:List Str)(wd at_ many:Int)(fs:List Int)(_:vs=[.ref q.x,.ref q.B,.ref p,.ref fa,.int at_,.int many,.ref kd])(_:Rel C q H es ks ls j)(_:nO H p m la ms ls wd)(_:H fa=some (.lst 0x44))(_:(∀v∈fs,tR v))(_:H kd=some (.lst (wC.map V.str)))(_:m≠q.kn)(_:la≠q.kn)(_:fa≠q.kn)(_:kd≠q.kn)(_:0<=at_)(_:0<=many)(_:at_+8*many<=fs.length)(_:fs.length<=1000)(_:j+many.toNat<=50)(_:∀es' ks' H',Rel C q H' es' ks' ls (j+many.toNat)->jy q H H'->(es'.map core,ks')=yC ms ls fs at_.toNat many.toNat (es.map core,ks)->Q (.bl true) H'):RQ C vs H Q cP
def Xa:aX ["_law_land","_law_book_here","_law_pools_here","_law_feed_here","_law_at","_law_many","_law_kinds","_law_k","_law_row_here"] A5i (aH sPl):=0x0
def a0T(F:gF K "_law_played" "_law_played" sPl f fd)(mr:mg "range"=none) 
  (G1:aP P w K mg base bV 6 g1 d1 A5p (Ob K))(M1:Ms K mg "_law_steered" g1 d1 A5p)
  (G2:aP P w K mg base bV 2 g2 d2 A5g Nt)(M2:Ms K mg "_law_let_by" g2 d2 A5g)
  (G3:aP P w K mg base bV 5 g3 d3 ["_law_land","_law_row_here"] (Nv C))(M3:Ms K mg "_law_land_do" g3 d3 ["_law_land","_law_row_here"])
  (G4:aP P w K mg base bV 3 g4 d4 A5g Ws)(M4:Ms K mg "_law_do" g4 d4 A5g):
  aP P w K mg base bV 7 f fd A5i (RQ C):=by
 refine F.ok Xa 0x3 0x5;obtain⟨q,es,ks,j,p,m,la,fa,kd,mz,ls,wd,at_,many,fs,rfl,R0,pl0,hfa0,hfo,hkd0,nm,nla,nfa,nkd,ha0,hm0,ham,hfl,hj,k⟩:=h;have G2:=aP.mono (k:=6) G2 0x1;have G3:=aP.mono (k:=6) G3 0x1;have G4:=aP.mono (k:=6) G4 0x1;refine⟨_,(aq (eZ A0M rfl (cT rfl mr (aj (pv 5) aC)) (bf (i:=7) Xa.nd rfl 0x9) (aq (aW (i:=8) Xa.nd rfl 0x9 (aZ G1 hr rfl M1.m M1.k M1.b .nil aU (aj 0xE (aj 0x37 (aj (fj jc 0x70 (cW (aO cL (pv 4) (aO iU au (pv 7)))) (cW (aO cL (aO cL (pv 4) (aO iU au (pv 7))) au))) (aj (pv 6) aC))))))
  (aF (bM (dg (aZ G2 hr rfl M2.m M2.k M2.b .nil aU (aj 0xE (aj (pv 8) aC)))) (aq (bM (aQ Eh (aZ G3 hr rfl M3.m M3.k M3.b .nil aU (aj 0x11 (aj (pv 8) aC))) rZ 0x7C) bR aV)
  (aF (bJ (aZ G4 hr rfl M4.m M4.k M4.b .nil aU (aj 0xE (aj (pv 8) aC)))))) aV))))
  (aF (bh uV))),?_⟩
 have hls:∀n∈ls,n≠""/\PyData.strOk n=true:=fun n hn=>(pl0.ol n hn).ne;refine⟨_,rfl,many,rfl,by lia,by lia,?_⟩;refine dH (lo:=0) (n:=many.toNat) (fun i σ Hx=>∃(es':List aL)(ks':List Str)(u7 u8:Option V),σ=[some (.ref q.x),some (.ref q.B),some 0x3E,some (.ref fa),some (.int at_),some (.int many),some (.ref kd),u7,u8]/\Rel C q Hx es' ks' ls (j+i)/\jy q H Hx/\(es'.map core,ks')=yC mz ls fs at_.toNat i (es.map core,ks)) ⟨es,ks,none,none,rfl,R0,jy.refl,rfl⟩ ?_ ?_
 ·rintro i σ Hx hi ⟨es',ks',u7,u8,rfl,R,ox,eS⟩;have pl:=pl0.out R0 ox nm nla;have hfa:=mJ R0 ox hfa0 nfa;have hkd:=mJ R0 ox hkd0 nkd;have ln:=R.ten pl0.ll;have lk:=R.lk;refine⟨_,rfl,_,rfl,_,rfl,_,rfl,_,rfl,_,_,rfl,rfl,.inl ⟨by decide,by decide⟩,_,_,rfl,rfl,_,rfl,_,rfl,_,rfl,_,_,rfl,rfl,.inl ⟨by decide,by decide⟩,_,_,rfl,rfl,_,_,rfl,rfl,_,rfl,fa,_,rfl,bF.of hfa,fun c1 hc1=>?_⟩;have ec:gH 0x44 (some (at_+8*(0+(i:Int)))) (some (at_+8*(0+(i:Int))+8))=((fs.drop (at_.toNat+8*i)).take 8).map V.int:=by
   have x1:at_+8*(0+(i:Int))=((at_.toNat+8*i:Nat):Int):=by lia
   have x2:at_+8*(0+(i:Int))+8=((at_.toNat+8*i+8:Nat):Int):=by lia
   rw[x2,x1,ur 0x1 0x1]
   congr 2
   lia
  rw[ec];have dl:((fs.drop (at_.toNat+8*i)).take 8).length=8:=by rw[A0T,A1l];lia
  apply 0o1 Hx c1 hc1 s1 k1 H1
  refine⟨_,rfl,q,es',ks',p,c1,m,la,kd,mz,ls,wd,_,rfl,R.ap,R.B.same s1,R.W,by lia,pl.same s1,bF.of k1,dl,Dr hfo,s1 _ _ hkd,fun r bU H2 s2 hr2 hok erw=>?_⟩;have O1:=s1.trans s2;have R2:=R.same O1;refine⟨_,rfl,_,rfl,q,es',ks',r,bU,rfl,R2.ap,R2.B,R2.W.nd,hr2,fun b H3 s3 hb=>⟨_,rfl,?_⟩⟩;have Dl:=O1.trans s3;have R3:=R.same Dl;have vP:=s3 _ _ hr2;cases b with
  | false=>
   refine bZ ?_;exact⟨es',ks',_,_,rfl,(R3.up 0x1),ox.trans (jy.same Dl),by rw[qJ,<-eS];exact RN erw fun z=>absurd (hb.mpr z) 0x6⟩
  | true=>
   obtain⟨y,hst⟩:=hb.mp rfl;refine dJ ?_;refine⟨_,rfl,_,rfl,q,es',ks',ls,j+i,r,bU,y,rfl,R3,vP,hst,hok,hls,by lia,fun t1 t2 H4 hL f1 o1=>?_⟩;refine⟨rfl,_,rfl,bZ ?_⟩;have Ih:=jz R3 o1.all vP;have b4:=Ar R3.ap R3.B o1;have hyes:y∈es':=by cases bU<;>exact hst.1
   obtain⟨g1,g2,g3⟩:=R3.fr y hyes;have hnew:∀n,n∈ls->n∉ks'->n∉nms es':=fun n hn hk=>R3.new hk (hls n hn).1;refine⟨_,rfl,_,rfl,q,es',ks',r,bU,y,rfl,R3.ap,b4,R3.W,jz R3 o1.all g2,g3.mono 0x1,Ih,hst,?_,?_,?_,by lia,by lia,fun c1 c2 H5 hB f2 o2=>?_⟩
   ·rintro e n mm a s rfl;exact hnew n hok.1 hst.2.2.1
   ·rintro e n mm a rfl;exact⟨hnew n hok.1 hst.2.2.1,hok.2.1,hok.2.2.1,hok.2.2.2⟩
   ·rintro e rfl;exact hok
   ·exact⟨_,_,_,_,rfl,Od R3 hst hok hls hL f1 o1 hB f2 o2,(ox.trans (jy.same Dl)).trans (o1.all.trans o2.all),by rw[qJ,<-eS];exact RP R3.W.nd erw hst⟩
 ·rintro σ Hx ⟨es',ks',u7,u8,rfl,R,ox,eS⟩;exact k es' ks' Hx R ox eS
end
end M
namespace L2
open PySem PySem.Spec PyProof.Rows PySem.W
def uD(H:Hp):List 0x45->List 0x74->Prop:=Paired fun(p:Key×V)(q:Key×PyData)=>p.1=q.1/\dM H p.2 q.2/\q.2.canLay0=true/\q.2.depth<=8
def Jh(ds:List 0x74)(k:Key):Option PyData:=(ds.find? fun q=>decide (q.1=k)).map (·.2)
def yD(bs:List 0x74)(q:Key×PyData):Bool:=match Jh bs q.1 with
 |none=>false
 |some d=>PyData.eqv q.2 d
def cR(as bs:List 0x74):Bool:=(as.length==bs.length)&&as.all (yD bs)
theorem uD.at{k:Key}:∀{kb:List 0x45}{db:List 0x74},uD H kb db->(bH kb k=none/\Jh db k=none)\/∃v d,bH kb k=some v/\Jh db k=some d/\dM H v d/\d.canLay0=true/\d.depth<=8
 |_,_,.nil=>.inl ⟨rfl,rfl⟩
 | p::l1,q::l2,.cons h r=>by
  obtain⟨e,h1,h2,h3⟩:=h
  by_cases hk:p.1=k
  ·refine .inr ⟨p.2,q.2,?_,?_,h1,h2,h3⟩
   ·unfold bH;rw[A1y (by simpa using hk)];rfl
   ·unfold Jh;rw[A1y (by rw[<-e];simpa using hk)];rfl
  ·have e1:bH (p::l1) k=bH l1 k:=by unfold bH;rw[A1z (by simpa using hk)]
   have e2:Jh (q::l2) k=Jh l2 k:=by unfold Jh;rw[A1z (by rw[<-e];simpa using hk)]
   rw[e1,e2];exact uD.at r
theorem Gp(I:Inv X pins σ H s)(hu:X.A.units+64<cLine){kb:List 0x45}{vb:List (Key×Value)}{db:List 0x74}(rb:KV kb vb)(hb:uD H kb db):
  ∀{ka:List 0x45}{va:List (Key×Value)}{da:List 0x74},KV ka va->uD H ka da->KeqHits X.A.in1 s vb va (da.all (yD db))
 |_,_,_,.nil,h=>by cases h;exact .nil
 | _,_,_,.cons (a:=p) (b:=u) h r,h'=>by
  cases h' with
  | cons g g'=>
   rename_i q qs
   obtain⟨e,rv⟩:=h;obtain⟨e',h1,h2,h3⟩:=g;have rest:=Gp I hu rb hb r g';obtain⟨uk,uv⟩:=u;obtain⟨pk,pv⟩:=p;obtain⟨qk,qv⟩:=q;have e1:pk=uk:=e;have e2:pk=qk:=e';subst e1;subst e2;have rel:=KV.val rb pk;rw[List.all_cons];rcases uD.at (k:=pk) hb with⟨n1,n2⟩|⟨v,d,n1,n2,m1,m2,m3⟩
   ·have:yD db (pk,qv)=false:=by unfold yD;rw[n2]
    rw[this,A3a];refine .miss ?_;rw[n1]at rel;exact j8.none_of rel
   ·have:yD db (pk,qv)=PyData.eqv qv d:=by unfold yD;rw[n2]
    rw[this];rw[n1]at rel;obtain⟨y,hy,ry⟩:=j8.some_of rel;obtain⟨as,ra⟩:=dM.reads I h1 rv;obtain⟨bs,rb'⟩:=dM.reads I m1 ry;refine .hit hy (SeqAt.eqAt_reads _ _ _ _ _ _ _ _ ra rb' h2 m2 ?_) rest;have:X.A.in1.units=X.A.units+1:=rfl;lia
inductive rEqK(x y:V)(H:Hp)(Q:VK):Prop
 |mk(a b:Addr)(ka kb:List 0x20)(da db:List (Prod L2.Key PySem.PyData))(_:x=.ref a)(_:y=.ref b)(_:H a=some (.dK ka))(_:H b=some (.dK kb))(_:uD H ka da)(_:uD H kb db)(_:Q (.bl (cR da db)) H):rEqK x y H Q
def uE(hu:X.A.units+64<cLine):mQ X (compareOp .Eq) rEqK:=by
 intro pins s σ H x y v u Q I rx ry h;obtain⟨a,b,ka,kb,da,db,rfl,rfl,ha,hb,ga,gb,q⟩:=h;cases rx;cases ry;obtain⟨_,n1,va,r1,d1⟩:=nQ I.hok ha;obtain⟨_,n2,vb,r2,d2⟩:=nQ I.hok hb;refine keq_eq n1 n2 d1 d2 0x1 (fun _=>Gp I hu r2 gb r1 ga) ⟨.bl _,H,I,?_,q⟩;have l1:va.length=da.length:=by rw[<-KV.length r1];exact A3S ga
 have l2:vb.length=db.length:=by rw[<-KV.length r2];exact A3S gb
 show Value.bool _=Value.bool _
 unfold cR;rw[l1,l2]
def lB:bootBuiltins "dict"=some (.type "dict"):=by decide+kernel
end L2
namespace M
open PySem L2 PyProof.Rows
inductive lC(C:Addr)(vs:List V)(H:Hp)(Q:VK)(cP:XK):Prop
 |mk(x dx a1 a2 a3 a4 a5:Addr)(lo ho ow se br:List 0x20)(y dy b1 b2 b3 b4 b5:Addr)(lo' ho' ow' se' br':List 0x20)(D1 D2 D3 D4 E1 E2 E3 E4:List (Prod L2.Key PySem.PyData))(_:vs=[.ref x,.ref y])(_:bT C H x dx a1 a2 a3 a4 a5 lo ho ow se br)(_:bT C H y dy b1 b2 b3 b4 b5 lo' ho' ow' se' br')(_:uD H lo D1)(_:uD H ho D2)(_:uD H ow D3)(_:uD H se D4)(_:uD H lo' E1)(_:uD H ho' E2)(_:uD H ow' E3)(_:uD H se' E4)(_:Q (.bl (cR D1 E1&&(cR D2 E2&&(cR D3 E3&&cR D4 E4)))) H):lC C vs H Q cP
inductive nF(C:Addr)(vs:List V)(H:Hp)(Q:VK)(cP:XK):Prop
 |mk(x dx a1 a2 a3 a4 a5:Addr)(lo ho ow se br:List 0x20)(n:Int)(_:vs=[.ref x])(_:bT C H x dx a1 a2 a3 a4 a5 lo ho ow se br)(_:bH br (.inr "")=some (.int n))(_:1<=n)(_:n<=9999)(_:∀y dy b1 b2 b3 b4 b5 H',Same H H'->bT C H' y dy b1 b2 b3 b4 b5 lo ho ow se br->H y=none->H b1=none->H b2=none->H b3=none->H b4=none->H b5=none->xO b1 b2 b3 b4 b5->Q (.ref y) H'):nF C vs H Q cP
def u64{k:Nat}(r:fK k A):A.units+64<cLine:=by have:=r.un;lia
def RT:aX A5K A5K (aH Ca):=0x0
def Oe(T:eO K C)(F:gF K "same" "Land.same" Ca f fd):aP P w K mg base bV 1 f fd A5K (lC C):=by
 refine F.ok RT 0x3 0x5;obtain⟨x,dx,a1,a2,a3,a4,a5,lo,ho,ow,se,br,y,dy,b1,b2,b3,b4,b5,lo',ho',ow',se',br',D1,D2,D3,D4,E1,E2,E3,E4,rfl,L,L',d1,d2,d3,d4,e1,e2,e3,e4,k⟩:=h;refine⟨_,aF (bh (lO (fW (uE (u64 hr)) 0x1C (bK 0xE rfl) 0x7C) (lO (fW (uE (u64 hr)) 0x1C (bK 0xE rfl) 0x7C) (lO (fW (uE (u64 hr)) 0x1C (bK 0xE rfl) 0x7C) (sE (fW (uE (u64 hr)) 0x1C (bK 0xE rfl) 0x7C)))))),?_⟩;refine⟨_,rfl,x,C,dx,_,_,rfl,L.o,T.cl,T.n1,rfl,_,rfl,y,C,dy,_,_,rfl,L'.o,T.cl,T.n1,rfl,a1,b1,_,_,D1,E1,rfl,rfl,L.l1,L'.l1,d1,e1,_,rfl,?_⟩;cases h1:cR D1 E1 with
 |false=>rw[h1]at k;exact k
 | true=>
  rw[h1]at k;refine⟨_,rfl,x,C,dx,_,_,rfl,L.o,T.cl,T.n2,rfl,_,rfl,y,C,dy,_,_,rfl,L'.o,T.cl,T.n2,rfl,a2,b2,_,_,D2,E2,rfl,rfl,L.l2,L'.l2,d2,e2,_,rfl,?_⟩;cases h2:cR D2 E2 with
  |false=>rw[h2]at k;exact k
  | true=>
   rw[h2]at k;refine⟨_,rfl,x,C,dx,_,_,rfl,L.o,T.cl,T.n3,rfl,_,rfl,y,C,dy,_,_,rfl,L'.o,T.cl,T.n3,rfl,a3,b3,_,_,D3,E3,rfl,rfl,L.l3,L'.l3,d3,e3,_,rfl,?_⟩;cases h3:cR D3 E3 with
   |false=>rw[h3]at k;exact k
   | true=>
    rw[h3]at k;exact⟨_,rfl,x,C,dx,_,_,rfl,L.o,T.cl,T.n4,rfl,_,rfl,y,C,dy,_,_,rfl,L'.o,T.cl,T.n4,rfl,a4,b4,_,_,D4,E4,rfl,rfl,L.l4,L'.l4,d4,e4,k⟩
def Gq:aX A5K A5J (aH Ku):=0x0
def Og(T:eO K C)(F:gF K "twin" "Land.twin" Ku f fd)(mo:QF K w.params mg)(md:mg "dict"=none)(G1:aP P w K mg base bV 3 g1 d1 ["self","acres"] (qF C))(MK1:Mk K C g1)(mR:mg "Land"=some 0x8C)(b1:Binds K d1 ["self","acres"] []):aP P w K mg base bV 5 f fd A5J (nF C):=by
 obtain⟨tc,mC⟩:=mo.crown;refine F.ok Gq 0x3 0x5;obtain⟨x,dx,a1,a2,a3,a4,a5,lo,ho,ow,se,br,n,rfl,L,hb,n1,n2,k⟩:=h;have Ih:fK 4 _:=hr.mono 0x6;refine⟨_,aq (aW (i:=1) Gq.nd rfl 0x9 (rE (CX:=bV) (E:=E0) MK1 G1 Ih rfl mR b1 .nil aU (aj (aN 0x17 0x1C 0x62 0x2) aC)))
  (aq (jJ 0xE (cV iB rfl md lB (aj 0x1C aC)) rfl)
  (aq (jJ 0xE (cV iB rfl md lB (aj 0x1C aC)) rfl)
  (aq (jJ 0xE (cV iB rfl md lB (aj 0x1C aC)) rfl)
  (aq (jJ 0xE (cV iB rfl md lB (aj 0x1C aC)) rfl)
  (aq (jJ 0xE (cV iB rfl md lB (aj 0x1C aC)) rfl)
  (aF (bh 0xE))))))),?_⟩
 refine⟨_,rfl,x,C,dx,_,_,rfl,L.o,T.cl,T.n5,rfl,a5,_,rfl,gn L.l5 hb,fun y dy hy0 hdy0 hne=>?_⟩;refine⟨y,dy,n,rfl,ao,n1,n2,fun c1 c2 c3 c4 c5 t0 H0 kx LA _ _ _ _ _ _ _ _=>⟨rfl,?_⟩⟩;have s0:Same H H0:=fun c o hc=>kx c o 0x87 (by
  rw[ak 0x87,ak (fun z=>by rw[z,hdy0]at hc;cases hc)];exact hc)
 clear kx;have y0:=LA.o;clear LA;refine⟨_,rfl,x,C,dx,_,_,rfl,(L.same s0).o,T.cl,T.n1,rfl,a1,_,rfl,(L.same s0).l1,fun p1 hp1=>?_⟩;have w1:y≠p1:=aA y0 hp1;refine⟨_,rfl,y,C,dy,_,rfl,by rw[ak w1];exact y0,T.cl,T.n1,A1d rfl,?_⟩;have z1:H p1=none:=s0.free hp1;generalize hH:upd _ y _=H1;have y1:H1 y=some (.ins C dy (F5 p1 c2 c3 c4 c5)):=by rw[<-hH,ao];rfl
 have s1:Same H H1:=fun c o hc=>by rw[<-hH,ak 0x87,ak (fun z=>by rw[z,z1]at hc;cases hc)];exact s0 _ _ hc
 have e11:H1 p1=some (.dK lo):=by rw[<-hH,ak (A0k w1),ao]
 clear hH;refine⟨_,rfl,x,C,dx,_,_,rfl,(L.same s1).o,T.cl,T.n2,rfl,a2,_,rfl,(L.same s1).l2,fun p2 hp2=>?_⟩;have w2:y≠p2:=aA y1 hp2;refine⟨_,rfl,y,C,dy,_,rfl,by rw[ak w2];exact y1,T.cl,T.n2,A1d rfl,?_⟩;have z2:H p2=none:=s1.free hp2;generalize hH:upd _ y _=H2;have y2:H2 y=some (.ins C dy (F5 p1 p2 c3 c4 c5)):=by rw[<-hH,ao];rfl
 have s2:Same H H2:=fun c o hc=>by rw[<-hH,ak 0x87,ak (fun z=>by rw[z,z2]at hc;cases hc)];exact s1 _ _ hc
 have e22:H2 p2=some (.dK ho):=by rw[<-hH,ak (A0k w2),ao]
 have n12:=aA e11 hp2;have RB:H2 p1=some (.dK lo):=by rw[<-hH,ak (A0k w1),ak n12];exact e11
 clear hH;refine⟨_,rfl,x,C,dx,_,_,rfl,(L.same s2).o,T.cl,T.n3,rfl,a3,_,rfl,(L.same s2).l3,fun p3 hp3=>?_⟩;have w3:y≠p3:=aA y2 hp3;refine⟨_,rfl,y,C,dy,_,rfl,by rw[ak w3];exact y2,T.cl,T.n3,A1d rfl,?_⟩;have z3:H p3=none:=s2.free hp3;generalize hH:upd _ y _=H3;have y3:H3 y=some (.ins C dy (F5 p1 p2 p3 c4 c5)):=by rw[<-hH,ao];rfl
 have s3:Same H H3:=fun c o hc=>by rw[<-hH,ak 0x87,ak (fun z=>by rw[z,z3]at hc;cases hc)];exact s2 _ _ hc
 have e33:H3 p3=some (.dK ow):=by rw[<-hH,ak (A0k w3),ao]
 have n13:=aA RB hp3;have e13:H3 p1=some (.dK lo):=by rw[<-hH,ak (A0k w1),ak n13];exact RB
 have n23:=aA e22 hp3;have e23:H3 p2=some (.dK ho):=by rw[<-hH,ak (A0k w2),ak n23];exact e22
 clear hH;refine⟨_,rfl,x,C,dx,_,_,rfl,(L.same s3).o,T.cl,T.n4,rfl,a4,_,rfl,(L.same s3).l4,fun p4 hp4=>?_⟩;have w4:y≠p4:=aA y3 hp4;refine⟨_,rfl,y,C,dy,_,rfl,by rw[ak w4];exact y3,T.cl,T.n4,A1d rfl,?_⟩;have z4:H p4=none:=s3.free hp4;generalize hH:upd _ y _=H4;have y4:H4 y=some (.ins C dy (F5 p1 p2 p3 p4 c5)):=by rw[<-hH,ao];rfl
 have s4:Same H H4:=fun c o hc=>by rw[<-hH,ak 0x87,ak (fun z=>by rw[z,z4]at hc;cases hc)];exact s3 _ _ hc
 have e44:H4 p4=some (.dK se):=by rw[<-hH,ak (A0k w4),ao]
 have n14:=aA e13 hp4;have e14:H4 p1=some (.dK lo):=by rw[<-hH,ak (A0k w1),ak n14];exact e13
 have n24:=aA e23 hp4;have e24:H4 p2=some (.dK ho):=by rw[<-hH,ak (A0k w2),ak n24];exact e23
 have n34:=aA e33 hp4;have e34:H4 p3=some (.dK ow):=by rw[<-hH,ak (A0k w3),ak n34];exact e33
 clear hH;refine⟨_,rfl,x,C,dx,_,_,rfl,(L.same s4).o,T.cl,T.n5,rfl,a5,_,rfl,(L.same s4).l5,fun p5 U6=>?_⟩;have w5:y≠p5:=aA y4 U6;refine⟨_,rfl,y,C,dy,_,rfl,by rw[ak w5];exact y4,T.cl,T.n5,A1d rfl,?_⟩;have z5:H p5=none:=s4.free U6;generalize hH:upd _ y _=H5;have y5:H5 y=some (.ins C dy (F5 p1 p2 p3 p4 p5)):=by rw[<-hH,ao];rfl
 have s5:Same H H5:=fun c o hc=>by rw[<-hH,ak 0x87,ak (fun z=>by rw[z,z5]at hc;cases hc)];exact s4 _ _ hc
 have e55:H5 p5=some (.dK br):=by rw[<-hH,ak (A0k w5),ao]
 have n15:=aA e14 U6;have e15:H5 p1=some (.dK lo):=by rw[<-hH,ak (A0k w1),ak n15];exact e14
 have n25:=aA e24 U6;have e25:H5 p2=some (.dK ho):=by rw[<-hH,ak (A0k w2),ak n25];exact e24
 have n35:=aA e34 U6;have e35:H5 p3=some (.dK ow):=by rw[<-hH,ak (A0k w3),ak n35];exact e34
 have n45:=aA e44 U6;have e45:H5 p4=some (.dK se):=by rw[<-hH,ak (A0k w4),ak n45];exact e44
 clear hH;exact⟨_,rfl,k y dy p1 p2 p3 p4 p5 H5 s5 ⟨y5,e15,e25,e35,e45,e55⟩ hy0 z1 z2 z3 z4 z5 ⟨n12,n13,n14,n15,n23,n24,n25,n34,n35,n45⟩⟩
abbrev sAl:Stmt:=top 44
def Gr:Option Str->PyData
 |none=>.none
 |some s=>.str s
abbrev kd(f:aL->PyData)(es:List aL):List 0x74:=es.map fun e=>(Sum.inr e.n,f e)
abbrev Oh(es:List aL):=kd (fun e=>Gr e.lord) es
abbrev hoD(es:List aL):=kd (fun e=>.str e.man) es
abbrev Oi(es:List aL):=kd (fun e=>.int e.own) es
abbrev Gs(es:List aL):=kd (fun e=>.tuple [.int e.due.1,.int e.due.2]) es
def iZ(es es':List aL):Bool:=cR (Oh es) (Oh es')&&(cR (hoD es) (hoD es')&&(cR (Oi es) (Oi es')&&cR (Gs es) (Gs es')))
def Mn(es:List aL):Prop:=∀e∈es,PyData.strOk e.man=true
theorem qK{H:Hp}{f:aL->V}{g:aL->PyData}:∀{es:List aL},(∀e∈es,dM H (f e) (g e)/\(g e).canLay0=true/\(g e).depth<=8)->uD H 0x56 (kd g es)
 |[],_=>.nil
 |y::es,h=>.cons ⟨rfl,h y A0l⟩ (qK (es:=es) fun e he=>h e (lH _ he))
def uF{es:List aL}(W:WF es):uD H 0x96 (Oh es):=qK fun e he=>by
 by_cases hn:e.n=""
 ·obtain⟨c,r,rfl,hc,hl,_⟩:=W.hd;have:e=c:=fO W.nd he A0l (hn.trans hc.symm);rw[this,hl];exact⟨.non,rfl,by decide⟩
 ·obtain⟨p,hp,hm,_⟩:=W.lord e he hn;obtain⟨z,hz,rfl⟩:=cY hm;rw[hp];exact⟨.str _,W.ok z hz,by show PyData.depth (.str _)<=8;exact A1c rfl⟩
def uG{es:List aL}(M:Mn es):uD H (hoL es) (hoD es):=qK fun e he=>⟨.str _,M e he,A1c rfl⟩
def uH{es:List aL}:uD H (lF es) (Oi es):=qK fun e he=>⟨.int _,rfl,A1c rfl⟩
def Dv{es:List aL}(fr:∀e∈es,qT H e.ta e.due.1 e.due.2):uD H (Rb es) (Gs es):=qK fun e he=>⟨.tup (fr e he) (.cons (.int _) (.cons (.int _) .nil)),rfl,A1c rfl⟩
def Oj{es:List aL}(fr:∀e∈es,qT H e.tb e.due.1 e.due.2):uD H (qU es) (Gs es):=qK fun e he=>⟨.tup (fr e he) (.cons (.int _) (.cons (.int _) .nil)),rfl,A1c rfl⟩
structure Ld(C:Addr)(q:Ad)(H:Hp)(es:List aL):Prop where
 L:Ln C q H es
 fr:∀e∈es,qT H e.ta e.due.1 e.due.2
 W:WF es
 M:Mn es
def Ld.Av{q q':Ad}{es es':List aL}{Q:VK}{E:XK}(a:Ld C q H es)(b:Ld C q' H es')(k:Q (.bl (iZ es es')) H):lC C [.ref q.x,.ref q'.x] H Q E:=
 ⟨q.x,q.dx,q.a1,q.a2,q.a3,q.a4,q.a5,_,_,_,_,_,q'.x,q'.dx,q'.a1,q'.a2,q'.a3,q'.a4,q'.a5,_,_,_,_,_,Oh es,hoD es,Oi es,Gs es,Oh es',hoD es',Oi es',Gs es',rfl,a.L,b.L,uF a.W,uG a.M,uH,Dv a.fr,uF b.W,uG b.M,uH,Dv b.fr,k⟩
def Ol{D:List 0x74}(nd:(D.map (·.1)).Nodup)(ly:∀x∈D,x.2.canLay0=true):∀x∈D,yD D x=true:=by
 have at':∀{D:List 0x74}{x:Key×PyData},(D.map (·.1)).Nodup->x∈D->Jh D x.1=some x.2:=by
  intro D
  induction D with
  |nil=>intro x _ h;cases h
  | cons y D ih=>
   intro x nd h;have nd':=A0z.mp nd;unfold Jh;rcases A0c.mp h with rfl|h
   ·rw[A1y 0x8];rfl
   ·have hn:y.1≠x.1:=fun z=>nd'.1 (by show y.1∈_;rw[z];exact A0h.mpr ⟨x,h,rfl⟩)
    rw[A1z (by simpa using hn)];exact ih nd'.2 h
 intro x hx;unfold yD;rw[at' nd hx];exact PySem.SeqAt.eqv_refl _ (ly x hx)
def pX{D:List 0x74}(nd:(D.map (·.1)).Nodup)(ly:∀x∈D,x.2.canLay0=true):cR D D=true:=by
 unfold cR;rw[A2y,Bool.true_and];exact A1w.mpr (Ol nd ly)
def RV{f:aL->PyData}(es:List aL):(kd f es).map (·.1)=(0x31).map Sum.inr:=by
 show(es.map _).map _=(es.map _).map _
 rw[A0N,A0N];rfl
def Gu{f:aL->PyData}{es:List aL}(W:WF es):((kd f es).map (·.1)).Nodup:=by
 rw[RV];exact List.pairwise_map.mpr (W.nd.imp fun h z=>h (Sum.inr.inj z))
def lay_of:∀{kvs:List 0x45}{D:List 0x74},uD H kvs D->∀x∈D,x.2.canLay0=true:=by
 intro kvs D h
 induction h with
 |nil=>intro x hx;cases hx
 | cons hq _ ih=>
  intro x hx;rcases A0c.mp hx with rfl|hx
  ·exact hq.2.2.1
  ·exact ih x hx
def same_self{q:Ad}{es:List aL}(a:Ld C q H es):iZ es es=true:=by
 unfold iZ;rw[pX (Gu a.W) (lay_of (H:=H) (uF a.W)),pX (Gu a.W) (lay_of (H:=H) (uG a.M)),pX (Gu a.W) (lay_of (H:=H) uH),pX (Gu a.W) (lay_of (H:=H) (Dv a.fr))];rfl
def Gv{f:aL->PyData}(h:∀e,f (core e)=f e)(es:List aL):kd f 0x36=kd f es:=by
 show(0x36).map _=es.map _
 rw[A0N];exact A1e fun e _=>by show(Sum.inr (core e).n,f (core e))=(Sum.inr e.n,f e);rw[h];rfl
def Gw{f:aL->PyData}(hf:∀e,f (core e)=f e){es es':List aL}(h:es.map core=es'.map core):kd f es=kd f es':=by
 rw[<-Gv hf es,h,Gv hf es']
def qL{es es' fs:List aL}(h:es.map core=es'.map core):iZ es fs=iZ es' fs:=by
 unfold iZ;rw[show Oh es=Oh es' from Gw 0xC h,show hoD es=hoD es' from Gw 0xC h,show Oi es=Oi es' from Gw 0xC h,show Gs es=Gs es' from Gw 0xC h]
structure Bd2(q:Ad)(H:Hp)(es:List aL)(ks:List Str):Prop where
 B:Bk q H es ks
 fr:∀e∈es,qT H e.tb e.due.1 e.due.2
 W:WF es
 M:Mn es
inductive Xb(vs:List V)(H:Hp)(Q:VK)(cP:XK):Prop
 |mk(q q':Ad)(es es':List aL)(ks ks':List Str)(_:vs=[.ref q.B,.ref q'.B])(_:Bd2 q H es ks)(_:Bd2 q' H es' ks')(_:∀H',Same H H'->Q (.bl (iZ es es')) H'):Xb vs H Q cP
def scAl:aX A5s A5s (aH sAl):=0x0
def a0U:Scope:={kind:=.function,names:=[0x40,("_law_word",.local),("_law_one",.free),("_law_other",.free)],isGenerator:=false,isCoroutine:=false}
def a0V:cM A5s (aH sAl) a0U ["_law_word"] A5s [0,1]:=0x7
def a0W:((["_law_word"]:List Str)++(A5s:List Str)).Nodup:=by decide+kernel
def sdE(es es':List aL)(z:Str):Bool:=if z="lords" then cR (Oh es) (Oh es')else if z="holders" then cR (hoD es) (hoD es')else if z="own" then cR (Oi es) (Oi es')else cR (Gs es) (Gs es')
def RW(es es':List aL):((["lords","holders","own","due"]:List Str).map (sdE es es')).all id=iZ es es':=by
 unfold iZ;rw[<-Bool.and_true (cR (Gs es) (Gs es'))];rfl
def a0X(F:gF K "_law_alike" "_law_alike" sAl f fd)(ma:mg "all"=none):aP P w K mg base bV 1 f fd A5s Xb:=by
 refine F.ok scAl 0x3 0x5;obtain⟨q,q',es,es',ks,ks',rfl,b,b',k⟩:=h;refine⟨_,aF (bh (aY (jR (K:=K) rfl hr.hd) rfl ma sX (aj (gj rfl a0V (eU (dZ (aj aG (aj aG (aj aG 0x94))))) (fun s H fp C'=>⟨bf (i:=0) a0W rfl 0x9,jE,(fW (uE (u64 hr)) (aN 0x17 0xE 0x11 0x2) (aN 0x17 0x37 0x11 0x2) 0x7C)⟩)) aC))),?_⟩;refine⟨small 0x8,fun c hc=>?_⟩
 apply 0o1 H c hc s1 hk0 H1
 have k1:H1 c=some (.lst ((["lords","holders","own","due"]:List Str).map V.str)):=hk0;refine⟨c,rfl,⟨_,bF.of k1⟩,fun D hD=>dR (xs:=["lords","holders","own","due"]) (fun _=>true) (fun z=>V.bl (sdE es es' z)) (bF.of k1) hD 0x6 0x83 (fun Hz sz gJ=>?_)⟩
 ·have sz:=s1.trans sz;have bz:=b.B.same sz;have Ub:=b'.B.same sz;have:=hAB _ 0x41;rw[A0i rfl]at this;refine⟨Kp.set rfl 0x39,iM ?_⟩;simp only[A0c,A0j,A0V]at hx;rcases hx with rfl|rfl|rfl|rfl
  ·exact⟨_,rfl,_,rfl,q.B,_,rfl,bz.gl,_,rfl,_,rfl,q'.B,_,rfl,Ub.gl,_,_,_,_,_,_,rfl,rfl,bz.l,Ub.l,uF b.W,uF b'.W,this⟩
  ·exact⟨_,rfl,_,rfl,q.B,_,rfl,bz.gh,_,rfl,_,rfl,q'.B,_,rfl,Ub.gh,_,_,_,_,_,_,rfl,rfl,bz.h,Ub.h,uG b.M,uG b'.M,this⟩
  ·exact⟨_,rfl,_,rfl,q.B,_,rfl,bz.go,_,rfl,_,rfl,q'.B,_,rfl,Ub.go,_,_,_,_,_,_,rfl,rfl,bz.o,Ub.o,uH,uH,this⟩
  ·exact⟨_,rfl,_,rfl,q.B,_,rfl,bz.gd,_,rfl,_,rfl,q'.B,_,rfl,Ub.gd,_,_,_,_,_,_,rfl,rfl,bz.d,Ub.d,Oj fun e he=>sz _ _ (b.fr e he),Oj fun e he=>sz _ _ (b'.fr e he),this⟩
 have e1:((["lords","holders","own","due"]:List Str).filter fun _=>true).map (fun z=>V.bl (sdE es es' z))=((["lords","holders","own","due"]:List Str).map (sdE es es')).map V.bl:=by rw[qH,A0N];rfl
 rw[e1]at gJ;refine⟨D,_,rfl,bF.of gJ,?_⟩;rw[RW];exact k _ (s1.trans sz)
end M
namespace L2
open PySem PySem.Spec PyProof.Rows
inductive gLst(K:W.Frag)(n:Nat)(t:Pz)(v:V)(σ:L2.St)(H:Hp)(Q:L2.St->Hp->Prop):Prop
 |mk(a:Addr)(xs:List V)(_:v=.ref a)(_:bF K H a xs)(_:xs.length=n)(_:t xs σ H Q):gLst K n t v σ H Q
def Xc{es:List Expr}{k:Nat}{t:Pz}(hc:X.calm=true)(h:Y7 X es t)
  (hn:(0x65).length=n:=by rfl)(hst:(0x65).findIdx? (·.1)=none:=by rfl):PG X (.Tuple es k pos) (gLst X.K n t):=by
 intro pins s σ H v u Q I r hw;obtain⟨a,xs,e1,hq,hl,hw⟩:=hw;subst e1;cases r;obtain⟨its,rv,ht,_⟩:=I.list hq;rw[assign_Tuple];refine A0a (A1Y ?_);unfold unpack;rw[hst,show(0x65).length=its.toArray.size by simp[hn,<-hl,rv.length]]
 refine A0a (A2q (PySem.W.kun_itemsOf 0x95 ht.isList fun h' hx=>?_));have I1:Inv X pins σ H {s with heap:=h'}:=I.kept (t':=s.toks) fun b o e=>hx b o (A0I (A0q e)) e;exact h pins _ σ H xs _ Q I1 (by simpa using rv) hw
end L2
namespace M
open PySem L2 PyProof.Rows
abbrev sSp:Stmt:=top 45
def Same.over(s:Same H H')(h:H r=none)(o:HO):Same H (upd H' r o):=fun c u e=>by
 rw[ak (aA e h)];exact s c u e
inductive Xd(C:Addr)(vs:List V)(H:Hp)(Q:VK)(cP:XK):Prop
 |mk(q:Ad)(es:List aL)(_:vs=[.ref q.x])(_:Ln C q H es)(_:WF es)(_:es.length<=18)(_:∀H',Same H H'->Q .non H'):Xd C vs H Q cP
def scSp:aX ["_law_land","_law_estate"] ["_law_land"] (aH sSp):=0x0
def a0Y(T:eO K C)(F:gF K "_law_spoilt_lists" "_law_spoilt_lists" sSp f fd) 
  (G1:aP P w K mg base bV 1 g1 d1 A5J (mY C))(m1:Meth K C "estates" g1)(b1:Binds K d1 A5J [])
  (G2:aP P w K mg base bV 1 g2 d2 A5J (yh C))(m2:Meth K C "folk" g2)(b2:Binds K d2 A5J [])
  (G3:aP P w K mg base bV 3 g3 d3 A5c (rJ C))(m3:Meth K C "chain" g3)(b3:Binds K d3 A5c [])
  (G4:aP P w K mg base bV 1 g4 d4 ["self","man"] (xQ C))(m4:Meth K C "held" g4)(b4:Binds K d4 ["self","man"] [])
  (G5:aP P w K mg base bV 3 g5 d5 A5c (pI C))(m5:Meth K C "under" g5)(b5:Binds K d5 A5c [])
  (G6:aP P w K mg base bV 3 g6 d6 A5c (pH C))(m6:Meth K C "holder" g6)(b6:Binds K d6 A5c []):
  aP P w K mg base bV 4 f fd ["_law_land"] (Xd C):=by
 refine F.ok scSp 0x3 0x5;obtain⟨q,es,rfl,L,W,hl,k⟩:=h;have hr1:fK 1 _:=hr.mono 0x6;refine⟨_,(aq (bJ (jD A0J A0R A0S cX (iK 0x11 T.cl m1 G1 hr1 b1 .nil aU) 0x94))
  (aq (bJ (wY (name:="clear") A0J A2I A2J oW (iK 0x11 T.cl m2 G2 hr1 b2 .nil aU)))
  (aq (bJ (jD A0J A0R A0S cX (bG 0x11 T.cl m3 G3 hr b3 .nil aU 0x94) 0x94))
  (aq (bJ (wY (name:="clear") A0J A2I A2J oW (bG 0x11 T.cl m4 G4 hr1 b4 .nil aU 0x94)))
  (aF (eZ A0M rfl (eU (iK 0x11 T.cl m1 G1 hr1 b1 .nil aU)) (bf (i:=1) scSp.nd rfl 0x9)
   (aq (bJ (wY (name:="clear") A0J A2I A2J oW (bG 0x11 T.cl m3 G3 hr b3 .nil aU 0x4D)))
   (aq (bJ (jD A0J A0R A0S cX (bG 0x11 T.cl m5 G5 hr b5 .nil aU 0x4D) 0x94))
   (aF (bJ (wY (name:="clear") A0J A2I A2J oW (bG 0x11 T.cl m4 G4 hr1 b4 .nil aU (aj (bG 0x11 T.cl m6 G6 hr b6 .nil aU 0x4D) aC))))))))))))),?_⟩
 have kl:∀{f:aL->V},(0x56).length<64:=fun{f}=>by rw[gq];lia
 have hs:∀{e:aL},e∈es->(bH 0x96 (.inr e.n)).isSome=true:=fun{e}he=>by rw[jt,A0t (A0h.mpr ⟨e,he,rfl⟩)]
 have sz:∀{zs:List Str}{n:Nat},zs.length<=n->n<=1000->(zs.map V.str).length<sizeLine:=fun h1 h2=>by rw[bY];exact bO 0x1
 have el:∀{zs:List Str},zs.Perm (((0x96).filter fun kv=>!decide (iz kv="")).map iz)->zs.length<=18:=fun h=>by
  rw[h.length_eq,bY];exact A0L (A0s _ _) (by rw[gq];exact hl)
 obtain⟨e0,Jg,en0⟩:=cY W.W0;obtain⟨l0,hc0,hl0⟩:=W.chain Jg;rw[en0]at hc0;have hs0:(bH 0x96 (.inr "")).isSome=true:=by rw[<-en0];exact hs Jg
 refine⟨_,rfl,q.x,q.dx,_,rfl,L.o,rfl,q.x,q.dx,q.a1,q.a2,q.a3,q.a4,q.a5,_,_,_,_,_,rfl,L,pR,kl,fun r1 ss1 H1 s1 n1 k1 p1 _=>⟨.inl ⟨rfl,_,bF.of k1⟩,r1,_,_,rfl,rfl,k1,sz (el p1) 0x6,?_⟩⟩;have s1:=Same.over s1 n1 (.lst (ss1.map V.str++[.str "x"]));generalize upd H1 r1 _=H1' at s1 ⊢;have L1:=L.same s1;refine⟨_,rfl,q.x,q.dx,_,rfl,L1.o,rfl,q,es,rfl,L1,by lia,fun r2 ss2 H2 s2 n2 k2 _ _=>⟨.inl ⟨rfl,_,bF.of k2⟩,r2,_,rfl,rfl,k2,?_⟩⟩;have s2:=s1.trans (Same.over s2 n2 0x6D);generalize upd H2 r2 _=H2' at s2 ⊢;have L2:=L.same s2;refine⟨_,rfl,q.x,q.dx,_,rfl,L2.o,rfl,q.x,q.dx,q.a1,q.a2,q.a3,q.a4,q.a5,_,_,_,_,_,"",l0,rfl,L2,hs0,hc0,by lia,fun r3 H3 s3 n3 k3=>⟨.inl ⟨rfl,_,bF.of k3⟩,r3,_,_,rfl,rfl,k3,sz hl0 0x1,?_⟩⟩;have s3:=s2.trans (Same.over s3 n3 (.lst (l0.map V.str++[.str "x"])));generalize upd H3 r3 _=H3' at s3 ⊢;have L3:=L.same s3;refine⟨_,rfl,q.x,q.dx,_,rfl,L3.o,rfl,q.x,q.dx,q.a1,q.a2,q.a3,q.a4,q.a5,_,_,_,_,_,"",rfl,L3,pR,Mv,kl,fun r4 ss4 H4 s4 n4 k4 _ _=>⟨.inl ⟨rfl,_,bF.of k4⟩,r4,_,rfl,rfl,k4,?_⟩⟩;have s4:=s3.trans (Same.over s4 n4 0x6D);generalize upd H4 r4 _=H4' at s4 ⊢;have L4:=L.same s4;refine⟨_,rfl,q.x,q.dx,_,rfl,L4.o,rfl,q.x,q.dx,q.a1,q.a2,q.a3,q.a4,q.a5,_,_,_,_,_,rfl,L4,pR,kl,fun r5 ss H5 s5 n5 k5 p5 _=>?_⟩;have s5:=s4.trans s5;rw[rO]at p5;refine⟨r5,rfl,⟨_,bF.of k5⟩,lV (K:=K) (a:=r5) (xs:=ss.map V.str) (fun i σ Hx=>(∃u,σ=[some (.ref q.x),u])/\Same H5 Hx) ⟨⟨none,rfl⟩,Same.refl _⟩ (fun i σ Hx _ h=>bF.of (h.2 _ _ k5)) ?_ ?_⟩
 ·rintro i v σ Hx hv ⟨⟨u,rfl⟩,sx⟩;rw[lJ]at hv;obtain⟨en,hen,rfl⟩:=A1b.mp hv;obtain⟨e,he,rfl⟩:=A0h.mp (p5.mem_iff.mp (oF hen));have he:=(A0y.mp he).1;obtain⟨l1,hc1,hl1⟩:=W.chain he;have Lx:=L.same (s5.trans sx);refine⟨_,rfl,q.x,q.dx,_,rfl,Lx.o,rfl,_,rfl,q.x,q.dx,q.a1,q.a2,q.a3,q.a4,q.a5,_,_,_,_,_,e.n,l1,rfl,Lx,hs he,hc1,by lia,fun r6 H6 s6 n6 k6=>⟨.inl ⟨rfl,_,bF.of k6⟩,r6,_,rfl,rfl,k6,?_⟩⟩;have s6:=sx.trans (Same.over s6 n6 0x6D);generalize upd H6 r6 _=H6' at s6 ⊢;have L6:=L.same (s5.trans s6);refine⟨_,rfl,q.x,q.dx,_,rfl,L6.o,rfl,_,rfl,q.x,q.dx,q.a1,q.a2,q.a3,q.a4,q.a5,_,_,_,_,_,e.n,rfl,L6,hs he,pR,Mu,kl,fun r7 us H7 s7 n7 k7 p7 _=>⟨.inl ⟨rfl,_,bF.of k7⟩,r7,_,_,rfl,rfl,k7,sz (n:=18) (by rw[p7.length_eq,bY];exact A0L (A0s _ _) (by rw[gq];exact hl)) 0x6,?_⟩⟩;have s7:=s6.trans (Same.over s7 n7 (.lst (us.map V.str++[.str "x"])));generalize upd H7 r7 _=H7' at s7 ⊢;have L7:=L.same (s5.trans s7);refine⟨_,rfl,q.x,q.dx,_,rfl,L7.o,rfl,_,rfl,q.x,q.dx,_,rfl,L7.o,rfl,_,rfl,q.x,q.dx,q.a1,q.a2,q.a3,q.a4,q.a5,_,_,_,_,_,e.n,_,rfl,L7,hs he,cu W.nd he,q.x,q.dx,q.a1,q.a2,q.a3,q.a4,q.a5,_,_,_,_,_,e.man,rfl,L7,pR,Mv,kl,fun r8 us8 H8 s8 n8 k8 _ _=>⟨.inl ⟨rfl,_,bF.of k8⟩,r8,_,rfl,rfl,k8,⟨_,rfl⟩,s7.trans (Same.over s8 n8 0x6D)⟩⟩
 ·rintro σ Hx ⟨⟨u,rfl⟩,sx⟩;exact k _ (s5.trans sx)
def Bc(q:Ad):List Addr:=[q.a1,q.a2,q.a3,q.a4,q.a5]
def Dw(q q':Ad):Prop:=∀a∈Bc q,∀b∈Bc q',a≠b
def Dw.symm{q q':Ad}(d:Dw q q'):Dw q' q:=fun a ha b hb e=>d b hb a ha e.symm
def nM.of{q:Ad}(o:nM q H H'){u:HO}(h:c∉Bc q)(e:H c=some u):H' c=some u:=by
 simp only[Bc,A0c,A0j,A0V,A3v]at h;exact o c u h.1 h.2.1 h.2.2.1 h.2.2.2.1 h.2.2.2.2 e
def Uc{q:Ad}{es:List aL}(L:Ln C q H es):∀a∈Bc q,∃m,H a=some (.dK m):=by
 intro a ha;simp only[Bc,A0c,A0j,A0V]at ha;rcases ha with rfl|rfl|rfl|rfl|rfl
 ·exact⟨_,L.l1⟩
 ·exact⟨_,L.l2⟩
 ·exact⟨_,L.l3⟩
 ·exact⟨_,L.l4⟩
 ·exact⟨_,L.l5⟩
def yE{q:Ad}{es:List aL}(L:Ln C q H es)(o:nM q H H'){u:HO}(hu:∀m,u≠.dK m)(e:H c=some u):H' c=some u:=by
 refine o.of (fun h=>?_) e;obtain⟨m,hm⟩:=Uc L c h;rw[hm]at e;exact hu m (A0O e).symm
def Ln.keep{q q':Ad}{es es':List aL}(b:Ln C q H es)(a:Ln C q' H es')(o:nM q H H')(d:Dw q q'):Ln C q' H' es':=by
 have g:∀{c:Addr}{u:HO},c∈Bc q'->H c=some u->H' c=some u:=fun hc e=>o.of (fun h=>d _ h _ hc rfl) e;exact⟨yE b o (fun m z=>nomatch z) a.o,g (by simp[Bc]) a.l1,g (by simp[Bc]) a.l2,g (by simp[Bc]) a.l3,g (by simp[Bc]) a.l4,g (by simp[Bc]) a.l5⟩
def Ld.keep{q q':Ad}{es es':List aL}(b:Ln C q H es)(a:Ld C q' H es')(o:nM q H H')(d:Dw q q'):Ld C q' H' es':=
 ⟨Ln.keep b a.L o d,fun e he=>yE b o (fun m z=>by cases z) (a.fr e he),a.W,a.M⟩
def Ld.same{q:Ad}{es:List aL}(a:Ld C q H es)(s:Same H H'):Ld C q H' es:=⟨a.L.same s,fun e he=>s _ _ (a.fr e he),a.W,a.M⟩
def Ld.twin{q:Ad}{es:List aL}{Q:VK}{E:XK}(a:Ld C q H es)(cr:∀e∈es,e.n=""->e.br=wd)(w1:1<=wd)(w2:wd<=9999)
  (k:∀y dy b1 b2 b3 b4 b5 H',Same H H'->Ld C {q with x:=y,dx:=dy,a1:=b1,a2:=b2,a3:=b3,a4:=b4,a5:=b5} H' es->xO b1 b2 b3 b4 b5->(∀c∈[b1,b2,b3,b4,b5],H c=none)->Q (.ref y) H'):nF C [.ref q.x] H Q E:=by
 obtain⟨e0,Jg,en0⟩:=cY a.W.W0;refine⟨q.x,q.dx,q.a1,q.a2,q.a3,q.a4,q.a5,_,_,_,_,_,wd,rfl,a.L,?_,w1,w2,fun y dy b1 b2 b3 b4 b5 H' s L n0 n1 n2 n3 n4 n5 ap=>k y dy b1 b2 b3 b4 b5 H' s ⟨L,fun e he=>s _ _ (a.fr e he),a.W,a.M⟩ ap fun c hc=>?_⟩
 ·rw[<-en0,cu a.W.nd Jg,cr e0 Jg en0]
 ·simp only[A0c,A0j,A0V]at hc;rcases hc with rfl|rfl|rfl|rfl|rfl<;>assumption
def Ld.grant{q:Ad}{es:List aL}{y:aL}{n m:Str}{a s:Int}{Q:VK}{E:XK}(d:Ld C q H es)(a5:xO q.a1 q.a2 q.a3 q.a4 q.a5)(hy:y∈es)(hn:n∉nms es)(on:PyData.strOk n=true)(om:PyData.strOk m=true)(h0:0<=a)(h1:a<=y.own)(ln:es.length<=100)
  (k:∀t H',Ld C q H' (stp y es t 0 0 0 0x38)->nM q H H'->Q .non H'):jF C [.ref q.x,.str y.n,.str n,.str m,.int a,.int s] H Q E:=by
 refine Al d.L a5 d.W hy hn (by intro f;rw[gq];lia) fun t H' hL f1 o1=>k t H' ⟨hL 0 0,fun e he=>?_,WF.new d.W hy (x:=nT y.n n m a s t 0) 0xC 0xC rfl h0 h1 hn on rfl rfl (.inl ⟨rfl,rfl⟩),fun e he=>?_⟩ o1
 ·rcases A0u.mp he with c|c
  ·obtain⟨e0,Jg,rfl⟩:=cH c;have:=yE d.L o1 (fun m z=>by cases z) (d.fr e0 Jg)
   split
   ·exact this
   ·exact this
  ·rw[A0e.mp c];exact f1
 ·rcases A0u.mp he with c|c
  ·obtain⟨e0,Jg,rfl⟩:=cH c;have:=d.M e0 Jg
   split
   ·exact this
   ·exact this
  ·rw[A0e.mp c];exact om
structure Fam(C:Addr)(H:Hp)(qe:List (Ad×List aL)):Prop where
 ld:∀p∈qe,Ld C p.1 H p.2
 ds:qe.Pairwise fun a b=>Dw a.1 b.1
def Fam.same{qe:List (Ad×List aL)}(f:Fam C H qe)(s:Same H H'):Fam C H' qe:=⟨fun p hp=>(f.ld p hp).same s,f.ds⟩
def Fam.snoc{qe:List (Ad×List aL)}{q:Ad}{es:List aL}(f:Fam C H qe)(s:Same H H')(d:Ld C q H' es)(n:∀c∈Bc q,H c=none):Fam C H' (qe++[(q,es)]):=by
 refine⟨fun p hp=>?_,List.pairwise_append.mpr ⟨f.ds,A3G _ _,fun p hp p' hp' a ha b hb e=>?_⟩⟩
 ·rcases A0u.mp hp with c|c
  ·exact(f.ld p c).same s
  ·rw[A0e.mp c];exact d
 ·rw[A0e.mp hp']at hb;obtain⟨m,hm⟩:=Uc (f.ld p hp).L a ha;rw[e,n b hb]at hm;cases hm
def Fam.dis{qe:List (Ad×List aL)}(f:Fam C H qe){p p':Ad×List aL}(hi:qe[i]?=some p)(hj:qe[j]?=some p')(ne:i≠j):Dw p.1 p'.1:=by
 obtain⟨li,ei⟩:=A0p.mp hi;obtain⟨lj,ej⟩:=A0p.mp hj;rcases A3w ne with h|h
 ·have:=A0W.mp f.ds i j li lj h
  rwa [ei,ej]at this
 ·have:=A0W.mp f.ds j i lj li h;rw[ei,ej]at this;exact this.symm
def Fam.set{qe:List (Ad×List aL)}(f:Fam C H qe){p:Ad×List aL}{es':List aL}(hi:qe[i]?=some p)(o:nM p.1 H H')(d:Ld C p.1 H' es'):Fam C H' (qe.set i (p.1,es')):=by
 have li:=(A0p.mp hi).1;have L:=(f.ld p (oF hi)).L;have key:∀(j:Nat)(z:Ad×List aL),(qe.set i (p.1,es'))[j]?=some z->Ld C z.1 H' z.2/\∃z0,qe[j]?=some z0/\z0.1=z.1:=by
  intro j z hz;rw[A3O]at hz
  split at hz
  ·rename_i c
   subst c;cases hz;exact⟨d,p,hi,rfl⟩
  ·rename_i c
   exact⟨Ld.keep L (f.ld z (oF hz)) o (f.dis hi hz c),z,hz,rfl⟩
 refine⟨fun z hz=>?_,A0W.mpr fun j k hj hk hl=>?_⟩
 ·obtain⟨j,hj⟩:=A3Q.mp hz;exact(key j z hj).1
 ·obtain⟨_,z,hz,e⟩:=key j _ (jo hj);obtain⟨_,z',hz',e'⟩:=key k _ (jo hk);rw[<-e,<-e'];exact f.dis hz hz' 0x1
def Xe{D D':List 0x74}{k:Key}{v v':PyData}(h:(k,v)∈D)(h':Jh D' k=some v')(ne:PyData.eqv v v'=false):cR D D'=false:=by
 unfold cR;rw[Bool.and_eq_false_iff];refine .inr (A4z.mpr fun z=>?_);have:=A1w.mp z _ h;unfold yD at this;rw[h']at this;exact absurd (ne.symm.trans this) 0x6
def a0Z{f:aL->PyData}{es:List aL}{e:aL}:(0x31).Nodup->e∈es->Jh (kd f es) (.inr e.n)=some (f e):=by
 induction es with
 |nil=>intro _ h;cases h
 | cons y r ih=>
  intro nd he;have nd':=A0z.mp nd;unfold Jh;rcases A0c.mp he with rfl|he
  ·rw[show kd f (e::r)=(Sum.inr e.n,f e)::kd f r from rfl,A1y 0x8];rfl
  ·have hn:y.n≠e.n:=fun z=>nd'.1 (by show y.n∈nms r;rw[z];exact A0h.mpr ⟨e,he,rfl⟩)
   rw[show kd f (y::r)=(Sum.inr y.n,f y)::kd f r from rfl,A1z (by simpa using hn)]
   exact ih nd'.2 he
def Om{f:aL->PyData}{es es':List aL}{e e':aL}(nd:(nms es').Nodup)(he:e∈es)(he':e'∈es')(hn:e.n=e'.n)(ne:PyData.eqv (f e) (f e')=false):cR (kd f es) (kd f es')=false:=
 Xe (k:=.inr e.n) (A0h.mpr ⟨e,he,rfl⟩) (by rw[hn];exact a0Z nd he') ne
def RX{a b:Int}(h:a≠b):PyData.eqv (.int a) (.int b)=false:=by
 simpa[PyData.eqv]using h
def RZ{a b:Str}(h:a≠b):PyData.eqv (.str a) (.str b)=false:=by
 simpa[PyData.eqv]using h
def Gx(a b c d:Int):PyData.eqv (.tuple [.int a,.int b]) (.tuple [.int c,.int d])=(decide (a=c)&&decide (b=d)):=by
 simp[PyData.eqv,PyData.eqvAll];rfl
def S5{q q':Ad}{es es1 es2:List aL}{y:aL}{n m:Str}{a a' s s':Int}(W:WF es)(hn:n∉nms es)(d1:Ld C q H es1)(d2:Ld C q' H es2)(e1:es1.map core=(stp y es 0 0 0 0 0x38).map core)(e2:es2.map core=(stp y es 0 0 0 0 (.grant y.n n m a' s')).map core):iZ es1 es2=(decide (a=a')&&decide (s=s')):=by
 have mem:∀{zs:List aL}{a s:Int},zs.map core=(stp y es 0 0 0 0 0x38).map core->∃z∈zs,z.n=n/\z.own=a/\z.due=(s,1):=fun{zs a s}h=>by
  have:core (nT y.n n m a s 0 0)∈zs.map core:=by
   rw[h];exact A0h.mpr ⟨_,A0H _ (A0e.mpr rfl),rfl⟩
  obtain⟨z,hz,ez⟩:=A0h.mp this;exact⟨z,hz,A1r aL.n ez,A1r aL.own ez,A1r aL.due ez⟩
 obtain⟨z1,h1,n1,o1,u1⟩:=mem e1;obtain⟨z2,h2,n2,o2,u2⟩:=mem e2;have nn:=n1.trans n2.symm
 by_cases ca:a=a'
 ·by_cases cs:s=s'
  ·subst ca;subst cs;rw[A0t rfl,A0t rfl];rw[qL (e1.trans e2.symm)];exact same_self d2
  ·rw [A0K cs,A2G];have:cR (Gs es1) (Gs es2)=false:=Om (f:=fun e=>.tuple [.int e.due.1,.int e.due.2]) d2.W.nd h1 h2 nn (by
    show PyData.eqv (.tuple [.int z1.due.1,.int z1.due.2]) (.tuple [.int z2.due.1,.int z2.due.2])=false
    rw[u1,u2,Gx,A0K cs,A3a])
   unfold iZ;rw[this,A2G,A2G,A2G]
 ·rw [A0K ca,A3a];have:cR (Oi es1) (Oi es2)=false:=Om (f:=fun e=>.int e.own) d2.W.nd h1 h2 nn (by
   show PyData.eqv (.int z1.own) (.int z2.own)=false
   rw[o1,o2];exact RX ca)
  unfold iZ;rw[this,A3a,A2G,A2G]
def Oo{es1 es2:List aL}{z1 z2:aL}{a b:Str}(nd:(nms es2).Nodup)(h1:z1∈es1)(h2:z2∈es2)(nn:z1.n=z2.n)(l1:z1.lord=some a)(l2:z2.lord=some b)(ne:a≠b):iZ es1 es2=false:=by
 have:cR (Oh es1) (Oh es2)=false:=Om (f:=fun e=>Gr e.lord) nd h1 h2 nn (by
  show PyData.eqv (Gr z1.lord) (Gr z2.lord)=false
  rw[l1,l2];exact RZ ne)
 unfold iZ;rw[this,A3a]
def Oq{i:Int}(h:∀z∈ms,PyData.strOk z=true):PyData.strOk (rB ms i)=true:=by
 unfold rB
 split
 ·rename_i z e
  refine h z ?_;have:V.str z∈ms.map V.str:=by
   obtain⟨j,_,e⟩:=Option.bind_eq_some_iff.mp e;exact oF e
  obtain⟨z',h1,h2⟩:=A0h.mp this;cases h2;exact h1
 ·decide+kernel
def Rw.Mo:Rw->Prop
 | .grant _ _ m _ _=>PyData.strOk m=true
 | .part _ _ m _=>PyData.strOk m=true
 | .convey _ m=>PyData.strOk m=true
 | .jY _=>True
def a00{nm:List Str}{ow:Str->Int}{d:Int->Int}(h:∀z∈ms,PyData.strOk z=true):(Oa nm ow ks ms ls d).Mo:=by
 unfold Oa
 split
 ·rename_i bU e
  unfold J9 O7 at e;have:=Oq (i:=d 2%((ms.map V.str).length:Int)) h
  split at e
  ·cases e;exact this
  ·split at e
   ·cases e;exact this
   ·split at e
    ·cases e;exact this
    ·split at e
     ·cases e;exact True.intro
     ·cases e
 ·exact Oq h
def Xf{es:List aL}{y:aL}{bU:Rw}(M:Mn es)(o:bU.Mo):Mn 0x33:=by
 intro z hz;cases bU with
 | grant e n m a s=>
  rcases A0u.mp hz with c|c
  ·obtain⟨z0,h1,rfl⟩:=cH c;have:=M z0 h1
   split
   ·exact this
   ·exact this
  ·rw[A0e.mp c];exact o
 | part e n m a=>
  rcases A0u.mp hz with c|c
  ·obtain⟨z0,h1,rfl⟩:=cH c;have:=M z0 h1
   split
   ·exact this
   ·exact this
  ·rw[A0e.mp c];exact o
 | convey e m=>
  obtain⟨z0,h1,rfl⟩:=cH hz;have:=M z0 h1
  split
  ·exact o
  ·exact this
 | jY e=>
  obtain⟨z0,h1,rfl⟩:=A0h.mp hz;exact M z0 (A0y.mp h1).1
theorem Ot{ms ls:List Str}{fs:List Int}{at_:Nat}{s:List aL×List Str}(h:∀z∈ms,PyData.strOk z=true)(M:Mn s.1):∀n,Mn (yC ms ls fs at_ n s).1
 |0=>M
 | n+1=>by
  rw[qJ];have:=Ot (ls:=ls) (fs:=fs) (at_:=at_) h M n;unfold uz
  split
  ·exact Xf this (a00 h)
  ·exact this
def Gy{es:List aL}:Mn 0x36↔Mn es:=
 ⟨fun h e he=>h (core e) (A0h.mpr ⟨e,he,rfl⟩),fun h e he=>by obtain⟨z,hz,rfl⟩:=A0h.mp he;exact h z hz⟩
def Ud{fs:List Int}{at_:Nat}{es es':List aL}(h:∀z∈ms,PyData.strOk z=true)(M:Mn es)(e:(es'.map core,ks')=yC ms ls fs at_ n (es.map core,ks)):Mn es':=by
 have:=Ot (ls:=ls) (fs:=fs) (at_:=at_) (s:=(es.map core,ks)) h (Gy.mpr M) n;rw[<-e]at this;exact Gy.mp this
abbrev sLa:Stmt:=top 47
def Ou{n:Int}{t u:Addr}(h1:1<=n)(h2:n<=9999):WF [⟨"",none,"",n,n,(0,1),t,u⟩]:=by
 refine⟨by simp,⟨_,[],rfl,rfl,rfl,True.intro⟩,?_,?_,?_⟩
 ·intro e he;rw[A0e.mp he];exact⟨by show(0:Int)<=n;lia,by show(0:Int)<=n;lia,h2⟩
 ·intro e he;rw[A0e.mp he];have e0:Sb [(⟨"",none,"",n,n,(0,1),t,u⟩:aL)] ""=0:=by unfold Sb;simp
  show n=n+Sb [(⟨"",none,"",n,n,(0,1),t,u⟩:aL)] ""
  rw[e0];lia
 ·intro e he;rw[A0e.mp he]
  show PyData.strOk ""=true
  decide+kernel
def adL(x dx a1 a2 a3 a4 a5:Addr):Ad:=⟨x,dx,a1,a2,a3,a4,a5,0,0,0,0,0,0,0,[],0⟩
def Ld.start{x a1 a2 a3 a4 a5 t:Addr}{n:Int}(L:bT C H x dx a1 a2 a3 a4 a5 (fU .non) (fU 0x8D) (fU (.int n)) (fU 0x72) (fU (.int n)))(ft:qT H t 0 1)(h1:1<=n)(h2:n<=9999):Ld C (adL x dx a1 a2 a3 a4 a5) H [⟨"",none,"",n,n,(0,1),t,0⟩]:=
 ⟨L,fun e he=>by rw[A0e.mp he];exact ft,Ou h1 h2,fun e he=>by rw[A0e.mp he];show PyData.strOk ""=true;decide+kernel⟩
def S6(a b c m0 m1 m2:Str)(A B s:Int)(lord:Str)(t0 t1 t2 t3:Addr):List aL:=
 [⟨"",none,"",50-A-B,50,(0,1),t0,0⟩,⟨a,some "",m0,A-(if lord=a then 1 else 0),A,(4,1),t1,0⟩,⟨b,some "",m1,B-(if lord=b then 1 else 0),B,(4,1),t2,0⟩,⟨c,some lord,m2,1,1,(s,1),t3,0⟩]
def mK{q:Ad}(s:Same H H1)(o:nM q H1 H2)(n:∀c∈Bc q,H c=none):Same H H2:=fun c u e=>o.of (fun h=>by rw[n c h]at e;cases e) (s c u e)
def Ld.Ji{q:Ad}{es:List aL}(a:Ld C q H es)(h:H D=some 0x53):Ld C q (upd H D 0x57) es:=by
 have g:∀{c:Addr}{u:HO},(∀zs,u≠.lst zs)->H c=some u->(upd H D 0x57) c=some u:=fun{c u}hu e=>by
  rw[ak fun z=>hu xs (by rw[z,h]at e;exact(A0O e).symm)];exact e
 exact⟨⟨g 0x12 a.L.o,g 0x12 a.L.l1,g 0x12 a.L.l2,g 0x12 a.L.l3,g 0x12 a.L.l4,g 0x12 a.L.l5⟩,fun e he=>g 0x12 (a.fr e he),a.W,a.M⟩
def Fam.Ji{qe:List (Ad×List aL)}(f:Fam C H qe)(h:H D=some 0x53):Fam C (upd H D 0x57) qe:=⟨fun p hp=>(f.ld p hp).Ji h,f.ds⟩
def S7{a b c m0 m1 m2 lord:Str}{A B s:Int}{t0 t3 u0 u1 u2 u3:Addr}:(S6 a b c m0 m1 m2 A B s lord t0 t1 t2 t3).map core=(S6 a b c m0 m1 m2 A B s lord u0 u1 u2 u3).map core:=rfl
def gW{n:Str}{g:aL->aL}{y:aL}{es:List aL}:mod n g (y::es)=(if y.n=n then g y else y)::mod n g es:=rfl
inductive Xg(K:W.Frag)(vs:List V)(H:Hp)(Q:VK)(cP:XK):Prop
 |mk(p d m la:Addr)(ms ls:List Str)(wd:Int)(ds:List Int)(_:vs=[.ref p,.ref d])(_:nO H p m la ms ls wd)(_:H d=some (.lst (ds.map V.int)))(_:(∀v∈ds,tR v))(_:3<=ds.length)(_:∀H',Same H H'->Q (.bl true) H'):Xg K vs H Q cP
def uI:aX ["_law_pools_here","_law_d","_law_a","_law_b","_law_c","_law_many","_law_lands","_law_lord","_law_fuller","_law_land","_law_at","_law_to"] ["_law_pools_here","_law_d"] (aH sLa):=0x0
def a01(T:eO K C)(F:gF K "_law_lords_apart" "_law_lords_apart" sLa f fd)(mr:mg "range"=none)(mi:mg "int"=none)(mL:mg "Land"=some 0x8C)(MK:Mk K C g1)
  (G1:aP P w K mg base bV 3 g1 d1 ["self","acres"] (qF C))(b1:Binds K d1 ["self","acres"] [])
  (G2:aP P w K mg base bV 2 g2 d2 A5j (jF C))(m2:Meth K C "grant" g2)(b2:Binds K d2 A5j [])
  (G3:aP P w K mg base bV 1 g3 d3 A5K (lC C))(m3:Meth K C "same" g3)(b3:Binds K d3 A5K [])
  (G4:aP P w K mg base bV 3 g4 d4 A5k (kW 3))(M4:Ms K mg "_law_same" g4 d4 A5k):
  aP P w K mg base bV 5 f fd ["_law_pools_here","_law_d"] (Xg K):=by
 refine F.ok uI 0x3 0x5;obtain⟨p,d,m,la,mz,ls,wd,ds,rfl,pl,hd,hdo,hdl,k⟩:=h;have hr1:fK 1 _:=hr.mono 0x6;have hr2:fK 2 _:=hr.mono 0x6;have vP:fK 3 _:=hr.mono 0x6;refine⟨_,(aq (Jt (fj jc (aK aR 0x11 au 0x2) (cW 0x88) (cW (aO cL 0x88 au))) (Xc rfl (cg (bf (i:=2) uI.nd rfl 0x9) (cg (bf (i:=3) uI.nd rfl 0x9) (cg (bf (i:=4) uI.nd rfl 0x9) iG)))))
  (aq (aW (i:=5) uI.nd rfl 0x9 (aO cL au 0x88))
  (aq (aW (i:=6) uI.nd rfl 0x9 (dZ aC))
  (aq (eZ A0M rfl (eU (dZ (aj (cB (aj 0x37 0x5D)) (aj (cB (aj 0x70 (aj 0x70 aC))) (aj (cB (aj 0x37 0x5D)) aC))))) (qb rfl (cg (bf (i:=7) uI.nd rfl 0x9) (cg (bf (i:=8) uI.nd rfl 0x9) iG)))
   (aq (aW (i:=9) uI.nd rfl 0x9 (rE MK G1 hr rfl mL b1 .nil aU 0x5A))
   (aq (bJ (bG (pv 9) T.cl m2 G2 hr2 b2 .nil aU (aj aG (aj 0x37 (aj (aK aM (aK aR 0x11 au 0x2) au 0x2) (aj (aO cL (pv 5) (cV uY rfl mi Bw (aj (fW cU (pv 8) 0x37 0x7C) aC))) 0x5A))))))
   (aq (bJ (bG (pv 9) T.cl m2 G2 hr2 b2 .nil aU (aj aG (aj 0x70 (aj (aK aM (aK aR 0x11 au 0x2) au 0x2) (aj (aO cL (pv 5) (cV uY rfl mi Bw (aj (fW cU (pv 8) 0x70 0x7C) aC))) 0x5A))))))
   (aq (bJ (bG (pv 9) T.cl m2 G2 hr2 b2 .nil aU (aj (pv 7) (aj (pv 4) (aj (aK aM (aK aR 0x11 au 0x2) au 0x2) (aj au (aj 0x88 aC)))))))
   (aF (bJ (jD A0J A0R A0S cX (pv 6) (aj (pv 9) aC)))))))))
  (aq (eZ A0M rfl 0x92 (bf (i:=10) uI.nd rfl 0x9) (aF (eZ A0M rfl 0x92 (bf (i:=11) uI.nd rfl 0x9) (aF (bM (fL (dg (aZ G4 vP rfl M4.m M4.k M4.b .nil aU (aj (bG (aK aM (pv 6) (pv 10) 0x2) T.cl m3 G3 hr1 b3 .nil aU (aj (aK aM (pv 6) (pv 11) 0x2) aC)) (aj (fW cU (aO bL (aO cL (pv 10) (pv 11)) au) au 0x7C) aC))))) bR aV)))))
  (aF (bh uV))))))),?_⟩
 obtain⟨f0,e0,o0⟩:=fJ hdo (i:=0) 0x6 0x1;obtain⟨f1,e1,o1⟩:=fJ hdo (i:=1) 0x6 0x1;obtain⟨f2,e2,o2⟩:=fJ hdo (i:=2) 0x6 0x1;obtain⟨o0a,o0b⟩:=o0;obtain⟨o1a,o1b⟩:=o1;obtain⟨o2a,o2b⟩:=o2;have ll:=pl.ll;refine⟨_,rfl,p,_,_,_,rfl,rfl,bI.of pl.r,aD (j:=1) rfl,_,rfl,d,_,_,_,rfl,rfl,bF.of hd,e0,_,_,rfl,rfl,(by show(0:Int)<7;decide),_,rfl,_,rfl,d,_,_,_,rfl,rfl,bF.of hd,e0,_,_,rfl,rfl,(by show(0:Int)<7;decide),_,_,rfl,rfl,_,rfl,la,_,rfl,bF.of pl.la,fun c1 hc1=>?_⟩
 obtain⟨n0,hn0⟩:∃n0:Nat,(n0:Int)=f0%7:=⟨(f0%7).toNat,by lia⟩;have ec:gH (ls.map V.str) (some (f0%7)) (some (f0%7+3))=((ls.drop n0).take 3).map V.str:=by
  rw[<-hn0,show((n0:Int)+3)=((n0+3:Nat):Int) by lia]
  unfold gH;rw[HT.jB,HT.jB,bY,A1I 0x1,A1I 0x1,A4K,List.map_drop]
  congr 1
  lia
 obtain⟨a,b,c,eabc⟩:∃a b c,(ls.drop n0).take 3=[a,b,c]:=by
  have:((ls.drop n0).take 3).length=3:=by rw[A0T,A1l];lia
  match(ls.drop n0).take 3,this with
  |[a,b,c],_=>exact⟨a,b,c,rfl⟩
 have sub:List.Sublist [a,b,c] ls:=by rw[<-eabc];exact(A4u _ _).trans (List.drop_sublist _ _)
 have nd3:=List.Nodup.sublist sub pl.nl;have ok3:∀z∈[a,b,c],z≠""/\PyData.strOk z=true:=fun z hz=>(pl.ol z (sub.subset hz)).ne;simp only[A0z,A0c,A0j,A0V,A3v]at nd3;obtain⟨⟨ab,ac⟩,bc,_⟩:=nd3;obtain⟨a0,oka⟩:=ok3 a 0x8;obtain⟨b0,okb⟩:=ok3 b 0x8;obtain⟨c0,okc⟩:=ok3 c 0x8;rw[ec,eabc]
 apply 0o1 H c1 hc1 s1 hk0 H1
 have k1:H1 c1=some (.lst [.str a,.str b,.str c]):=hk0;refine⟨c1,_,rfl,bF.of k1,rfl,_,_,rfl,_,_,rfl,_,_,rfl,rfl,?_⟩;refine⟨_,rfl,d,_,_,_,rfl,rfl,bF.of (s1 _ _ hd),e1,_,_,rfl,rfl,(by show(0:Int)<9;decide),_,_,rfl,rfl,?_⟩
 dsimp only[iW];obtain⟨y,hy⟩:∃y,y=1+f1%9:=⟨_,rfl⟩;rw[<-hy];refine⟨small 0x8,fun D hD=>?_⟩;have s2:=s1.trans (aJ hD 0x6D);have kD:(upd H1 D 0x6D) D=some 0x6D:=ao;generalize upd H1 D 0x6D=H2 at s2 kD ⊢;have nD:H D=none:=s1.free hD;have lo0:∃lo:Nat->Str,lo 0=a/\lo 1=b/\lo 2=a:=⟨fun i=>if i=1 then b else a,rfl,rfl,rfl⟩
 obtain⟨lo,l0,l1,l2⟩:=lo0;have lo3:∀i,i<3->lo i=a\/lo i=b:=fun i hi=>by
  match i,hi with
  |0,_=>exact .inl l0
  |1,_=>exact .inr l1
  |2,_=>exact .inl l2
 refine⟨_,rfl,_,rfl,small 0x8,fun t1 h1=>?_⟩
 apply 0o1 H2 t1 h1 x1 hk0 J1
 have y1:J1 t1=some (.tup [.str (lo 0),.str (lo 0)]):=by rw[l0];exact hk0
 refine⟨_,rfl,_,rfl,small 0x8,fun t2 h2=>?_⟩
 apply 0o1 J1 t2 h2 x2 hk0 J2
 have y2:J2 t2=some (.tup [.str (lo 1),.str (lo 1)]):=by rw[l1];exact hk0
 refine⟨_,rfl,_,rfl,small 0x8,fun t3 h3=>?_⟩
 apply 0o1 J2 t3 h3 x3 hk0 J3
 have y3:J3 t3=some (.tup [.str (lo 2),.str (lo 2)]):=by rw[l2];exact hk0
 refine⟨small 0x8,fun L hL=>?_⟩
 apply 0o1 J3 L hL x4 y4 J4
 have z1:=x4 _ _ (x3 _ _ (x2 _ _ y1));have z2:=x4 _ _ (x3 _ _ y2);have z3:=x4 _ _ y3;have sJ:=(((s2.trans x1).trans x2).trans x3).trans x4;have kD4:=x4 _ _ (x3 _ _ (x2 _ _ (x1 _ _ kD)));have nLD:L≠D:=fun z=>by rw[z]at hL;rw[x3 _ _ (x2 _ _ (x1 _ _ kD))]at hL;cases hL
 obtain⟨m0,em0,hm0⟩:=jj (xs:=mz.map V.str) (i:=0) 0x6 (by rw[bY,pl.lm];decide);obtain⟨m1,em1,hm1⟩:=jj (xs:=mz.map V.str) (i:=1) 0x6 (by rw[bY,pl.lm];decide);obtain⟨m2',em2,hm2⟩:=jj (xs:=mz.map V.str) (i:=2) 0x6 (by rw[bY,pl.lm];decide);obtain⟨m0,hk0,rfl⟩:=A0h.mp hm0;obtain⟨m1,hk1,rfl⟩:=A0h.mp hm1;obtain⟨m2',hk2,rfl⟩:=A0h.mp hm2;have om:∀z∈mz,PyData.strOk z=true:=fun z hz=>(pl.om z hz).ne.2;have y1':1<=y:=by lia
 have y9:y<=9:=by lia
 have eA:∀u v:Str,(if decide (V.str u=V.str v)=true then(1:Int)else 0)=if u=v then 1 else 0:=fun u v=>by
  rw[dU];simp
 let LR:Str->Addr->Addr->Addr->Addr->List aL:=fun lord=>S6 a b c m0 m1 m2' (y+if lord=a then 1 else 0) (y+if lord=b then 1 else 0) (f2%3) lord
 refine⟨L,rfl,⟨_,bF.of y4⟩,lV (K:=K) (a:=L) (xs:=[.ref t1,.ref t2,.ref t3]) (fun i σ Hx=>∃(qe:List (Ad×List aL))(u7 u8 u9:Option V),σ=[some 0x3E,some (.ref d),some (.str a),some (.str b),some (.str c),some (.int y),some 0x86,u7,u8,u9,none,none]/\Same H Hx/\
   Hx L=some (.lst [.ref t1,.ref t2,.ref t3])/\(∀tt xs,J4 tt=some 0x52->Hx tt=some 0x52)/\Hx D=some (.lst (qe.map fun z=>.ref z.1.x))/\qe.length=i/\Fam C Hx qe/\∀j z,qe[j]?=some z->∃u0 u1 u2 u3,z.2=LR (lo j) u0 u1 u2 u3)
  ⟨[],none,none,none,rfl,sJ,y4,(fun _ _ h=>h),kD4,rfl,⟨(fun _ h=>nomatch h),List.Pairwise.nil⟩,fun j z h=>by simp at h⟩ (fun i σ Hx _ hp=>by obtain⟨_,_,_,_,_,_,hp,_⟩:=hp;exact bF.of hp) ?_ ?_⟩
 ·rintro i v σ Hx hv ⟨qe,u7,u8,u9,rfl,sx,hLx,htx,Ue,hq,fam,hes⟩;have i3:i<3:=(A0p.mp hv).1;obtain⟨tt,rfl,htt⟩:∃tt,v=.ref tt/\Hx tt=some (.tup [.str (lo i),.str (lo i)]):=by
   match i,hv,i3 with
   |0,hv,_=>exact⟨t1,(A0O hv).symm,htx _ _ z1⟩
   |1,hv,_=>exact⟨t2,(A0O hv).symm,htx _ _ z2⟩
   |2,hv,_=>exact⟨t3,(A0O hv).symm,htx _ _ z3⟩
  generalize hlo:lo i=lord at htt;have hlor:lord=a\/lord=b:=hlo▸ lo3 i i3;have plx:=pl.same sx;refine⟨tt,_,rfl,bI.of htt,rfl,_,_,rfl,_,_,rfl,rfl,?_⟩;intro x dx hx hdx hxd;refine⟨x,dx,50,rfl,ao,by decide,by decide,fun a1 a2 a3 a4 a5_ t H3 fr L0 a5 n1 n2 n3 n4 n5 nt ft=>⟨rfl,?_⟩⟩;have hsm:∀{c:Addr}{u:HO},Hx c=some u->c≠x/\c≠dx:=fun e=>⟨aA e hx,aA e hdx⟩;have s3:Same Hx H3:=fun c u e=>fr c u (hsm e).1 (by rw[ak (hsm e).1,ak (hsm e).2];exact e);have fz:∀c∈Bc (adL x dx a1 a2 a3 a4 a5_),Hx c=none:=fun c hc=>by
   cases e:Hx c with
   |none=>rfl
   | some u=>
    have e':(upd (upd Hx dx (.own x)) x (.ins C dx [])) c≠none:=by
     rw[ak (hsm e).1,ak (hsm e).2,e];exact fun z=>nomatch z
    simp only[Bc,adL,A0c,A0j,A0V]at hc;rcases hc with rfl|rfl|rfl|rfl|rfl
    ·exact absurd n1 e'
    ·exact absurd n2 e'
    ·exact absurd n3 e'
    ·exact absurd n4 e'
    ·exact absurd n5 e'
  have d0:=Ld.start L0 ft 0x6 0x6;generalize hQ:adL x dx a1 a2 a3 a4 a5_=q at d0 fz;have qx:q.x=x:=by rw[<-hQ];rfl
  have qdx:q.dx=dx:=by rw[<-hQ];rfl
  have a5':xO q.a1 q.a2 q.a3 q.a4 q.a5:=by rw[<-hQ];exact a5
  clear fr L0 a5 n1 n2 n3 n4 n5 nt;subst qx;subst qdx;have Sg:=plx.same s3;have A0:∀z:Str,(0:Int)<=(if lord=z then 1 else 0)/\(if lord=z then(1:Int)else 0)<=1:=fun z=>by split<;>decide
  have Aa:=A0 a;have Ab:=A0 b;generalize hAa:(if lord=a then(1:Int)else 0)=wa at Aa
  generalize hAb:(if lord=b then(1:Int)else 0)=wb at Ab
  refine⟨_,rfl,q.x,q.dx,_,rfl,d0.L.o,rfl,_,rfl,_,rfl,p,_,_,_,rfl,rfl,bI.of Sg.r,aD (j:=0) rfl,m,_,_,_,rfl,rfl,bF.of Sg.m,em0,_,rfl,_,rfl,_,rfl,rfl,.inr ⟨_,rfl,_,_,rfl,rfl,?_⟩⟩;rw[eA,hAa];dsimp only[eG,tC,fX];refine Ld.grant (y:=⟨"",none,"",50,50,(0,1),t,0⟩) d0 a5' (A0e.mpr rfl) (by show a∉[("":Str)];simpa using a0) oka (om _ hk0) 0x1 (by show y+wa<=50;lia) 0x8 fun tA HA dA oA=>?_
  have sA:=mK s3 oA fz;have eA1:stp ⟨"",none,"",50,50,(0,1),t,0⟩ [⟨"",none,"",50,50,(0,1),t,0⟩] tA 0 0 0 (.grant "" a m0 (y+wa) 4)=[⟨"",none,"",50-(y+wa),50,(0,1),t,0⟩,0x78]:=by
   show mod "" _ [_]++[_]=_
   rw[gW,A0i rfl];rfl
  have dA:Ld C q HA [⟨"",none,"",50-(y+wa),50,(0,1),t,0⟩,0x78]:=eA1▸ dA;have plA:=plx.same sA;refine⟨_,rfl,q.x,q.dx,_,rfl,dA.L.o,rfl,_,rfl,_,rfl,p,_,_,_,rfl,rfl,bI.of plA.r,aD (j:=0) rfl,m,_,_,_,rfl,rfl,bF.of plA.m,em1,_,rfl,_,rfl,_,rfl,rfl,.inr ⟨_,rfl,_,_,rfl,rfl,?_⟩⟩;rw[eA,hAb];dsimp only[eG,tC,fX];refine Ld.grant (y:=⟨"",none,"",50-(y+wa),50,(0,1),t,0⟩) dA a5' A0l (by show b∉[("":Str),a];simp[b0,A0k ab]) okb (om _ hk1) 0x1 (by show y+wb<=50-(y+wa);lia) 0x8 fun tB HB dB oB=>?_
  have sB:=mK sA oB fz;have eB1:stp ⟨"",none,"",50-(y+wa),50,(0,1),t,0⟩ [⟨"",none,"",50-(y+wa),50,(0,1),t,0⟩,0x78] tB 0 0 0 (.grant "" b m1 (y+wb) 4)=[⟨"",none,"",50-(y+wa)-(y+wb),50,(0,1),t,0⟩,0x78,⟨b,some "",m1,y+wb,y+wb,(4,1),tB,0⟩]:=by
   show mod "" _ [_,_]++[_]=_
   rw[gW,gW,A0i rfl,A0f a0];rfl
  have dB:Ld C q HB [⟨"",none,"",50-(y+wa)-(y+wb),50,(0,1),t,0⟩,0x78,⟨b,some "",m1,y+wb,y+wb,(4,1),tB,0⟩]:=eB1▸ dB;have plB:=plx.same sB;refine⟨_,rfl,q.x,q.dx,_,rfl,dB.L.o,rfl,_,rfl,_,rfl,_,rfl,p,_,_,_,rfl,rfl,bI.of plB.r,aD (j:=0) rfl,m,_,_,_,rfl,rfl,bF.of plB.m,em2,_,rfl,d,_,_,_,rfl,rfl,bF.of (sB _ _ (sx _ _ hd)),e2,_,_,rfl,rfl,(by show(0:Int)<3;decide),?_⟩
  have cn:c∉[("":Str),a,b]:=by simp[c0,A0k ac,A0k bc]
  have fin:∀(tC:Addr)(HC:Hp),Ld C q HC (LR lord t tA tB tC)->nM q HB HC->wZ 0x86 [.ref q.x] HC fun _ H'=>∃(qe:List (Ad×List aL))(u7 u8 u9:Option V),[some (V.ref p),some (.ref d),some (.str a),some (.str b),some (.str c),some (.int y),some 0x86,some (.str lord),some (.str lord),some (.ref q.x),none,none]=[some 0x3E,some (.ref d),some (.str a),some (.str b),some (.str c),some (.int y),some 0x86,u7,u8,u9,none,none]/\Same H H'/\
   H' L=some (.lst [.ref t1,.ref t2,.ref t3])/\(∀tt xs,J4 tt=some 0x52->H' tt=some 0x52)/\H' D=some (.lst (qe.map fun z=>.ref z.1.x))/\qe.length=i+1/\Fam C H' qe/\∀j z,qe[j]?=some z->∃u0 u1 u2 u3,z.2=LR (lo j) u0 u1 u2 u3:=fun tC HC dC oC=>by
   have sC:=mK sB oC fz;have hDC:=sC _ _ Ue;refine⟨D,_,_,rfl,rfl,hDC,by rw[bY,hq];exact bO 0x1,qe++[(q,LR lord t tA tB tC)],_,_,_,rfl,fun c u e=>?_,?_,fun tt xs h=>?_,?_,by rw[lG,hq];rfl,(fam.snoc sC dC fz).Ji hDC,fun j z hz=>?_⟩
   ·rw[ak (aA e nD)];exact sC _ _ (sx _ _ e)
   ·rw[ak nLD];exact sC _ _ hLx
   ·have:=sC _ _ (htx tt xs h);rw[ak (bB this hDC 0x10)];exact this
   ·rw[ao,lN];rfl
   ·rw [List.getElem?_append]at hz
    split at hz
    ·exact hes j z hz
    ·rename_i hj
     have ej:j=i:=by
      have:=(A0p.mp hz).1;rw[A0w]at this;lia
     subst ej;rw[hq,A4Q]at hz;cases hz;exact⟨t,tA,tB,tC,by rw[hlo]⟩
  rcases hlor with el|el
  ·have el:=el.symm;subst el;have ha1:wa=1:=by rw[<-hAa,A0i rfl]
   have hb1:wb=0:=by rw[<-hAb,A0f ab]
   dsimp only[fX];refine Ld.grant (y:=0x78) dB a5' 0x8 cn okc (om _ hk2) 0x6 (by show 1<=y+wa;lia) 0x8 fun tC HC dC oC=>?_
   have eC1:stp 0x78 [⟨"",none,"",50-(y+wa)-(y+wb),50,(0,1),t,0⟩,0x78,⟨b,some "",m1,y+wb,y+wb,(4,1),tB,0⟩] tC 0 0 0 (.grant a c m2' 1 (f2%3))=LR a t tA tB tC:=by
    show mod a _ [_,_,_]++[_]=S6 a b c m0 m1 m2' (y+if a=a then 1 else 0) (y+if a=b then 1 else 0) (f2%3) a t tA tB tC
    rw[gW,gW,gW,A0f (A0k a0),A0i rfl,A0f (A0k ab)];unfold S6;rw[hAa,hAb];subst ha1;subst hb1
    show[_,jZ 1 _,_,nT _ _ _ _ _ _ _]=_
    unfold jZ nT;rw[show(y+(0:Int))-0=y+0 by lia]
   rw[eC1]at dC;exact⟨_,rfl,.inl ⟨rfl,_,bF.of (mK sB oC fz _ _ Ue)⟩,_,rfl,fin tC HC dC oC⟩
  ·have el:=el.symm;subst el;have ha1:wa=0:=by rw[<-hAa,A0f (A0k ab)]
   have hb1:wb=1:=by rw[<-hAb,A0i rfl]
   dsimp only[fX];refine Ld.grant (y:=⟨b,some "",m1,y+wb,y+wb,(4,1),tB,0⟩) dB a5' 0x8 cn okc (om _ hk2) 0x6 (by show 1<=y+wb;lia) 0x8 fun tC HC dC oC=>?_
   have eC1:stp ⟨b,some "",m1,y+wb,y+wb,(4,1),tB,0⟩ [⟨"",none,"",50-(y+wa)-(y+wb),50,(0,1),t,0⟩,0x78,⟨b,some "",m1,y+wb,y+wb,(4,1),tB,0⟩] tC 0 0 0 (.grant b c m2' 1 (f2%3))=LR b t tA tB tC:=by
    show mod b _ [_,_,_]++[_]=S6 a b c m0 m1 m2' (y+if b=a then 1 else 0) (y+if b=b then 1 else 0) (f2%3) b t tA tB tC
    rw[gW,gW,gW,A0f (A0k b0),A0f ab,A0i rfl];unfold S6;rw[hAa,hAb];subst ha1;subst hb1
    show[_,_,jZ 1 _,nT _ _ _ _ _ _ _]=_
    unfold jZ nT;rw[show(y+(0:Int))-0=y+0 by lia]
   rw[eC1]at dC;exact⟨_,rfl,.inl ⟨rfl,_,bF.of (mK sB oC fz _ _ Ue)⟩,_,rfl,fin tC HC dC oC⟩
 ·rintro σ Hx ⟨qe,u7,u8,u9,rfl,sx,hLx,htx,Ue,hq,fam,hes⟩;have hq:qe.length=3:=hq;have tell:∀{i j:Nat}{z z':Ad×List aL},qe[i]?=some z->qe[j]?=some z'->iZ z.2 z'.2=decide ((((i:Int))+(j:Int))%2=0):=fun{i j z z'}hi hj=>by
   have i3:=(A0p.mp hi).1;have j3:=(A0p.mp hj).1;rw[hq]at i3 j3;obtain⟨u0,u1,u2,u3,e1⟩:=hes i z hi;obtain⟨v0,v1,v2,v3,e2⟩:=hes j z' hj;have key:lo i=lo j↔((i:Int)+(j:Int))%2=0:=by
    match i,i3,j,j3 with
    |0,_,0,_=>exact⟨fun _=>rfl,fun _=>rfl⟩
    |0,_,1,_=>exact⟨fun h=>absurd (by rw[<-l0,h,l1]) ab,fun h=>absurd h 0x6⟩
    |0,_,2,_=>exact⟨fun _=>rfl,fun _=>l0.trans l2.symm⟩
    |1,_,0,_=>exact⟨fun h=>absurd (by rw[<-l0,<-h,l1]) ab,fun h=>absurd h 0x6⟩
    |1,_,1,_=>exact⟨fun _=>rfl,fun _=>rfl⟩
    |1,_,2,_=>exact⟨fun h=>absurd (by rw[<-l2,<-h,l1]) ab,fun h=>absurd h 0x6⟩
    |2,_,0,_=>exact⟨fun _=>rfl,fun _=>l2.trans l0.symm⟩
    |2,_,1,_=>exact⟨fun h=>absurd (by rw[<-l2,h,l1]) ab,fun h=>absurd h 0x6⟩
    |2,_,2,_=>exact⟨fun _=>rfl,fun _=>rfl⟩
   have dj:=fam.ld z' (oF hj)
   by_cases h:lo i=lo j
   ·rw[A0t (key.mp h)];have:z.2.map core=z'.2.map core:=by rw[e1,e2,h];exact S7
    rw[qL this];exact same_self dj
   ·rw[A0K fun z=>h (key.mpr z)];refine Oo (z1:=⟨c,some (lo i),m2',1,1,(f2%3,1),u3,0⟩) (z2:=⟨c,some (lo j),m2',1,1,(f2%3,1),v3,0⟩) dj.W.nd ?_ ?_ rfl rfl rfl h
    ·rw[e1];simp[LR,S6]
    ·rw[e2];simp[LR,S6]
  have ix:∀{i:Nat},i<3->∃z,qe[i]?=some z/\oG (qe.map fun z=>V.ref z.1.x) (0+(i:Int))=some (.ref z.1.x):=fun{i}hi=>by
   refine⟨qe[i]' 0x1,jo 0x1,?_⟩;rw[A3i];exact aD (by rw[lJ,jo 0x1];rfl)
  refine⟨3,rfl,by decide,by decide,dH (lo:=0) (n:=3) (fun i σ Hy=>(∃Dy yF,σ=[some 0x3E,some (.ref d),some (.str a),some (.str b),some (.str c),some (.int y),some 0x86,u7,u8,u9,Dy,yF])/\Same Hx Hy) ⟨⟨none,none,rfl⟩,Same.refl _⟩ ?_ ?_⟩
  ·rintro i σ Hy hi ⟨⟨Dy,yF,rfl⟩,sy⟩;obtain⟨z,hz,az⟩:=ix hi;refine⟨3,rfl,by decide,by decide,dH (lo:=0) (n:=3) (fun j σ Hw=>(∃yF,σ=[some 0x3E,some (.ref d),some (.str a),some (.str b),some (.str c),some (.int y),some 0x86,u7,u8,u9,some (.int (0+(i:Int))),yF])/\Same Hx Hw) ⟨⟨yF,rfl⟩,sy⟩ ?_ ?_⟩
   ·rintro j σ Hw hj ⟨⟨Xh,rfl⟩,sw⟩;obtain⟨z',hz',az'⟩:=ix hj;have fw:=fam.same sw;have dz:=fw.ld z (oF hz);have dz':=fw.ld z' (oF hz');refine⟨_,rfl,_,rfl,D,_,_,_,rfl,rfl,bF.of (sw _ _ Ue),az,z.1.x,z.1.dx,_,rfl,dz.L.o,rfl,_,rfl,_,rfl,D,_,_,_,rfl,rfl,bF.of (sw _ _ Ue),az',?_⟩;dsimp only[fX];refine Ld.Av dz dz' ?_;refine⟨_,rfl,_,rfl,_,_,rfl,rfl,_,_,rfl,rfl,(by show(0:Int)<2;decide),rfl,_,_,rfl,.inl ⟨?_,rfl⟩,fun H' s'=>⟨_,rfl,bZ ⟨⟨_,rfl⟩,sw.trans s'⟩⟩⟩
    rw[tell hz hz']
    congr 1
    rw[A3i,A3i];exact A3h.mpr ⟨fun h=>A1r V.int h,fun h=>by injection h⟩
   ·rintro σ Hw ⟨⟨Xh,rfl⟩,sw⟩;exact⟨⟨_,_,rfl⟩,sw⟩
  ·rintro σ Hy ⟨⟨Dy,yF,rfl⟩,sy⟩;exact k _ (sx.trans sy)
abbrev Ov:Stmt:=top 46
def Rel.ld{q:Ad}{es:List aL}(R:Rel C q H es ks ls j)(M:Mn es):Ld C q H es:=⟨R.L,fun e he=>(R.fr e he).1,R.W,M⟩
def Ug{es:List aL}{e:aL}(nd:(0x31).Nodup)(he:e∈es):uM es e.n=e.own:=by
 unfold uM;rw[cu nd he];rfl
def Uh(H H':Hp):Prop:=∀c u,(∀m,u≠.dK m)->H c=some u->H' c=some u
def Uh.pl{m:Addr}(n:Uh H H')(p:nO H r m la ms ls wd):nO H' r m la ms ls wd:=
 ⟨n _ _ 0x12 p.r,n _ _ 0x12 p.m,n _ _ 0x12 p.la,p.lm,p.ll,p.nm,p.om,p.ol,p.w1,p.w2,p.nl⟩
def Uh.l(n:Uh H H')(h:H c=some 0x53):H' c=some 0x53:=n _ _ 0x12 h
def Uh.t(n:Uh H H')(h:H c=some 0x52):H' c=some 0x52:=n _ _ 0x12 h
def Ow{es' es:List Expr}{k:Nat}:starEach (.Tuple es' k pos::es) env=(false,eval (.Tuple es' k pos) env)::starEach es env:=rfl
def Xi{es' es:List Expr}{k:Nat}{t:TA}(ha:PE X (.Tuple es' k pos) te)(hr:PA X es t):PA X (.Tuple es' k pos::es) (eG te t):=aj ha hr Ow
def Xj{a b:Int}{k1 k2 k3:Nat}{p1 p3:Pos}:PE X (.Tuple [.Constant (.int a) k1 p1,.Constant (.int b) k2 p2] k3 p3) (uO (eG (tC (.int a)) (eG (tC (.int b)) fX))):=cB (aj au 0x5A)
def yG{a b:Int}{k1 k2 k3:Nat}{p1 p3:Pos}{es:List Expr}{t:TA}(h:PA X es t):PA X (.Tuple [.Constant (.int a) k1 p1,.Constant (.int b) k2 p2] k3 p3::es) (eG (uO (eG (tC (.int a)) (eG (tC (.int b)) fX))) t):=Xi Xj h
def Sh(X:Cx)(a0 b0 a1 b1 a2 b2 a3 b3:Int)(k0 l0 m0 k1 l1 m1 k2 l2 m2 k3 l3 m3:Nat)(p0 q0 r0 p1 q1 r1 p2 q2 r2 p3 q3 r3 pp:Pos):PE X (.List [.Tuple [.Constant (.int a0) k0 p0,.Constant (.int b0) l0 q0] m0 r0,.Tuple [.Constant (.int a1) k1 p1,.Constant (.int b1) l1 q1] m1 r1,.Tuple [.Constant (.int a2) k2 p2,.Constant (.int b2) l2 q2] m2 r2,.Tuple [.Constant (.int a3) k3 p3,.Constant (.int b3) l3 q3] m3 r3] pp) (PK (eG (uO (eG (tC (.int a0)) (eG (tC (.int b0)) fX))) (eG (uO (eG (tC (.int a1)) (eG (tC (.int b1)) fX))) (eG (uO (eG (tC (.int a2)) (eG (tC (.int b2)) fX))) (eG (uO (eG (tC (.int a3)) (eG (tC (.int b3)) fX))) fX))))):=by
 refine dZ ?_;refine yG ?_;refine yG ?_;refine yG ?_;refine yG ?_;exact aC
def tGr(a0 b0 a1 b1 a2 b2 a3 b3:Int):TE:=fun _ H Q=>∀L t1 t2 t3 t4 H',Same H H'->H' L=some (.lst [.ref t1,.ref t2,.ref t3,.ref t4])->H' t1=some (.tup [.int a0,.int b0])->H' t2=some (.tup [.int a1,.int b1])->H' t3=some (.tup [.int a2,.int b2])->H' t4=some (.tup [.int a3,.int b3])->Q (.ref L) H'
def a02(X:Cx)(a0 b0 a1 b1 a2 b2 a3 b3:Int)(k0 l0 m0 k1 l1 m1 k2 l2 m2 k3 l3 m3:Nat)(p0 q0 r0 p1 q1 r1 p2 q2 r2 p3 q3 r3 pp:Pos):PE X (.List [.Tuple [.Constant (.int a0) k0 p0,.Constant (.int b0) l0 q0] m0 r0,.Tuple [.Constant (.int a1) k1 p1,.Constant (.int b1) l1 q1] m1 r1,.Tuple [.Constant (.int a2) k2 p2,.Constant (.int b2) l2 q2] m2 r2,.Tuple [.Constant (.int a3) k3 p3,.Constant (.int b3) l3 q3] m3 r3] pp) (tGr a0 b0 a1 b1 a2 b2 a3 b3):=fun pins s σ H Q I h=>@Sh X a0 b0 a1 b1 a2 b2 a3 b3 k0 l0 m0 k1 l1 m1 k2 l2 m2 k3 l3 m3 p0 q0 r0 p1 q1 r1 p2 q2 r2 p3 q3 r3 pp pins s σ H Q I (by
 refine⟨small 0x8,fun t1 h1=>⟨small 0x8,fun t2 h2=>⟨small 0x8,fun t3 h3=>⟨small 0x8,fun t4 h4=>⟨small 0x8,fun L hL=>?_⟩⟩⟩⟩⟩;have x1:=aJ h1 (.tup [.int a0,.int b0]);have x2:=aJ h2 (.tup [.int a1,.int b1]);have x3:=aJ h3 (.tup [.int a2,.int b2]);have x4:=aJ h4 (.tup [.int a3,.int b3]);have x5:=aJ hL (.lst [.ref t1,.ref t2,.ref t3,.ref t4]);exact h L t1 t2 t3 t4 _ ((((x1.trans x2).trans x3).trans x4).trans x5) ao (x5 _ _ (x4 _ _ (x3 _ _ (x2 _ _ ao)))) (x5 _ _ (x4 _ _ (x3 _ _ ao))) (x5 _ _ (x4 _ _ ao)) (x5 _ _ ao))
abbrev sg4:Expr:=match eV Ov with|[_,_,_,_,.Assign _ e _,_,_,_,_]=>e|_=>.List [] ⟨0,0,0,0⟩
def Xk:PE X sg4 (tGr 1 5 1 6 2 5 1 5):=@a02 X 1 5 1 6 2 5 1 5 0 0 0 0 0 0 0 0 0 0 0 0 ⟨401,20,401,21⟩ ⟨401,23,401,24⟩ ⟨401,19,401,25⟩ ⟨401,28,401,29⟩ ⟨401,31,401,32⟩ ⟨401,27,401,33⟩ ⟨401,36,401,37⟩ ⟨401,39,401,40⟩ ⟨401,35,401,41⟩ ⟨401,44,401,45⟩ ⟨401,47,401,48⟩ ⟨401,43,401,49⟩ ⟨401,18,401,50⟩
@[irreducible] def Ox:List Stmt:=(eV Ov).drop 4
def exTa:∃(e:Expr)(p1 p2:Pos),Ox=.Assign [.Name "_law_grants" p1] e p2::(eV Ov).drop 5/\(∀X:Cx,PE X e (tGr 1 5 1 6 2 5 1 5))/\∀env:Env,swapsWith e (some (.Name "_law_grants" p1)) p2.line env=pure false:=⟨sg4,_,_,(by unfold Ox;rfl),fun X=>Xk,fun _=>rfl⟩
def Xl:eV Ov=(eV Ov).take 4++Ox:=by
 unfold Ox;exact(List.take_append_drop 4 _).symm
def Xm{u:TS}(hN:X.N.Nodup)(hi:X.N[8]?=some ("_law_grants":Str))(hx:Loc X.env.scope "_law_grants")(hf:X.fn "_law_grants"=true\/X.env.scope.names.lookup ("_law_grants":Str)=some .local)(h:yP X ((eV Ov).drop 5) u):yP X Ox (GR (UL (tGr 1 5 1 6 2 5 1 5) (iW 8)) u):=by
 obtain⟨e,p1,p2,eb,he,hs⟩:=exTa;rw[eb];exact aq (aW (i:=8) hN hi hx (he X) (hs _) hf) h
inductive Xn(C:Addr)(K:W.Frag)(vs:List V)(H:Hp)(Q:VK)(cP:XK):Prop
 |mk(q:Ad)(es:List aL)(ks:List Str)(j:Nat)(p d m la:Addr)(ms ls:List Str)(wd:Int)(ds:List Int)(_:vs=[.ref q.x,.ref q.B,.ref p,.ref d])(_:Rel C q H es ks ls j)(_:Mn es)(_:q.wd=wd)(_:nO H p m la ms ls wd)(_:H d=some (.lst (ds.map V.int)))(_:(∀v∈ds,tR v))(_:1<=ds.length)(_:∀H',Q (.bl true) H'):Xn C K vs H Q cP
def uJ:aX A5f A5q (aH Ov):=0x0
def a03:Scope:={kind:=.function,names:=[0x40,0x46,0x4A],isGenerator:=false,isCoroutine:=false}
def Ui:cM A5f (aH Ov) a03 A5v A5u [1]:=0x7
def Uj:((A5v:List Str)++(A5u:List Str)).Nodup:=by decide+kernel
def a04:Scope:={kind:=.function,names:=[0x40,("_law_k",.local),("_law_land",.free)],isGenerator:=false,isCoroutine:=false}
def a05:cM A5f (aH Ov) a04 ["_law_k"] ["_law_land"] [0]:=0x7
def a06:((["_law_k"]:List Str)++(["_law_land"]:List Str)).Nodup:=by decide+kernel
def a07(T:eO K C)(F:gF K "_law_told_apart" "_law_told_apart" Ov f fd)(mr:mg "range"=none)(ms:mg "sorted"=none)(X5:mg "list"=none)(mn:mg "len"=none)(mz:mg "zip"=none) 
  (G1:aP P w K mg base bV 5 g1 d1 A5J (nF C))(m1:Meth K C "twin" g1)(b1:Binds K d1 A5J [])
  (G2:aP P w K mg base bV 2 g2 d2 A5j (jF C))(m2:Meth K C "grant" g2)(b2:Binds K d2 A5j [])
  (G3:aP P w K mg base bV 1 g3 d3 A5K (lC C))(m3:Meth K C "same" g3)(b3:Binds K d3 A5K [])
  (G4:aP P w K mg base bV 3 g4 d4 A5k (kW 3))(M4:Ms K mg "_law_same" g4 d4 A5k):
  aP P w K mg base bV 6 f fd A5q (Xn C K):=by
 refine F.ok uJ 0x3 0x5;obtain⟨q,es,ks,j,p,d,m,la,mq,ls,wd,ds,rfl,R,M,hw,pl,hd,hdo,hdl,k⟩:=h;have hr1:fK 1 _:=hr.mono 0x6;have hr2:fK 2 _:=hr.mono 0x6;have vP:fK 3 _:=hr.mono 0x6;rw[Xl];refine⟨_,(aq (je (i:=5) rfl Ui (eU (aY dw rfl ms fB (aj (cV (oE hr.hd) rfl X5 kI (aj 0x29 aC)) aC))) (fun s H fp C'=>⟨bf (i:=0) Uj rfl 0x9,fM (aQ Ef (aN 0x17 0x29 0x11 0x2) au 0x7C),0x11⟩) uJ.nd rfl 0x9)
  (aq (je (i:=6) rfl Ui (eU 0x67) (fun s H fp C'=>⟨bf (i:=0) Uj rfl 0x9,fM (aQ (iJ (K:=K)) 0x11 0x29 0x13),0x11⟩) uJ.nd rfl 0x9)
  (aq (bM (PW.pt (oM (aQ (BK hr.units) (pv 5) (dZ aC) 0x7C) (kj (aQ (BK hr.units) (pv 6) (dZ aC) 0x7C)))) (aF (bh (bG 0x11 T.cl m3 G3 hr1 b3 .nil aU (aj (iK 0x11 T.cl m1 G1 hr b1 .nil aU) aC)))) aV)
  (aq (aW (i:=7) uJ.nd rfl 0x9 (aK aM (pv 5) (aO bL (aK aM 0x70 au 0x2) (aY dh rfl mn A1m (aj (pv 5) aC))) 0x2))
  (Xm uJ.nd rfl 0x9 0x9
  (aq (je (i:=9) rfl a05 0x92 (fun s H fp C'=>⟨bf (i:=0) a06 rfl 0x9,jE,(iK 0xE T.cl m1 G1 hr b1 .nil aU)⟩) uJ.nd rfl 0x9)
  (aq (eZ A0M rfl (sZ rfl mz (aj (pv 9) (aj (pv 8) aC))) (qb rfl (cg (bf (i:=4) uJ.nd rfl 0x9) (cg (qb rfl (cg (bf (i:=10) uJ.nd rfl 0x9) (cg (bf (i:=11) uJ.nd rfl 0x9) iG))) iG)))
   (aF (bJ (bG (pv 4) T.cl m2 G2 hr2 b2 .nil aU (aj (pv 7) (aj (aK aM (pv 6) au 0x2) (aj (aK aM 0x67 au 0x2) (aj (pv 10) (aj (pv 11) aC)))))))))
  (aq (eZ A0M rfl 0x92 (bf (i:=12) uJ.nd rfl 0x9) (aF (eZ A0M rfl 0x92 (bf (i:=13) uJ.nd rfl 0x9) (aF (bM (fL (dg (aZ G4 vP rfl M4.m M4.k M4.b .nil aU (aj (bG (aK aM (pv 9) (pv 12) 0x2) T.cl m3 G3 hr1 b3 .nil aU (aj (aK aM (pv 9) (pv 13) 0x2) aC)) (aj (fW (BK hr.units) (aK aM (pv 8) (pv 12) 0x2) (aK aM (pv 8) (pv 13) 0x2) 0x7C) aC))))) bR aV)))))
  (aF (bh uV)))))))))),?_⟩
 obtain⟨f0,e0,o0⟩:=fJ hdo (i:=0) 0x6 0x1;obtain⟨o0a,o0b⟩:=o0;have W:=R.W;have ll:=pl.ll;have lm:=pl.lm;have hten:=R.ten ll;have ld:=R.ld M;have w1:1<=q.wd:=by rw[hw];exact pl.w1
 have w2:q.wd<=9999:=by rw[hw];exact pl.w2
 refine⟨_,rfl,q.B,_,rfl,R.B.gl,q.l,_,rfl,R.B.l,fun t1 ht1=>?_⟩;rw[yx];have s1:=aJ ht1 0x59;refine⟨t1,nms es,rfl,bF.of ao,by rw[bY];lia,fun th ts hth hpt hsd=>?_⟩;have s2:=s1.trans (aJ hth 0x32);have k2:(upd (upd H t1 0x59) th 0x32) th=some 0x32:=ao;generalize upd (upd H t1 0x59) th 0x32=H2 at s2 k2 ⊢;have tl:ts.length=es.length:=by rw[hpt.length_eq,bY]
 refine⟨th,rfl,⟨_,bF.of k2⟩,fun SL hSL=>dR (xs:=ts) (fun x=>decide (1<uM es x)) V.str (bF.of k2) hSL 0x1 0x83 (fun H3 s3 hS3=>?_)⟩
 ·have hAB:=hAB _ 0x41;have bz:=R.B.same (s2.trans sz);obtain⟨e,he,rfl⟩:=cY (hpt.mem_iff.mp hx);rw[Ug W.nd he]at hAB;refine⟨Kp.set rfl 0x39,_,rfl,q.B,_,rfl,bz.go,_,rfl,q.o,_,rfl,Dj bz.o W.nd he,_,_,rfl,rfl,_,rfl,?_⟩;refine gA 0x24 0x24
  ·rw[A0i c]at hAB;exact⟨_,rfl,hAB⟩
  ·rw[A0f c]at hAB;exact hAB
 have Xo:∀z∈ts.filter (fun x=>decide (1<uM es x)),∃e∈es,e.n=z/\1<e.own:=fun z hz=>by
  obtain⟨h1,h2⟩:=A0y.mp hz;obtain⟨e,he,rfl⟩:=cY (hpt.mem_iff.mp h1);rw[Ug W.nd he]at h2;exact⟨e,he,rfl,yI h2⟩
 have sll:(ts.filter (fun x=>decide (1<uM es x))).length<=10:=A0L (A0s _ _) 0x1;generalize ts.filter (fun x=>decide (1<uM es x))=sl at hS3 Xo sll;have Dl:=s2.trans s3;have Sg:=pl.same Dl;have kl3:=Sg.la;refine⟨_,rfl,p,_,_,_,rfl,rfl,bI.of Sg.r,aD (j:=1) rfl,la,rfl,⟨_,bF.of kl3⟩,fun FR hFR=>dR (xs:=ls) 0x2E V.str (bF.of kl3) hFR 0x1 0x83 (fun H4 s4 hF4=>?_)⟩
 ·have hAB:=hAB _ 0x41;have bz:=R.B.same (Dl.trans sz);refine⟨Kp.set rfl 0x39,_,rfl,_,rfl,q.B,_,rfl,bz.gk,q.kn,_,rfl,.inl (bF.of bz.k),rfl,iC _,_,rfl,?_⟩
  show if(!inV (V.str x) (ks.map V.str))=true then _ else _
  rw[nA];refine gA 0x24 0x24
  ·rw[A0i c]at hAB;exact⟨_,rfl,hAB⟩
  ·rw[A0f c]at hAB;exact hAB
 have Xp:∀z∈ls.filter 0x2E,z∈ls/\z∉ks:=fun z hz=>by
  obtain⟨h1,h2⟩:=A0y.mp hz;exact⟨h1,by simpa using h2⟩
 have fll:(ls.filter 0x2E).length<=9:=A0L (A0s _ _) 0x1;generalize ls.filter 0x2E=fr at hF4 Xp fll;have Ny:=Dl.trans s4;have hS4:=s4 _ _ hS3;have non:∀{D:Ends}{Hz:Hp}{σ:L2.St},D.rt=Q->Same H Hz->σ[0]?=some (some (.ref q.x))->(Js (Ek C "same" (lC C) [] E0 (uN 0) (eG (Ek C "twin" (nF C) [] E0 (uN 0) fX) fX))) D σ Hz:=fun{D Hz σ}hD sz hσ=>by
  have dz:=ld.same sz;refine⟨_,hσ,q.x,q.dx,_,rfl,dz.L.o,rfl,_,hσ,q.x,q.dx,_,rfl,dz.L.o,rfl,?_⟩;dsimp only[fX];refine Ld.twin dz R.cr w1 w2 fun y dy b1 b2 b3 b4 b5 H' s' d' _ _=>?_;rw[hD];exact Ld.Av (dz.same s') d' (by rw[same_self dz];exact k H')
 have oks:∀z∈sl,PyData.strOk z=true:=fun z hz=>by obtain⟨e,he,rfl,_⟩:=Xo z hz;exact W.ok e he
 have okf:∀z∈fr,PyData.strOk z=true:=fun z hz=>(pl.ol z (Xp z hz).1).ne.2;have lay0:(PyData.list []).canLay0=true:=ju (ss:=[]) fun _ h=>nomatch h
 by_cases c1:sl=[]
 ·exact⟨_,rfl,small 0x8,fun n1 hn1=>⟨_,_,.lst (aJ hn1 _ _ _ hS4) (jX sl),.lst ao .nil,ju oks,lay0,mG sl,true,(by rw[strs_nil,A0t c1]),dJ (dJ (non rfl (Ny.trans (aJ hn1 _)) rfl))⟩⟩
 refine⟨_,rfl,small 0x8,fun n1 hn1=>⟨_,_,.lst (aJ hn1 _ _ _ hS4) (jX sl),.lst ao .nil,ju oks,lay0,mG sl,false,(by rw[strs_nil,A0K c1]),bZ ?_⟩⟩
 apply 0o1 H4 n1 hn1 s5 hk0 H5
 by_cases c2:fr=[]
 ·exact⟨_,rfl,small 0x8,fun n2 hn2=>⟨_,_,.lst (aJ hn2 _ _ _ (s5 _ _ hF4)) (jX fr),.lst ao .nil,ju okf,lay0,mG fr,true,(by rw[strs_nil,A0t c2]),dJ (non rfl ((Ny.trans s5).trans (aJ hn2 _)) rfl)⟩⟩
 refine⟨_,rfl,small 0x8,fun n2 hn2=>⟨_,_,.lst (aJ hn2 _ _ _ (s5 _ _ hF4)) (jX fr),.lst ao .nil,ju okf,lay0,mG fr,false,(by rw[strs_nil,A0K c2]),bZ ?_⟩⟩;have s6:=s5.trans (aJ hn2 0x6D);generalize upd H5 n2 0x6D=H6 at s6 ⊢;have Nx:=Ny.trans s6;have sp:0<sl.length:=List.length_pos_iff.mpr c1;obtain⟨z0,hz0,mz0⟩:=jw (zs:=sl) (i:=f0%((sl.map V.str).length:Int)) (A0P _ (by rw[bY];lia)) (by have:=A0x f0 (show(0:Int)<((sl.map V.str).length:Int) by rw[bY];lia);rw[bY]at this ⊢;exact this)
 refine⟨_,rfl,_,rfl,d,_,_,_,rfl,rfl,bF.of (Nx _ _ hd),e0,_,rfl,SL,_,rfl,.inl (bF.of (s6 _ _ hS4)),_,_,rfl,rfl,(by rw[bY];show(0:Int)<((sl.length:Nat):Int);lia),SL,_,_,_,rfl,rfl,bF.of (s6 _ _ hS4),hz0,?_⟩
 obtain⟨y0,hy0,rfl,own0⟩:=Xo z0 mz0;obtain⟨n0,fr',efr⟩:∃n0 fr',fr=n0::fr':=by
  cases fr with
  |nil=>exact absurd rfl c2
  |cons a r=>exact⟨a,r,rfl⟩
 obtain⟨nl0,nk0⟩:=Xp n0 (by rw[efr];exact A0l);have nn0:n0∉nms es:=R.new nk0 (pl.ol n0 nl0).ne.1;have at0:oG (fr.map V.str) 0=some (.str n0):=by rw[efr];exact aD (j:=0) rfl
 obtain⟨m0,em0,hm0⟩:=jj (xs:=mq.map V.str) (i:=0) 0x6 (by rw[bY,lm];decide);obtain⟨m0,hk0,rfl⟩:=A0h.mp hm0;have om0:=(pl.om m0 hk0).ne.2;intro GL t1 t2 t3 t4 H7 s7 hG h1 h2 h3 h4;have Yh:=Nx.trans s7;dsimp only[iW];refine⟨4,rfl,by decide,by decide,fun LD hLD=>sV (lo:=0) (n:=4) (fun i ys Hx=>∃qe:List (Ad×List aL),ys=qe.map (fun z=>V.ref z.1.x)/\qe.length=i/\Same H7 Hx/\Hx LD=some 0x57/\Fam C Hx qe/\∀z∈qe,z.2=es/\xO z.1.a1 z.1.a2 z.1.a3 z.1.a4 z.1.a5)
  ⟨[],rfl,rfl,aJ hLD _,ao,⟨(fun _ h=>nomatch h),List.Pairwise.nil⟩,fun _ h=>nomatch h⟩ (fun i ys Hx hp=>by obtain⟨_,_,_,_,hp,_⟩:=hp;exact hp) ?_ ?_⟩
 ·rintro i ys Hx hi ⟨qe,rfl,hq,sx,Ue,fam,hes⟩;have dx:=ld.same (Yh.trans sx);refine⟨Kp.set rfl 0x39,iM ⟨_,rfl,q.x,q.dx,_,rfl,dx.L.o,rfl,?_⟩⟩;dsimp only[fX];refine Ld.twin dx R.cr w1 w2 fun y dy b1 b2 b3 b4 b5 H' s' d' ap nn=>?_;have hD':=s' _ _ Ue;refine⟨hD',by rw[bY,hq];exact bO 0x1,qe++[({q with x:=y,dx:=dy,a1:=b1,a2:=b2,a3:=b3,a4:=b4,a5:=b5},es)],by rw[lN];rfl,by rw[lG,hq];rfl,bC (sx.trans s') hLD,ao,(fam.snoc s' d' nn).Ji hD',fun z hz=>?_⟩;rcases A0u.mp hz with c|c
  ·exact hes z c
  ·rw[A0e.mp c];exact⟨rfl,ap⟩
 rintro ys H8 ⟨qe,rfl,hq,s8,hL8,fam8,hes8⟩;have hG8:=s8 _ _ hG;have h18:=s8 _ _ h1;have h28:=s8 _ _ h2;have h38:=s8 _ _ h3;have h48:=s8 _ _ h4;have pl8:=pl.same (Yh.trans s8);have hF8:=s8 _ _ (s7 _ _ (s6 _ _ hF4));dsimp only[iW];obtain⟨lx,Xq⟩:∃lx:Nat->Addr,∀i z,qe[i]?=some z->lx i=z.1.x:=⟨fun i=>(qe.map fun z=>z.1.x).getD i 0,fun i z h=>by show(qe.map fun z=>z.1.x).getD i 0=_;rw[qN,lJ,h];rfl⟩
 obtain⟨tx,ga,gs,et,eg,gok⟩:∃(tx:Nat->Addr)(ga gs:Nat->Int),(∀i,i<4->([V.ref t1,V.ref t2,V.ref t3,V.ref t4][i]?=some (.ref (tx i))))/\(∀i,i<4->H8 (tx i)=some (.tup [.int (ga i),.int (gs i)]))/\∀i,i<4->0<=ga i/\ga i<=2:=by
  refine⟨fun i=>[t1,t2,t3,t4].getD i 0,fun i=>[1,1,2,1].getD i 0,fun i=>[5,6,5,5].getD i 0,fun i hi=>?_,fun i hi=>?_,fun i hi=>?_⟩
  ·match i,hi with
   |0,_=>rfl
   |1,_=>rfl
   |2,_=>rfl
   |3,_=>rfl
  ·match i,hi with
   |0,_=>exact h18
   |1,_=>exact h28
   |2,_=>exact h38
   |3,_=>exact h48
  ·match i,hi with
   |0,_=>exact⟨by decide,by decide⟩
   |1,_=>exact⟨by decide,by decide⟩
   |2,_=>exact⟨by decide,by decide⟩
   |3,_=>exact⟨by decide,by decide⟩
 refine⟨_,rfl,_,rfl,LD,GL,rfl,⟨_,bF.of hL8⟩,⟨_,bF.of hG8⟩,Fj (n:=4) (fx:=fun i=>V.ref (lx i)) (fy:=fun i=>V.ref (tx i)) (fun i σ Hy=>∃(Pu:List (Ad×List aL))(u4 Dy yF:Option V),σ=[some (.ref q.x),some (.ref q.B),some 0x3E,some (.ref d),u4,some (.ref SL),some (.ref FR),some (.str y0.n),some (.ref GL),some (.ref LD),Dy,yF,none,none]/\Uh H8 Hy/\Fam C Hy Pu/\Pu.length=4/\∀j z,Pu[j]?=some z->lx j=z.1.x/\xO z.1.a1 z.1.a2 z.1.a3 z.1.a4 z.1.a5/\(j<i->z.2.map core=(stp y0 es 0 0 0 0 (.grant y0.n n0 m0 (ga j) (gs j))).map core)/\(i<=j->z.2=es)) ?_ ?_ ?_ ?_⟩
 ·rintro i σ Hy ⟨_,_,_,_,_,nd,_⟩;have st:=lY (K:=K) (i:=i) (bF.of (nd.l hL8)) (bF.of (nd.l hG8)) (by rw[bY,hq];rfl);rw[bY,hq]at st;refine⟨fun hi=>⟨(st.1 hi).1,fun v H' y=>?_⟩,st.2⟩;obtain⟨r,e1,e2,e3⟩:=(st.1 hi).2 v H' y;refine⟨r,e1,e2,?_⟩;have lq:i<qe.length:=by lia
  rw[e3,qN,qN,et i hi,lJ,jo lq,Xq i _ (jo lq)];rfl
 ·exact⟨qe,_,_,_,rfl,fun _ _ _ h=>h,fam8,hq,fun j z h=>⟨Xq j z h,(hes8 z (oF h)).2,fun h=>absurd h (Nat.not_lt_zero _),fun _=>(hes8 z (oF h)).1⟩⟩
 ·rintro i σ Hy r hi ⟨Pu,u4,Dy,yF,rfl,nd,fam,hq',hz⟩ hr
  apply 0o1 Hy r hr sq kr Hq
  have nq:Uh H8 Hq:=fun c u hu e=>sq _ _ (nd c u hu e);have hlt:i<Pu.length:=by lia
  obtain⟨z,ez⟩:∃z,Pu[i]?=some z:=⟨_,jo hlt⟩;obtain⟨elz,apz,_,ees⟩:=hz i z ez;have ees:=ees 0x2F;have fq:=fam.same sq;have dz:=fq.ld z (oF ez);rw[ees]at dz;have dzo:=dz.L.o;rw[<-elz]at dzo;have g0:=gok i hi;have plq:=nq.pl pl8;refine⟨r,_,rfl,bI.of kr,rfl,_,_,rfl,_,_,rfl,tx i,_,rfl,bI.of (nq.t (eg i hi)),rfl,_,_,rfl,_,_,rfl,rfl,rfl,_,rfl,lx i,z.1.dx,_,rfl,dzo,rfl,_,rfl,_,rfl,FR,_,_,_,rfl,rfl,bF.of (nq.l hF8),at0,_,rfl,p,_,_,_,rfl,rfl,bI.of plq.r,aD (j:=0) rfl,m,_,_,_,rfl,rfl,bF.of plq.m,em0,_,rfl,_,rfl,?_⟩;dsimp only[fX];have gr:∀Qv:VK,(∀t H',Ld C z.1 H' (stp y0 es t 0 0 0 (.grant y0.n n0 m0 (ga i) (gs i)))->nM z.1 Hq H'->Qv .non H')->jF C [.ref (lx i),.str y0.n,.str n0,.str m0,.int (ga i),.int (gs i)] Hq Qv E0:=fun Qv kk=>by
   rw[elz];exact Ld.grant dz apz hy0 nn0 (pl.ol n0 nl0).ne.2 om0 g0.1 0x1 0x1 kk
  refine gr _ fun t H' d' o'=>?_;refine⟨Pu.set i (z.1,_),_,_,_,rfl,fun c u hu e=>yE dz.L o' hu (nq c u hu e),fq.set ez o' d',by rw[List.length_set];exact hq',fun j w hw=>?_⟩;rw[A3O]at hw
  split at hw
  ·rename_i c
   subst c;cases hw;refine⟨elz,apz,fun _=>?_,fun h=>absurd h 0x1⟩;rw[uy,uy]
  ·rename_i c
   obtain⟨a1,a2,a3,a4⟩:=hz j w hw;exact⟨a1,a2,fun h=>a3 0x1,fun h=>a4 0x1⟩
 ·rintro σ Hy ⟨Pu,u4,Dy,yF,rfl,nd,fam,hq',hz⟩;have ix:∀{i:Nat},i<4->∃z,Pu[i]?=some z/\oG (qe.map fun z=>V.ref z.1.x) (0+(i:Int))=some (.ref z.1.x):=fun{i}hi=>by
   obtain⟨z,ez⟩:∃z,Pu[i]?=some z:=⟨_,jo 0x1⟩;obtain⟨z1,ez1⟩:∃z,qe[i]?=some z:=⟨_,jo 0x1⟩;refine⟨z,ez,?_⟩;rw[A3i,<-(hz i z ez).1,Xq i z1 ez1];exact aD (by rw[lJ,ez1];rfl)
  have ig:∀{i:Nat},i<4->oG [V.ref t1,V.ref t2,V.ref t3,V.ref t4] (0+(i:Int))=some (.ref (tx i)):=fun{i}hi=>by
   rw[A3i];exact aD (et i hi)
  refine⟨4,rfl,by decide,by decide,dH (lo:=0) (n:=4) (fun i σ Hw=>(∃Jj Yk,σ=[some (.ref q.x),some (.ref q.B),some 0x3E,some (.ref d),u4,some (.ref SL),some (.ref FR),some (.str y0.n),some (.ref GL),some (.ref LD),Dy,yF,Jj,Yk])/\Same Hy Hw) ⟨⟨none,none,rfl⟩,Same.refl _⟩ ?_ ?_⟩
  ·rintro i σ Hw hi ⟨⟨Jj,Yk,rfl⟩,sw⟩;obtain⟨z,ez,az⟩:=ix hi;refine⟨4,rfl,by decide,by decide,dH (lo:=0) (n:=4) (fun j σ Hv=>(∃Yk,σ=[some (.ref q.x),some (.ref q.B),some 0x3E,some (.ref d),u4,some (.ref SL),some (.ref FR),some (.str y0.n),some (.ref GL),some (.ref LD),Dy,yF,some (.int (0+(i:Int))),Yk])/\Same Hy Hv) ⟨⟨Yk,rfl⟩,sw⟩ ?_ ?_⟩
   ·rintro j σ Hv hj ⟨⟨u13',rfl⟩,sv⟩;obtain⟨z',ez',az'⟩:=ix hj;have fv:=fam.same sv;have dz:=fv.ld z (oF ez);have dz':=fv.ld z' (oF ez');have hLv:=sv _ _ (nd.l hL8);have hGv:=sv _ _ (nd.l hG8);refine⟨_,rfl,_,rfl,LD,_,_,_,rfl,rfl,bF.of hLv,az,z.1.x,z.1.dx,_,rfl,dz.L.o,rfl,_,rfl,_,rfl,LD,_,_,_,rfl,rfl,bF.of hLv,az',?_⟩;dsimp only[fX];refine Ld.Av dz dz' ?_;refine⟨_,rfl,_,rfl,GL,_,_,_,rfl,rfl,bF.of hGv,ig hi,_,rfl,_,rfl,GL,_,_,_,rfl,rfl,bF.of hGv,ig hj,_,_,.tup (sv _ _ (nd.t (eg i hi))) (.cons (.int _) (.cons (.int _) .nil)),.tup (sv _ _ (nd.t (eg j hj))) (.cons (.int _) (.cons (.int _) .nil)),rfl,rfl,A1c rfl,_,_,rfl,.inl ⟨?_,rfl⟩,fun H' s'=>⟨_,rfl,bZ ⟨⟨_,rfl⟩,sv.trans s'⟩⟩⟩;rw[Gx,S5 W nn0 dz dz' ((hz i z ez).2.2.1 hi) ((hz j z' ez').2.2.1 hj)]
   ·rintro σ Hv ⟨⟨u13',rfl⟩,sv⟩;exact⟨⟨_,_,rfl⟩,sv⟩
  ·rintro σ Hw ⟨⟨Jj,Yk,rfl⟩,sw⟩;exact k _
end M
namespace L2
open PySem PySem.Spec PyProof.Rows
def Oz{o:Obj}{D:Ends}(Pv:Nat->St->Hp->Prop)(h0:Pv 0 σ H)(hl:∀i σ H,i<=kvs.length->Pv i σ H->H a=some 0x3B)
  (hb:∀i kv σ H,kvs[i]?=some kv->Pv i σ H->g (kV kv.1) σ H fun σ2 H2=>tb {D with nx:=Pv (i+1),ct:=Pv (i+1),bk:=D.nx} σ2 H2)
  (he:∀σ H,Pv kvs.length σ H->D.nx σ H):∃W:Nat->Nat->St->Hp->Prop,(∃m,W 0 m σ H)/\∀i m σ H,W i m σ H->
   ((Yc a o kvs).stop i H/\D.nx σ H)\/((Yc a o kvs).go i H/\∃N:St->Hp->Prop,(∀σ' H',N σ' H'->∃m',m'<m/\W (i+1) m' σ' H')/\∀x H',(Yc a o kvs).Az i H x H'->g x σ H' fun σ2 H2=>tb {D with nx:=N,ct:=N,bk:=D.nx} σ2 H2):=by
 refine⟨fun i m σ H=>i+m=kvs.length/\Pv i σ H,⟨kvs.length,by lia,h0⟩,?_⟩;rintro i m σ H ⟨hm,hP⟩;have hf:=hl i σ H 0x1 hP
 by_cases hi:i<kvs.length
 ·refine .inr ⟨⟨hf,hi⟩,Pv (i+1),fun σ' H' h=>⟨m-1,by lia,by lia,h⟩,?_⟩;rintro x H' ⟨rfl,kv,hkv,rfl⟩;exact hb i kv σ _ hkv hP
 ·have e:i=kvs.length:=by lia
  subst e;exact .inl ⟨⟨hf,A0g _⟩,he σ H hP⟩
end L2
namespace M
open PySem L2 PyProof.Rows
abbrev sCp:Stmt:=top 43
def Ja(l h o d kn he dd lg:Addr)(lo ho ow du:List 0x45)(ks:List Str):List (Str×Addr×HO):=[("lords",l,.dK lo),("holders",h,.dK ho),("own",o,.dK ow),("due",d,.dK du),("known",kn,.lst (ks.map V.str)),("heirs",he,.dK []),("dead",dd,.lst []),("lieges",lg,.dK [])]
def Gz(uT:List (Str×Addr×HO))(as:List Addr):List 0x45:=(uT.zip as).map fun p=>(.inr p.1.1,.ref p.2)
def GC{l h o:Addr}:cG [] (eF l h o d kn he dd lg)=eF l h o d kn he dd lg:=by with_unfolding_all rfl
theorem OD:∀{kvs:List 0x45}{i:Nat}{kv:Key×V},(kvs.map (·.1)).Nodup->kvs[i]?=some kv->bH kvs kv.1=some kv.2
 |[],_,_,_,h=>by simp at h
 | x::kvs,0,kv,_,h=>by
  rw[A2z]at h;injection h with h;subst h;unfold bH;rw[A1y 0x8];rfl
 | x::kvs,i+1,kv,nd,h=>by
  rw[A3z]at h;have hn:x.1≠kv.1:=fun z=>(A0z.mp nd).1 (by show x.1∈_;rw[z];exact A0h.mpr ⟨kv,oF h,rfl⟩)
  have:=OD (A0z.mp nd).2 h;unfold bH at this ⊢;rw[A1z (by simpa using hn)];exact this
def Xr{B l h o:Addr}(b:fG H B l h o d kn dd kvs lo ho ow du ks)(x:BX H kvs l h o d kn dd he lg):∀t∈Ja l h o d kn he dd lg lo ho ow du ks,H t.2.1=some t.2.2/\((∃m,t.2.2=.dK m)\/∃xs,t.2.2=.lst xs):=by
 intro t ht;simp only[Ja,A0c,A0j,A0V]at ht;rcases ht with rfl|rfl|rfl|rfl|rfl|rfl|rfl|rfl
 ·exact⟨b.l,.inl ⟨_,rfl⟩⟩
 ·exact⟨b.h,.inl ⟨_,rfl⟩⟩
 ·exact⟨b.o,.inl ⟨_,rfl⟩⟩
 ·exact⟨b.d,.inl ⟨_,rfl⟩⟩
 ·exact⟨b.k,.inr ⟨_,rfl⟩⟩
 ·exact⟨x.fh,.inl ⟨_,rfl⟩⟩
 ·exact⟨b.x,.inr ⟨_,rfl⟩⟩
 ·exact⟨x.fl,.inl ⟨_,rfl⟩⟩
def Sq{uT:List (Str×Addr×HO)}{t:Str×Addr×HO}{p:Addr}:∀{as:List Addr},uT[as.length]?=some t->Gz uT (as++[p])=Gz uT as++[(.inr t.1,.ref p)]:=by
 induction uT with
 |nil=>intro as h;simp at h
 | cons x uT ih=>
  intro as h;cases as with
  | nil=>
   rw[A3p,A2z]at h;injection h with h;subst h;unfold Gz;rw[List.nil_append,List.zip_cons_cons,A4s,A4s];rfl
  | cons a as=>
   rw[rT,A3z]at h
   show _::Gz uT (as++[p])=_::(Gz uT as++_)
   rw[ih h]
inductive Xu(vs:List V)(H:Hp)(Q:VK)(cP:XK):Prop
 |mk(B l h o d kn dd he lg:Addr)(kvs lo ho ow du:List 0x20)(ks:List Str)(_:vs=[.ref B])(_:fG H B l h o d kn dd kvs lo ho ow du ks)(_:BX H kvs l h o d kn dd he lg)(_:B∉[l,h,o,d])(_:∀B' l' h' o' d' kn' yK he' Yl kvs' H',Same H H'->(∀a∈[B',l',h',o',d',kn',yK,he',Yl],H a=none)->[B',l',h',o',d',kn',yK,he',Yl].Nodup->fG H' B' l' h' o' d' kn' yK kvs' lo ho ow du ks->BX H' kvs' l' h' o' d' kn' yK he' Yl->Q (.ref B') H'):Xu vs H Q cP
def Ss:aX ["_law_book_here","_law_other","_law_word","_law_thing"] A5u (aH sCp):=0x0
def a08(F:gF K "_law_copy_of" "_law_copy_of" sCp f fd)(mi:mg "isinstance"=none)(md:mg "dict"=none)(X5:mg "list"=none):aP P w K mg base bV 1 f fd A5u Xu:=by
 refine F.ok Ss 0x3 0x5;obtain⟨B,l,h,o,d,kn,dd,he,lg,kvs,lo,ho,ow,du,ks,rfl,b,x,nB,k⟩:=h;refine⟨_,aq (aW (i:=1) Ss.nd rfl 0x9 tE)
  (aq (NT (eZ A0M rfl (mX 0x11) (bf (i:=2) Ss.nd rfl 0x9)
   (aq (aW (i:=3) Ss.nd rfl 0x9 (aN 0x17 0x11 0x37 0x2))
   (aF (eY 0x17 0xE 0x37 (Jr (dg (aY (cF (K:=K)) rfl mi cj (aj 0x70 (aj (gK rfl md lB rfl (v:=.ty "dict")) aC)))) (cV iB rfl md lB (aj 0x70 aC)) (cV wX rfl X5 kI (aj 0x70 aC))) rfl)))))
  (aF (bh 0xE))),?_⟩
 refine fun N hN=>?_;have s1:=aJ hN (.dK []);have kN:(upd H N (.dK [])) N=some (.dK []):=ao;have nBN:B≠N:=aA b.b hN;dsimp only[iW];generalize upd H N (.dK [])=H1 at s1 kN ⊢;have ek:kvs=(Ja l h o d kn he dd lg lo ho ow du ks).map fun t=>(.inr t.1,.ref t.2.1):=by rw[x.e,GC];rfl
 have hth:=Xr b x;have tB:∀t∈Ja l h o d kn he dd lg lo ho ow du ks,t.2.1≠B:=by
  intro t ht e;have h1:=(hth t ht).1;have h2:=b.b;rw[e]at h1;simp only[Ja,A0c,A0j,A0V]at ht nB;have kne:kvs≠[]:=by rw[ek];exact fun z=>nomatch z
  rcases ht with rfl|rfl|rfl|rfl|rfl|rfl|rfl|rfl
  ·exact nB (.inl e.symm)
  ·exact nB (.inr (.inl e.symm))
  ·exact nB (.inr (.inr (.inl e.symm)))
  ·exact nB (.inr (.inr (.inr e.symm)))
  ·rw[h2]at h1;cases h1
  ·rw[h2]at h1;injection h1 with h1;injection h1 with h1;exact kne h1
  ·rw[h2]at h1;cases h1
  ·rw[h2]at h1;injection h1 with h1;injection h1 with h1;exact kne h1
 generalize hT:Ja l h o d kn he dd lg lo ho ow du ks=uT at ek hth tB;have nd:(kvs.map (·.1)).Nodup:=by rw[x.e,GC];exact(show([Sum.inr "lords",.inr "holders",.inr "own",.inr "due",.inr "known",.inr "heirs",.inr "dead",.inr "lieges"]:List Key).Nodup by decide+kernel)
 have tl:uT.length=8:=by rw[<-hT];rfl
 refine⟨B,kvs,s1 _ _ b.b,fun ob=>⟨_,rfl,B,ob,kvs,rfl,ao,Oz (fun i σ Hx=>∃(as:List Addr)(u2 u3:Option V),σ=[some (.ref B),some (.ref N),u2,u3]/\Hx B=some (.gD ob 0x18)/\(∀c u,c≠B->H c=some u->Hx c=some u)/\Hx N=some (.dK (cG [] (Gz uT as)))/\as.length=i/\(∀a∈as,H a=none/\a≠N)/\as.Nodup/\∀(j:Nat)(t:Str×Addr×HO)(a:Addr),uT[j]?=some t->as[j]?=some a->Hx a=some t.2.2)
  ⟨[],none,none,rfl,ao,fun c u hc e=>by rw[ak hc];exact s1 _ _ e,by rw[ak nBN.symm];unfold Gz;rw[A4s];exact kN,rfl,(fun a ha=>nomatch ha),A4r,fun j t a _ h2=>by simp at h2⟩ (fun i σ Hx _ hp=>by obtain⟨_,_,_,_,hp,_⟩:=hp;exact hp) ?_ ?_⟩⟩
 ·rintro i kv σ Hx hkv ⟨as,u2,u3,rfl,hB,ko,hN',hal,hfr,had,hct⟩;rw[ek,lJ]at hkv;obtain⟨t,ht,rfl⟩:=A1b.mp hkv;have tm:=oF ht;have ct:Hx t.2.1=some t.2.2:=ko _ _ (tB t tm) (hth t tm).1;have gv:bH kvs (.inr t.1)=some (.ref t.2.1):=OD (i:=i) (kv:=(.inr t.1,.ref t.2.1)) nd (by rw[ek,lJ,ht];rfl);have ml:(cG [] (Gz uT as)).length<=8:=by
   have h1:=iH (Gz uT as) [];have h2:(Gz uT as).length<=8:=by unfold Gz;rw[bY,List.length_zip];lia
   rw[A3p]at h1;lia
  have inv:∀p,Hx p=none->∃(as:List Addr)(u2 u3:Option V),[some (V.ref B),some (.ref N),some (.str t.1),some (.ref t.2.1)]=[some (.ref B),some (.ref N),u2,u3]/\(upd (upd Hx p t.2.2) N (.dK (putK (cG [] (Gz uT as)) (.inr t.1) 0x3E))) B=some (.gD ob 0x18)/\True:=fun p hp=>⟨as,_,_,rfl,by rw[ak nBN,ak (aA hB hp)];exact hB,trivial⟩;have nNp:∀{p},Hx p=none->N≠p:=fun hp=>aA hN' hp;have goal:∀p,Hx p=none->(fun(σ:L2.St)(Hx:Hp)=>∃(as:List Addr)(u2 u3:Option V),σ=[some (.ref B),some (.ref N),u2,u3]/\Hx B=some (.gD ob 0x18)/\(∀c u,c≠B->H c=some u->Hx c=some u)/\Hx N=some (.dK (cG [] (Gz uT as)))/\as.length=i+1/\(∀a∈as,H a=none/\a≠N)/\as.Nodup/\∀(j:Nat)(t:Str×Addr×HO)(a:Addr),uT[j]?=some t->as[j]?=some a->Hx a=some t.2.2) [some (.ref B),some (.ref N),some (.str t.1),some (.ref t.2.1)] (upd (upd Hx p t.2.2) N (.dK (putK (cG [] (Gz uT as)) (.inr t.1) 0x3E))):=fun p hp=>by
   have pB:p≠B:=(aA hB hp).symm;have pa:∀a∈as,Hx a≠none:=fun a ha=>by
    obtain⟨j,hj⟩:=A3Q.mp ha;have jl:=(A0p.mp hj).1;have il:=(A0p.mp ht).1;rw[hct j _ a (jo 0x1) hj];exact fun z=>nomatch z
   refine⟨as++[p],_,_,rfl,by rw[ak nBN,ak pB.symm];exact hB,fun c u hc e=>?_,?_,by rw[lG,hal];rfl,fun a ha=>?_,?_,fun j t' a h1 h2=>?_⟩
   ·have:=ko c u hc e;rw[ak (aA e hN),ak (aA this hp)];exact this
   ·rw[ao,Sq (by rw[hal];exact ht)];unfold cG;rw[A3M];rfl
   ·rcases A0u.mp ha with q|q
    ·exact hfr a q
    ·rw[A0e.mp q];refine⟨?_,(nNp hp).symm⟩;cases hq:H p with
     |none=>rfl
     |some u=>rw[ko p u pB hq]at hp;cases hp
   ·rw[A2o];refine⟨had,by simp,fun a ha b hb e=>?_⟩;rw[A0e.mp hb]at e;exact pa a ha (by rw[e];exact hp)
   ·by_cases c:j<as.length
    ·rw[A2e c]at h2;have am:=oF h2;have:=hct j t' a h1 h2;rw[ak (hfr a am).2,ak (aA this hp)];exact this
    ·have jl:=(A0p.mp h2).1;rw[lG,A0w]at jl;have:j=as.length:=by lia
     subst this;rw[A1k 0x2F,A4Q]at h2;injection h2 with h2;subst h2;rw[hal,ht]at h1;injection h1 with h1;subst h1;rw[ak (nNp hp).symm,ao]
  clear inv;refine⟨_,rfl,_,rfl,B,_,rfl,.inl ⟨kvs,.inr t.1,.inr ⟨ob,hB⟩,rfl,gv.symm⟩,?_⟩;rcases(hth t tm).2 with⟨m,em⟩|⟨xs,em⟩
  ·rw[em]at ct goal;exact⟨_,rfl,_,_,_,true,rfl,.dK ct,rfl,_,rfl,dJ ⟨_,rfl,t.2.1,m,rfl,ct,fun p hp=>⟨_,rfl,_,rfl,N,_,rfl,gY.k (k:=.inr t.1) (by rw[ak (nNp hp)];exact hN') (bO 0x1),goal p hp⟩⟩⟩
  ·rw[em]at ct goal;exact⟨_,rfl,_,_,_,false,rfl,.lst ct,rfl,_,rfl,bZ ⟨_,rfl,t.2.1,xs,rfl,.inl (bF.of ct),fun p hp=>⟨_,rfl,_,rfl,N,_,rfl,gY.k (k:=.inr t.1) (by rw[ak (nNp hp)];exact hN') (bO 0x1),goal p hp⟩⟩⟩
 ·rintro σ Hx ⟨as,u2,u3,rfl,hB,ko,hN',hal,hfr,had,hct⟩;have kl:kvs.length=8:=by rw[ek,bY,tl]
  rw [kl]at hal;obtain⟨a1,a2,a3,a4,a5,a6,a7,a8,rfl⟩:∃a1 a2 a3 a4 a5 a6 a7 a8,as=[a1,a2,a3,a4,a5,a6,a7,a8]:=by
   match as,hal with
   |[a1,a2,a3,a4,a5,a6,a7,a8],_=>exact⟨a1,a2,a3,a4,a5,a6,a7,a8,rfl⟩
  subst hT;have aB:∀a∈[a1,a2,a3,a4,a5,a6,a7,a8],a≠B:=fun a ha z=>by
   have:=(hfr a ha).1;rw[z,b.b]at this;cases this
  have g:∀{a u},a∈[a1,a2,a3,a4,a5,a6,a7,a8]->Hx a=some u->(upd Hx B 0x18) a=some u:=fun ha e=>by rw[ak (aB _ ha)];exact e
  refine⟨hB,_,rfl,?_⟩;refine k N a1 a2 a3 a4 a5 a7 a6 a8 (cG [] (eF a1 a2 a3 a4 a5 a6 a7 a8)) _ (fun c u e=>?_) (fun a ha=>?_) ?_
   ⟨by rw[ak nBN.symm];exact hN',tV,pL,zN,zO,tW,vQ,g 0x8 (hct 0 _ _ rfl rfl),g 0x8 (hct 1 _ _ rfl rfl),g 0x8 (hct 2 _ _ rfl rfl),g 0x8 (hct 3 _ _ rfl rfl),g 0x8 (hct 4 _ _ rfl rfl),g 0x8 (hct 6 _ _ rfl rfl),zP⟩
   ⟨rfl,g 0x8 (hct 5 _ _ rfl rfl),g 0x8 (hct 7 _ _ rfl rfl),?_,?_⟩
  ·by_cases c0:c=B
   ·subst c0;rw[b.b]at e;rw[ao];exact e
   ·rw[ak c0];exact ko c u c0 e
  ·simp only[A0c,A0j,A0V]at ha;rcases ha with rfl|rfl|rfl|rfl|rfl|rfl|rfl|rfl|rfl
   ·exact hN
   all_goals exact(hfr _ 0x8).1
  ·have nn:∀a∈[a1,a2,a3,a4,a5,a6,a7,a8],a≠N:=fun a ha=>(hfr a ha).2;refine A0z.mpr ⟨fun hm=>nn N ?_ rfl,?_⟩
   ·simp only[A0c,A0j,A0V]at hm ⊢;rcases hm with h|h|h|h|h|h|h|h<;>simp[<-h]
   ·exact(List.Perm.nodup_iff (((List.Perm.swap a6 a7 [a8]).cons a5 |>.cons a4 |>.cons a3 |>.cons a2 |>.cons a1))).mpr had
  ·simp only[A0z,A0c,A0j,A0V,A3v]at had ⊢
   simp_all [eq_comm]
  ·simp only[A0z,A0c,A0j,A0V,A3v]at had ⊢
   simp_all [eq_comm]
abbrev wrA(q:Ad):List Addr:=[q.a1,q.a2,q.a3,q.a4,q.a5,q.l,q.h,q.o,q.d,q.kn]
abbrev apA(q:Ad):List Addr:=[q.a1,q.a2,q.a3,q.a4,q.a5,q.B,q.l,q.h,q.o,q.d,q.kn,q.dd]
def Jb(q q':Ad):Prop:=∀a∈apA q,∀b∈apA q',a≠b
def Jb.symm{q q':Ad}(d:Jb q q'):Jb q' q:=fun a ha b hb e=>d b hb a ha e.symm
def Uk{q:Ad}(h:a∈wrA q):a∈apA q:=by
 simp only[A0c,A0j,A0V]at h ⊢;rcases h with h|h|h|h|h|h|h|h|h|h<;>simp[h]
def yH{q:Ad}{es:List aL}(R:Rel C q H es ks ls j):∀a∈apA q,∃u,H a=some u/\((∃m,u=.dK m)\/∃xs,u=.lst xs):=by
 intro a ha;simp only[A0c,A0j,A0V]at ha;rcases ha with rfl|rfl|rfl|rfl|rfl|rfl|rfl|rfl|rfl|rfl|rfl|rfl
 ·exact⟨_,R.L.l1,.inl ⟨_,rfl⟩⟩
 ·exact⟨_,R.L.l2,.inl ⟨_,rfl⟩⟩
 ·exact⟨_,R.L.l3,.inl ⟨_,rfl⟩⟩
 ·exact⟨_,R.L.l4,.inl ⟨_,rfl⟩⟩
 ·exact⟨_,R.L.l5,.inl ⟨_,rfl⟩⟩
 ·exact⟨_,R.B.b,.inl ⟨_,rfl⟩⟩
 ·exact⟨_,R.B.l,.inl ⟨_,rfl⟩⟩
 ·exact⟨_,R.B.h,.inl ⟨_,rfl⟩⟩
 ·exact⟨_,R.B.o,.inl ⟨_,rfl⟩⟩
 ·exact⟨_,R.B.d,.inl ⟨_,rfl⟩⟩
 ·exact⟨_,R.B.k,.inr ⟨_,rfl⟩⟩
 ·exact⟨_,R.B.x,.inr ⟨_,rfl⟩⟩
def SJ{q:Ad}{es:List aL}{u:HO}(R:Rel C q H es ks ls j)(o:jy q H H')(h1:∀m,u≠.dK m)(h2:∀xs,u≠.lst xs)(e:H c=some u):H' c=some u:=by
 refine o c u (fun h=>?_) e;obtain⟨v,hv,hk⟩:=yH R c (Uk h);rw[hv]at e;cases e;rcases hk with⟨m,z⟩|⟨xs,z⟩
 ·exact h1 m z
 ·exact h2 xs z
def Rel.keep{q q':Ad}{es es':List aL}{ls':List Str}{j':Nat}(R:Rel C q H es ks ls j)(r:Rel C q' H es' ks' ls' j')(o:jy q H H')(d:Jb q q'):Rel C q' H' es' ks' ls' j':=by
 have g:∀{c:Addr}{u:HO},c∈apA q'->H c=some u->H' c=some u:=fun hc e=>o _ _ (fun h=>d _ (Uk h) _ hc rfl) e;exact⟨r.ap,⟨SJ R o 0x12 0x12 r.L.o,g 0x8 r.L.l1,g 0x8 r.L.l2,g 0x8 r.L.l3,g 0x8 r.L.l4,g 0x8 r.L.l5⟩,
  ⟨g 0x8 r.B.b,r.B.vl,r.B.vh,r.B.vo,r.B.vd,r.B.vk,r.B.vx,g 0x8 r.B.l,g 0x8 r.B.h,g 0x8 r.B.o,g 0x8 r.B.d,g 0x8 r.B.k,g 0x8 r.B.x,r.B.len⟩,r.W,
  fun e he=>⟨jz R o (r.fr e he).1,jz R o (r.fr e he).2.1,(r.fr e he).2.2⟩,r.kn,r.ln,r.lk,r.nl,r.tot,r.cr⟩
structure Sys(C:Addr)(H:Hp)(ms ls:List Str)(wd:Int)(fs:List Int)(p m la fa kd LA BA:Addr)(qe:List (Ad×List aL×List Str))(j:Nat):Prop where
 pl:nO H p m la ms ls wd
 hfa:H fa=some (.lst 0x44)
 hkd:H kd=some (.lst (wC.map V.str))
 qM:H LA=some (.lst (qe.map fun z=>.ref z.1.x))
 yL:H BA=some (.lst (qe.map fun z=>.ref z.1.B))
 rel:∀z∈qe,Rel C z.1 H z.2.1 z.2.2 ls j/\Mn z.2.1/\z.1.wd=wd/\∀c∈[m,la,fa,kd,LA,BA],c≠z.1.kn
 ds:qe.Pairwise fun a b=>Jb a.1 b.1
section
variable{fs:List Int}{p m kd LA BA:Addr}{qe:List (Ad×List aL×List Str)}
def Sys.same(S:Sys C H ms ls wd fs p m la fa kd LA BA qe j)(s:Same H H'):Sys C H' ms ls wd fs p m la fa kd LA BA qe j:=
 ⟨S.pl.same s,s _ _ S.hfa,s _ _ S.hkd,s _ _ S.qM,s _ _ S.yL,fun z hz=>⟨(S.rel z hz).1.same s,(S.rel z hz).2⟩,S.ds⟩
def Sys.play{k:Nat}{z:Ad×List aL×List Str}{es':List aL}(S:Sys C H ms ls wd fs p m la fa kd LA BA qe j)(hi:qe[i]?=some z)(o:jy z.1 H H')(R':Rel C z.1 H' es' ks' ls k)(M':Mn es')(hk:j<=k):Sys C H' ms ls wd fs p m la fa kd LA BA (qe.set i (z.1,es',ks')) k:=by
 obtain⟨li,ei⟩:=A0p.mp hi;obtain⟨R,_,hw,hn⟩:=S.rel z (oF hi);have dis:∀{a b:Nat}{u v:Ad×List aL×List Str},qe[a]?=some u->qe[b]?=some v->a≠b->Jb u.1 v.1:=fun{a b u v}ha hb ne=>by
  obtain⟨la',ea⟩:=A0p.mp ha;obtain⟨lb',eb⟩:=A0p.mp hb;rcases A3w ne with h|h
  ·have:=A0W.mp S.ds a b la' lb' h
   rwa [ea,eb]at this
  ·have:=A0W.mp S.ds b a lb' la' h;rw[ea,eb]at this;exact this.symm
 have key:∀(k':Nat)(v:Ad×List aL×List Str),(qe.set i (z.1,es',ks'))[k']?=some v->(Rel C v.1 H' v.2.1 v.2.2 ls k/\Mn v.2.1/\v.1.wd=wd/\∀c∈[m,la,fa,kd,LA,BA],c≠v.1.kn)/\∃v0,qe[k']?=some v0/\v0.1=v.1:=fun k' v hv=>by
  rw[A3O]at hv
  split at hv
  ·rename_i c
   subst c
   first|(rw[A0i li]at hv)|skip
   cases hv;exact⟨⟨R',M',hw,hn⟩,z,hi,rfl⟩
  ·rename_i c
   obtain⟨r,rest⟩:=S.rel v (oF hv);exact⟨⟨(R.keep r o (dis hi hv c)).up hk,rest⟩,v,hv,rfl⟩
 have lst:∀{c:Addr}{xs:List V},c∈[m,la,fa,kd,LA,BA]->H c=some 0x53->H' c=some 0x53:=fun hc e=>mJ R o e (hn _ hc);have em:∀(f:Ad->V),(qe.set i (z.1,es',ks')).map (fun z=>f z.1)=qe.map fun z=>f z.1:=fun f=>by
  refine List.ext_getElem? fun a=>?_;rw[lJ,lJ,A3O]
  split
  ·rename_i c
   subst c;rw[hi]
   first|rfl|(rw[A0i li];rfl)
  ·rfl
 refine⟨S.pl.out R o (hn _ 0x8) (hn _ 0x8),lst 0x8 S.hfa,lst 0x8 S.hkd,?_,?_,fun v hv=>?_,A0W.mpr fun a b ha hb hl=>?_⟩
 ·rw[em fun q=>.ref q.x];exact lst 0x8 S.qM
 ·rw[em fun q=>.ref q.B];exact lst 0x8 S.yL
 ·obtain⟨a,ha⟩:=A3Q.mp hv;exact(key a v ha).1
 ·obtain⟨_,u,hu,e⟩:=key a _ (jo ha);obtain⟨_,v,hv,e'⟩:=key b _ (jo hb);rw[<-e,<-e'];exact dis hu hv 0x1
def Sys.go{z:Ad×List aL×List Str}{at_ many:Int}{Q:VK}{E:XK}(S:Sys C H ms ls wd fs p m la fa kd LA BA qe j)(hi:qe[i]?=some z)(hf:∀v∈fs,tR v)(h0:0<=at_)(h1:0<=many)(h2:at_+8*many<=fs.length)(h3:fs.length<=1000)(h4:j+many.toNat<=50)
  (k:∀es' ks' H',Sys C H' ms ls wd fs p m la fa kd LA BA (qe.set i (z.1,es',ks')) (j+many.toNat)->jy z.1 H H'->(es'.map core,ks')=yC ms ls fs at_.toNat many.toNat (z.2.1.map core,z.2.2)->Q (.bl true) H'):RQ C [.ref z.1.x,.ref z.1.B,.ref p,.ref fa,.int at_,.int many,.ref kd] H Q E:=by
 obtain⟨R,M,hw,hn⟩:=S.rel z (oF hi);exact⟨z.1,z.2.1,z.2.2,j,p,m,la,fa,kd,ms,ls,wd,at_,many,fs,rfl,R,S.pl,S.hfa,hf,S.hkd,hn _ 0x8,hn _ 0x8,hn _ 0x8,hn _ 0x8,h0,h1,h2,h3,h4,fun es' ks' H' R' o' e'=>
  k es' ks' H' (S.play hi o' R' (Ud (fun z hz=>(S.pl.om z hz).ne.2) M e') 0x1) o' e'⟩
def Dz{e:Addr}(h:xO a b c d e):[a,b,c,d,e].Nodup:=by
 simp only[A0z,A0c,A0j,A0V,A3v,A4r,and_true,not_false_eq_true];exact⟨⟨h.n12,h.n13,h.n14,h.n15⟩,⟨h.n23,h.n24,h.n25⟩,⟨h.n34,h.n35⟩,h.n45⟩
def Ul{q:Ad}(a5:xO q.a1 q.a2 q.a3 q.a4 q.a5)(b:BQ q H lo ho ow du ks)(b5:xO q.B q.l q.h q.o q.d)(nk:q.kn≠q.dd)(dis:∀a∈[q.a1,q.a2,q.a3,q.a4,q.a5],∀c∈[q.B,q.l,q.h,q.o,q.d,q.kn,q.dd],a≠c):Ap q:=by
 show([q.a1,q.a2,q.a3,q.a4,q.a5]++([q.B,q.l,q.h,q.o,q.d]++[q.kn,q.dd])).Nodup
 refine A2o.mpr ⟨Dz a5,A2o.mpr ⟨Dz b5,by simpa using nk,fun x hx y hy=>?_⟩,dis⟩;have h1:∃m,H x=some (.dK m):=by
  simp only[A0c,A0j,A0V]at hx;rcases hx with rfl|rfl|rfl|rfl|rfl
  ·exact⟨_,b.b⟩
  ·exact⟨_,b.l⟩
  ·exact⟨_,b.h⟩
  ·exact⟨_,b.o⟩
  ·exact⟨_,b.d⟩
 have h2:∃xs,H y=some 0x53:=by
  simp only[A0c,A0j,A0V]at hy;rcases hy with rfl|rfl
  ·exact⟨_,b.k⟩
  ·exact⟨_,b.x⟩
 obtain⟨m',h1⟩:=h1;obtain⟨xs,h2⟩:=h2;exact bB h1 h2 (fun z=>by cases z)
def wD{q:Ad}{n:Int}{t u:Addr}(ap:Ap q)(L:bT C H q.x q.dx q.a1 q.a2 q.a3 q.a4 q.a5 (fU .non) (fU 0x8D) (fU (.int n)) (fU 0x72) (fU (.int n)))(b:BQ q H (fU .non) (fU 0x8D) (fU (.int n)) (fU (.ref u)) [])(h1:1<=n)(h2:n<=9999)(ft:qT H t 0 1)(fu:qT H u 0 1)(hw:q.wd=n):
  Rel C q H [⟨"",none,"",n,n,(0,1),t,u⟩] [] ls 0/\Mn [⟨"",none,"",n,n,(0,1),t,u⟩]:=by
 refine⟨⟨ap,L,b,Ou h1 h2,?_,?_,by simp,by simp,?_,?_,?_⟩,?_⟩
 ·intro e he;rw[A0e.mp he];refine⟨ft,fu,?_⟩
  show Bd 10 (0,1)
  exact⟨by show(0:Int).natAbs<10^10;decide,by show(0:Int)<1;decide,by show(1:Int).natAbs<10^10;decide⟩
 ·intro e he hne;rw[A0e.mp he]at hne;exact absurd rfl hne
 ·intro e he;rw[A0e.mp he];exact .inl rfl
 ·rw[hw]
  show n+0=n
  lia
 ·intro e he _;rw[A0e.mp he,hw]
 ·intro e he;rw[A0e.mp he]
  show PyData.strOk ""=true
  decide+kernel
def Rel.Ji{q:Ad}{es:List aL}(r:Rel C q H es ks ls j)(h:H D=some 0x53)(n1:D≠q.kn)(n2:D≠q.dd):Rel C q (upd H D 0x57) es ks ls j:=by
 have g:∀{c:Addr}{u:HO},(∀zs,u≠.lst zs)->H c=some u->(upd H D 0x57) c=some u:=fun{c u}hu e=>by
  rw[ak fun z=>hu xs (by rw[z,h]at e;exact(A0O e).symm)];exact e
 have g':∀{c:Addr}{u:HO},D≠c->H c=some u->(upd H D 0x57) c=some u:=fun{c u}hu e=>by rw[ak hu.symm];exact e
 exact⟨r.ap,⟨g 0x12 r.L.o,g 0x12 r.L.l1,g 0x12 r.L.l2,g 0x12 r.L.l3,g 0x12 r.L.l4,g 0x12 r.L.l5⟩,
  ⟨g 0x12 r.B.b,r.B.vl,r.B.vh,r.B.vo,r.B.vd,r.B.vk,r.B.vx,g 0x12 r.B.l,g 0x12 r.B.h,g 0x12 r.B.o,g 0x12 r.B.d,g' n1 r.B.k,g' n2 r.B.x,r.B.len⟩,r.W,
  fun e he=>⟨g 0x12 (r.fr e he).1,g 0x12 (r.fr e he).2.1,(r.fr e he).2.2⟩,r.kn,r.ln,r.lk,r.nl,r.tot,r.cr⟩
def Sys.snoc{q':Ad}{z:Ad×List aL×List Str}{H3:Hp}(S:Sys C H ms ls wd fs p m la fa kd LA BA qe j)(hz:z∈qe)(nl:LA∉[m,la,fa,kd])(nb:BA∉[m,la,fa,kd])(nLB:LA≠BA)
  (s1:Same H H1)(L':Ln C q' H1 z.2.1)(f1:∀c∈[q'.a1,q'.a2,q'.a3,q'.a4,q'.a5],H c=none)(a5:xO q'.a1 q'.a2 q'.a3 q'.a4 q'.a5)
  (s3:Same (upd H1 LA 0x2D) H3)(f3:∀c∈[q'.B,q'.l,q'.h,q'.o,q'.d,q'.kn,q'.dd],(upd H1 LA (.lst (qe.map (fun z=>V.ref z.1.x)++[.ref q'.x]))) c=none)(nd:[q'.B,q'.l,q'.h,q'.o,q'.d,q'.kn,q'.dd].Nodup)(b':Bk q' H3 z.2.1 z.2.2)(hw':q'.wd=z.1.wd):
  Sys C (upd H3 BA (.lst (qe.map (fun z=>.ref z.1.B)++[.ref q'.B]))) ms ls wd fs p m la fa kd LA BA (qe++[(q',z.2)]) j:=by
 have S1:=S.same s1;have ne:qe≠[]:=fun e=>by rw[e]at hz;cases hz
 have nne:∀f:Ad×List aL×List Str->V,qe.map f≠[]:=fun f e=>ne (List.map_eq_nil_iff.mp e);have k2:(upd H1 LA 0x2D) LA=some 0x2D:=ao;have g2:∀{c:Addr}{u:HO},c≠LA->H1 c=some u->(upd H1 LA 0x2D) c=some u:=fun h e=>by rw[ak h];exact e
 have r2:∀v∈qe,Rel C v.1 (upd H1 LA 0x2D) v.2.1 v.2.2 ls j:=fun v hv=>by
  obtain⟨r,_,_,hn⟩:=S1.rel v hv;exact r.Ji S1.qM (hn _ 0x8) fun e=>by
   have:=r.B.x;rw[<-e,S1.qM]at this;injection this with this;injection this with this;exact nne _ this
 have L2:Ln C q' (upd H1 LA 0x2D) z.2.1:=by
  have g:∀{c:Addr}{u:HO},(∀zs,u≠.lst zs)->H1 c=some u->(upd H1 LA 0x2D) c=some u:=fun{c u}hu e=>g2 (fun h=>hu _ (by rw[h,S1.qM]at e;exact(A0O e).symm)) e;exact⟨g 0x12 L'.o,g 0x12 L'.l1,g 0x12 L'.l2,g 0x12 L'.l3,g 0x12 L'.l4,g 0x12 L'.l5⟩
 have p2:∀c∈[m,la,fa,kd,LA,BA],∃u,(upd H1 LA (.lst (qe.map (fun z=>V.ref z.1.x)++[.ref q'.x]))) c=some u:=by
  intro c hc
  by_cases h:c=LA
  ·rw[h];exact⟨_,k2⟩
  simp only[A0c,A0j,A0V]at hc;rcases hc with rfl|rfl|rfl|rfl|rfl|rfl
  ·exact⟨_,g2 h S1.pl.m⟩
  ·exact⟨_,g2 h S1.pl.la⟩
  ·exact⟨_,g2 h S1.hfa⟩
  ·exact⟨_,g2 h S1.hkd⟩
  ·exact absurd rfl h
  ·exact⟨_,g2 h S1.yL⟩
 have fa2:∀c∈[q'.a1,q'.a2,q'.a3,q'.a4,q'.a5],∃u,(upd H1 LA (.lst (qe.map (fun z=>V.ref z.1.x)++[.ref q'.x]))) c=some u:=by
  intro c hc;simp only[A0c,A0j,A0V]at hc;rcases hc with rfl|rfl|rfl|rfl|rfl
  ·exact⟨_,L2.l1⟩
  ·exact⟨_,L2.l2⟩
  ·exact⟨_,L2.l3⟩
  ·exact⟨_,L2.l4⟩
  ·exact⟨_,L2.l5⟩
 have Xv:=g2 (A0k nLB) S1.yL;have OJ:=g2 (fun h=>nl (by simp[<-h])) S1.hfa;have hkd2:=g2 (fun h=>nl (by simp[<-h])) S1.hkd;have hm2:=g2 (fun h=>nl (by simp[<-h])) S1.pl.m;have hla2:=g2 (fun h=>nl (by simp[<-h])) S1.pl.la;have hr2:=g2 (bB S1.pl.r S1.qM (fun z=>by cases z)) S1.pl.r;generalize upd H1 LA 0x2D=H2 at*
 have SM:=s3 _ _ Xv;have g4:∀{c:Addr}{u:HO},c≠BA->H3 c=some u->(upd H3 BA (.lst (qe.map (fun z=>.ref z.1.B)++[.ref q'.B]))) c=some u:=fun h e=>by rw[ak h];exact e
 have P0:∀c∈[m,la,fa,kd,LA,BA],c≠q'.kn:=fun c hc e=>by
  obtain⟨u,hu⟩:=p2 c hc;rw[e,f3 _ 0x8]at hu;cases hu
 have nddB:BA≠q'.dd:=fun e=>by
  rw[e,f3 _ 0x8]at Xv;cases Xv
 have dis:∀a∈[q'.a1,q'.a2,q'.a3,q'.a4,q'.a5],∀c∈[q'.B,q'.l,q'.h,q'.o,q'.d,q'.kn,q'.dd],a≠c:=fun a ha c hc e=>by
  obtain⟨u,hu⟩:=fa2 a ha;rw[e,f3 c hc]at hu;cases hu
 obtain⟨rz,Mz,wz,_⟩:=S1.rel z hz;have r3:Rel C q' H3 z.2.1 z.2.2 ls j:=⟨A2o.mpr ⟨Dz a5,nd,dis⟩,L2.same s3,b',rz.W,fun e he=>⟨s3 _ _ ((r2 z hz).fr e he).1,s3 _ _ ((r2 z hz).fr e he).2.1,(rz.fr e he).2.2⟩,rz.kn,rz.ln,rz.lk,rz.nl,by rw[hw'];exact rz.tot,by rw[hw'];exact rz.cr⟩;refine⟨⟨g4 (bB (s3 _ _ hr2) SM fun z=>by cases z) (s3 _ _ hr2),g4 (fun h=>nb (by simp[<-h])) (s3 _ _ hm2),g4 (fun h=>nb (by simp[<-h])) (s3 _ _ hla2),S.pl.lm,S.pl.ll,S.pl.nm,S.pl.om,S.pl.ol,S.pl.w1,S.pl.w2,S.pl.nl⟩,g4 (fun h=>nb (by simp[<-h])) (s3 _ _ OJ),g4 (fun h=>nb (by simp[<-h])) (s3 _ _ hkd2),?_,?_,fun v hv=>?_,List.pairwise_append.mpr ⟨S.ds,A3G _ _,fun v hv v' hv' a ha b hb e=>?_⟩⟩
 ·rw[lN];exact g4 nLB (s3 _ _ k2)
 ·rw[lN];exact ao
 ·rcases A0u.mp hv with c|c
  ·obtain⟨r,M,w,hn⟩:=S1.rel v c;have r3:=(r2 v c).same s3;exact⟨r3.Ji SM (hn _ 0x8) fun e=>by
    have:=r3.B.x;rw[<-e,SM]at this;injection this with this;injection this with this;exact nne _ this,M,w,hn⟩
  ·rw[A0e.mp c];exact⟨r3.Ji SM (P0 _ 0x8) nddB,Mz,hw'.trans wz,P0⟩
 ·rw[A0e.mp hv']at hb;obtain⟨u,hu,_⟩:=yH (S.rel v hv).1 a ha;rcases A0u.mp (show b∈[q'.a1,q'.a2,q'.a3,q'.a4,q'.a5]++[q'.B,q'.l,q'.h,q'.o,q'.d,q'.kn,q'.dd]from hb)with c|c
  ·rw[e,f1 b c]at hu;cases hu
  ·obtain⟨u,hu,_⟩:=yH (r2 v hv) a ha;rw[e,f3 b c]at hu;cases hu
end
abbrev DG:Stmt:=top 48
inductive Aw(K:W.Frag)(vs:List V)(H:Hp)(Q:VK)(cP:XK):Prop
 |mk(a:Addr)(ns:List Int)(_:vs=[.ref a])(_:bF K H a 0x43)(_:ns.length<=63)(_:∀H',Q (.bl true) H'):Aw K vs H Q cP
def Ax{Q:Addr->Hp->Prop}{E:XK}(w1:1<=wd)(w2:wd<=9999)
  (k:∀x dx a1 a2 a3 a4 a5 t H',Same H H'->bT C H' x dx a1 a2 a3 a4 a5 (fU .non) (fU 0x8D) (fU (.int wd)) (fU 0x72) (fU (.int wd))->xO a1 a2 a3 a4 a5->(∀c∈[a1,a2,a3,a4,a5],H c=none)->qT H' t 0 1->Q x H'):
  ∀x dx,H x=none->H dx=none->dx≠x->qF C [.ref x,.int wd] (upd (upd H dx (.own x)) x (.ins C dx [])) (fun v H2=>v=.non/\Q x H2) E:=by
 intro x dx hx hdx hxd;refine⟨x,dx,wd,rfl,ao,w1,w2,fun a1 a2 a3 a4 a5_ t H3 fr L a5 n1 n2 n3 n4 n5 nt ft=>⟨rfl,?_⟩⟩;have hsm:∀{c:Addr}{u:HO},H c=some u->c≠x/\c≠dx:=fun e=>⟨aA e hx,aA e hdx⟩;refine k x dx a1 a2 a3 a4 a5_ t H3 (fun c u e=>fr c u (hsm e).1 (by rw[ak (hsm e).1,ak (hsm e).2];exact e)) L a5 (fun c hc=>?_) ft;cases e:H c with
 |none=>rfl
 | some u=>
  have e':(upd (upd H dx (.own x)) x (.ins C dx [])) c≠none:=by
   rw[ak (hsm e).1,ak (hsm e).2,e];exact fun z=>nomatch z
  simp only[A0c,A0j,A0V]at hc;rcases hc with rfl|rfl|rfl|rfl|rfl
  ·exact absurd n1 e'
  ·exact absurd n2 e'
  ·exact absurd n3 e'
  ·exact absurd n4 e'
  ·exact absurd n5 e'
def Ay{fs:List Int}{a:Nat}(h:a<=fs.length):gH 0x44 (some (a:Int)) none=(fs.drop a).map V.int:=by
 unfold gH;have e2:HT.fY (0x44).length (0x44).length none=(0x44).length:=rfl;rw[HT.jB,e2,bY,A1I h,<-List.map_drop,<-A4K]
 congr 1
 exact A3K (by rw[A1l];lia)
def Jc{q:Ad}(s:Same H H1)(o:jy q H1 H2)(n:∀c∈wrA q,H c=none):Same H H2:=fun c u e=>o c u (fun h=>by rw[n c h]at e;cases e) (s c u e)
inductive Bz(H:Hp)(q:Ad):Prop
 |mk(he lg:Addr)(_:BX H q.kvs q.l q.h q.o q.d q.kn q.dd he lg):Bz H q
def Bz.same{q:Ad}(b:Bz H q)(s:Same H H'):Bz H' q:=by
 obtain⟨he,lg,b⟩:=b;exact⟨he,lg,b.same s⟩
def Bz.Ji{q:Ad}(b:Bz H q)(h:H D=some 0x53):Bz (upd H D 0x57) q:=by
 obtain⟨he,lg,b⟩:=b;exact⟨he,lg,b.e,by rw[ak (bB b.fh h fun z=>by cases z)];exact b.fh,by rw[ak (bB b.fl h fun z=>by cases z)];exact b.fl,b.n1,b.n2⟩
def Sys.ndd{fs:List Int}{p m kd LA BA:Addr}{qe:List (Ad×List aL×List Str)}(S:Sys C H ms ls wd fs p m la fa kd LA BA qe j){z:Ad×List aL×List Str}(hz:z∈qe):LA≠z.1.dd:=fun e=>by
 have:=(S.rel z hz).1.B.x;rw[<-e,S.qM]at this;injection this with this;injection this with this;rw[List.map_eq_nil_iff.mp this]at hz;cases hz
def jH:aX ["_law_script","_law_feed_here","_law_pools_here","_law_books","_law_lands","_law_kinds","_law_anew","_law_k","_law_at","_law_land","_law_book_here","_law_one","_law_other"] ["_law_script"] (aH DG):=0x0
def Xw(T:eO K C)(F:gF K "law" "law" DG f fd)(mr:mg "range"=none)(mz:mg "zip"=none)(mL:mg "Land"=some 0x8C){g7 g8 g9 g10 g11 g12 g13 g14:Addr}{d7 d8 d9 d10 d11 Rp d13 d14:FuncData}(MK:Mk K C g3)
  (G1:aP P w K mg base bV 1 g1 d1 ["_law_script","_law_many"] (Cr K))(M1:Ms K mg "_law_feed" g1 d1 ["_law_script","_law_many"])
  (G2:aP P w K mg base bV 2 g2 d2 ["_law_feed_here"] (yu K))(M2:Ms K mg "_law_pools" g2 d2 ["_law_feed_here"])
  (G3:aP P w K mg base bV 3 g3 d3 ["self","acres"] (qF C))(b3:Binds K d3 ["self","acres"] [])
  (G4:aP P w K mg base bV 1 g4 d4 ["_law_acres"] CJ)(M4:Ms K mg "_law_book" g4 d4 ["_law_acres"])
  (G5:aP P w K mg base bV 7 g5 d5 A5i (RQ C))(M5:Ms K mg "_law_played" g5 d5 A5i)
  (G6:aP P w K mg base bV 5 g6 d6 ["_law_land","_law_book_here"] (Ww C))(M6:Ms K mg "_law_land_is" g6 d6 ["_law_land","_law_book_here"])
  (G7:aP P w K mg base bV 5 g7 d7 A5J (nF C))(m7:Meth K C "twin" g7)(b7:Binds K d7 A5J [])
  (G8:aP P w K mg base bV 1 g8 d8 A5K (lC C))(m8:Meth K C "same" g8)(b8:Binds K d8 A5K [])
  (G9:aP P w K mg base bV 1 g9 d9 A5u Xu)(M9:Ms K mg "_law_copy_of" g9 d9 A5u)
  (Wy:aP P w K mg base bV 4 g10 d10 ["_law_land"] (Xd C))(Rq:Ms K mg "_law_spoilt_lists" g10 d10 ["_law_land"])
  (Rt:aP P w K mg base bV 3 g11 d11 A5k (kW 3))(M11:Ms K mg "_law_same" g11 d11 A5k)
  (Ru:aP P w K mg base bV 1 g12 Rp A5s Xb)(yq:Ms K mg "_law_alike" g12 Rp A5s)
  (G13:aP P w K mg base bV 5 g13 d13 ["_law_pools_here","_law_d"] (Xg K))(Ym:Ms K mg "_law_lords_apart" g13 d13 ["_law_pools_here","_law_d"])
  (G14:aP P w K mg base bV 6 g14 d14 A5q (Xn C K))(M14:Ms K mg "_law_told_apart" g14 d14 A5q):
  aP P w K mg base bV 8 f fd ["_law_script"] (Aw K):=by
 refine F.ok jH 0x3 0x5;obtain⟨sA,ns,rfl,hS,h63,kk⟩:=h;have hr1:fK 1 _:=hr.mono 0x6;have hr2:fK 2 _:=hr.mono 0x6;have vP:fK 3 _:=hr.mono 0x6;have Ih:fK 4 _:=hr.mono 0x6;have Fx:fK 5 _:=hr.mono 0x6;have hr6:fK 6 _:=hr.mono 0x6;refine⟨_,(aq (aW (i:=1) jH.nd rfl 0x9 (aZ G1 hr1 rfl M1.m M1.k M1.b .nil aU (aj 0x11 0x5A)))
  (aq (aW (i:=2) jH.nd rfl 0x9 (aZ G2 hr2 rfl M2.m M2.k M2.b .nil aU 0x4D))
  (aq (aW (i:=3) jH.nd rfl 0x9 (dZ (aj (aZ G4 hr1 rfl M4.m M4.k M4.b .nil aU (aj 0x67 aC)) aC)))
  (aq (aW (i:=4) jH.nd rfl 0x9 (dZ (aj (rE MK G3 Ih rfl mL b3 .nil aU (aj 0x67 aC)) aC)))
  (aq (aW (i:=5) jH.nd rfl 0x9 (dZ (aj aG (aj aG (aj aG 0x94)))))
  (aq (bM (fL (dg (aZ G5 hr rfl M5.m M5.k M5.b .nil aU (aj (aK aM (pv 4) au 0x2) (aj (aK aM 0x70 au 0x2) (aj 0x37 (aj 0xE (aj au (aj 0x88 (aj (pv 5) aC)))))))))) bR aV)
  (aq (aW (i:=6) jH.nd rfl 0x9 (rE MK G3 Ih rfl mL b3 .nil aU (aj 0x67 aC)))
  (aq (bM (fL (dg (aZ G5 hr rfl M5.m M5.k M5.b .nil aU (aj (pv 6) (aj (aZ G4 hr1 rfl M4.m M4.k M4.b .nil aU (aj 0x67 aC)) (aj 0x37 (aj 0xE (aj au (aj 0x88 (aj (pv 5) aC)))))))))) bR aV)
  (aq (bM (fL (dg (bG (pv 6) T.cl m8 G8 hr1 b8 .nil aU (aj (aK aM (pv 4) au 0x2) aC)))) bR aV)
  (aq (eZ A0M rfl 0x92 (bf (i:=7) jH.nd rfl 0x9)
   (aq (bJ (jD A0J A0R A0S cX (pv 4) (aj (iK (aK aM (pv 4) (uW qg au) 0x2) T.cl m7 G7 Fx b7 .nil aU) aC)))
   (aF (bJ (jD A0J A0R A0S cX 0x70 (aj (aZ G9 hr1 rfl M9.m M9.k M9.b .nil aU (aj (aK aM 0x70 (uW qg au) 0x2) aC)) aC))))))
  (aq (eZ A0M rfl (cT rfl mr (aj 0x88 aC)) (bf (i:=7) jH.nd rfl 0x9)
   (aq (aW (i:=8) jH.nd rfl 0x9 (aO bL (aO mU (aK aM 0xE (aO cL au (aO iU au (pv 7))) 0x2) au) au))
   (aq (bM (fL (dg (aZ G5 hr rfl M5.m M5.k M5.b .nil aU (aj (aK aM (pv 4) (pv 8) 0x2) (aj (aK aM 0x70 (pv 8) 0x2) (aj 0x37 (aj 0xE (aj (aO cL au (aO iU au (pv 7))) (aj au (aj (pv 5) aC)))))))))) bR aV)
   (aq (eZ A0M rfl (sZ rfl mz (aj (pv 4) (aj 0x70 aC))) (qb rfl (cg (bf (i:=9) jH.nd rfl 0x9) (cg (bf (i:=10) jH.nd rfl 0x9) iG)))
    (aq (bJ (aZ Wy Ih rfl Rq.m Rq.k Rq.b .nil aU (aj (pv 9) aC)))
    (aF (bM (fL (dg (aZ G6 Fx rfl M6.m M6.k M6.b .nil aU (aj (pv 9) (aj (pv 10) aC))))) bR aV))))
   (aF (eZ A0M rfl 0x92 (bf (i:=11) jH.nd rfl 0x9) (aF (eZ A0M rfl 0x92 (bf (i:=12) jH.nd rfl 0x9)
    (aF (bM (fL (dg (aZ Rt vP rfl M11.m M11.k M11.b .nil aU (aj (bG (aK aM (pv 4) (pv 11) 0x2) T.cl m8 G8 hr1 b8 .nil aU (aj (aK aM (pv 4) (pv 12) 0x2) aC)) (aj (aZ Ru hr1 rfl yq.m yq.k yq.b .nil aU (aj (aK aM 0x70 (pv 11) 0x2) (aj (aK aM 0x70 (pv 12) 0x2) aC))) aC))))) bR aV))))))))))
  (aq (bM (fL (dg (aZ G13 Fx rfl Ym.m Ym.k Ym.b .nil aU (aj 0x37 (aj (fj jc 0xE (cW au) j9) aC))))) bR aV)
  (aF (bh (aZ G14 hr6 rfl M14.m M14.k M14.b .nil aU (aj (aK aM (pv 4) au 0x2) (aj (aK aM 0x70 au 0x2) (aj 0x37 (aj (fj jc 0xE (cW au) j9) aC))))))))))))))))))),?_⟩
 refine⟨_,rfl,sA,ns,150,rfl,hS,h63,by decide,by decide,fun fa H1 fs s1 hfa0 hfa1 hfl hfo=>?_⟩;have hl:fs.length=150:=by lia
 obtain⟨f0,e0,o0⟩:=fJ hfo (i:=0) 0x6 0x1;obtain⟨o0a,o0b⟩:=o0;obtain⟨f1,e1,o1⟩:=fJ hfo (i:=1) 0x6 0x1;obtain⟨o1a,o1b⟩:=o1;refine⟨_,rfl,fa,fs,rfl,bF.of hfa1,by lia,hfo,fun p m la ms ls wd H2 s2 pl=>?_⟩;have OJ:=s2 _ _ hfa1;refine⟨_,rfl,p,_,_,_,rfl,rfl,bI.of pl.r,aD (j:=2) rfl,wd,rfl,fun B l h o d kn dd u he lg kvs H3 s3 nB nl nh no nd P0 ndd nu nhe nlg bx b5 nkd bk fu=>?_⟩;refine⟨small 0x8,fun BA yL=>?_⟩;have sB:=aJ yL (.lst [V.ref B]);have kB:(upd H3 BA (.lst [V.ref B])) BA=some (.lst [.ref B]):=ao;have nBA:BA≠kn:=fun e=>by have:=bk.k;rw[<-e,yL]at this;cases this
 dsimp only[iW];generalize upd H3 BA (.lst [V.ref B])=H4 at sB kB ⊢;have s4:=s3.trans sB;have Pa:=bk.same sB;have bx4:=bx.same sB;have Sg:=pl.same s3;have pl4:=pl.same s4;refine⟨_,rfl,p,_,_,_,rfl,rfl,bI.of pl4.r,aD (j:=2) rfl,?_⟩;dsimp only[fX];refine Ax pl.w1 pl.w2 fun x dx a1 a2 a3 a4 a5 t H5 s5 L5 ap5 fz ft=>?_;refine⟨small 0x8,fun LA qM=>?_⟩;have sL:=aJ qM (.lst [V.ref x]);have kL:(upd H5 LA (.lst [V.ref x])) LA=some (.lst [.ref x]):=ao;dsimp only[iW];generalize upd H5 LA (.lst [V.ref x])=H6 at sL kL ⊢;refine⟨small 0x8,fun KD hKD=>?_⟩;have sK:=aJ hKD (.lst [V.str "grant",.str "part",.str "convey",.str "surrender"]);have kK:(upd H6 KD (.lst [V.str "grant",.str "part",.str "convey",.str "surrender"])) KD=some (.lst (wC.map V.str)):=ao;dsimp only[iW];generalize upd H6 KD (.lst [V.str "grant",.str "part",.str "convey",.str "surrender"])=H7 at sK kK ⊢;have pl5:=pl4.same s5;have hfa5:=s5 _ _ (s4 _ _ OJ);have s57:=sL.trans sK;have Yn:=s5.trans s57;have pl6:=pl5.same sL;have bk7:=Pa.same Yn;have nLA:LA∉[m,la,fa,KD]:=fun h=>by
  simp only[A0c,A0j,A0V]at h;rcases h with h|h|h|h
  ·exact aA pl5.m qM h.symm
  ·exact aA pl5.la qM h.symm
  ·exact aA hfa5 qM h.symm
  ·exact aA kL hKD h
 have nBK:BA∉[m,la,fa,KD]:=fun h=>by
  simp only[A0c,A0j,A0V]at h;rcases h with h|h|h|h
  ·exact aA Sg.m yL h.symm
  ·exact aA Sg.la yL h.symm
  ·exact aA (s3 _ _ OJ) yL h.symm
  ·exact aA (sL _ _ (s5 _ _ kB)) hKD h
 have nLB:LA≠BA:=(aA (s5 _ _ kB) qM).symm;have wrN:∀c,(∀u,H4 c=some u->c∉[a1,a2,a3,a4,a5]):=fun c u e h=>by rw[fz c h]at e;cases e
 obtain⟨q,es0,S0,B0,ec0⟩:∃(q:Ad)(es0:List aL),Sys C H7 ms ls wd fs p m la fa KD LA BA [(q,es0,[])] 0/\(∃he lg,BX H7 q.kvs q.l q.h q.o q.d q.kn q.dd he lg/\he∉wrA q/\lg∉wrA q)/\es0.map core=[⟨"",none,"",wd,wd,(0,1),0,0⟩]:=by
  have SN:∀a∈[a1,a2,a3,a4,a5],∀c∈[B,l,h,o,d,kn,dd],a≠c:=fun a ha c hc e=>by
   have h1:=fz a ha;rw[e]at h1;simp only[A0c,A0j,A0V]at hc;rcases hc with rfl|rfl|rfl|rfl|rfl|rfl|rfl
   ·rw[Pa.b]at h1;cases h1
   ·rw[Pa.l]at h1;cases h1
   ·rw[Pa.h]at h1;cases h1
   ·rw[Pa.o]at h1;cases h1
   ·rw[Pa.d]at h1;cases h1
   ·rw[Pa.k]at h1;cases h1
   ·rw[Pa.x]at h1;cases h1
  obtain⟨R0,M0⟩:=wD (C:=C) (H:=H7) (ls:=ls) (q:=⟨x,dx,a1,a2,a3,a4,a5,B,l,h,o,d,kn,dd,kvs,wd⟩) (n:=wd) (t:=t) (u:=u) (Ul ap5 bk7 b5 nkd SN) (L5.same s57) bk7 pl.w1 pl.w2 (s57 _ _ ft) (Yn _ _ (sB _ _ fu)) rfl;have bx7:=bx4.same Yn;refine⟨⟨x,dx,a1,a2,a3,a4,a5,B,l,h,o,d,kn,dd,kvs,wd⟩,[⟨"",none,"",wd,wd,(0,1),t,u⟩],⟨pl4.same Yn,s57 _ _ hfa5,kK,sK _ _ kL,Yn _ _ kB,fun z hz=>?_,A3G _ _⟩,⟨he,lg,bx7,?_,?_⟩,rfl⟩
  ·rw[A0e.mp hz];refine⟨R0,M0,rfl,fun c hc=>?_⟩
   show c≠kn
   simp only[A0c,A0j,A0V]at hc;rcases hc with rfl|rfl|rfl|rfl|rfl|rfl
   ·exact aA pl.m P0
   ·exact aA pl.la P0
   ·exact aA OJ P0
   ·exact(aA (sL _ _ (s5 _ _ Pa.k)) hKD).symm
   ·exact(aA (s5 _ _ Pa.k) qM).symm
   ·exact nBA
  ·intro hh;rcases A0u.mp (show he∈[a1,a2,a3,a4,a5]++([l,h,o,d]++[kn])from hh)with c|c
   ·exact wrN _ _ bx4.fh c
   ·rcases A0u.mp c with c|c
    ·exact bx.n1 c
    ·exact bB bx.fh bk.k (fun z=>by cases z) (A0e.mp c)
  ·intro hh;rcases A0u.mp (show lg∈[a1,a2,a3,a4,a5]++([l,h,o,d]++[kn])from hh)with c|c
   ·exact wrN _ _ bx4.fl c
   ·rcases A0u.mp c with c|c
    ·exact bx.n2 c
    ·exact bB bx.fl bk.k (fun z=>by cases z) (A0e.mp c)
 refine⟨_,rfl,LA,_,_,_,rfl,rfl,bF.of S0.qM,aD (j:=0) rfl,_,rfl,BA,_,_,_,rfl,rfl,bF.of S0.yL,aD (j:=0) rfl,_,rfl,_,rfl,_,rfl,fa,_,_,_,rfl,rfl,bF.of S0.hfa,e0,_,_,rfl,rfl,(by show(0:Int)<9;decide),_,rfl,?_⟩
 dsimp only[fX];refine S0.go (i:=0) rfl hfo 0x6 0x1 0x1 0x1 0x1 fun es ks H8 S8 o8 er=>⟨_,rfl,bZ ?_⟩;clear Pa bx4 bk7 s57 Yn pl5 pl6 pl4 Sg kK kL kB sK sL sB L5 ap5 fz ft b5 bx bk fu wrN;obtain⟨n,hn⟩:∃n,n=(f0%9).toNat:=⟨_,rfl⟩;rw[<-hn]at S8 er;rw[Nat.zero_add]at S8;have S8:Sys C H8 ms ls wd fs p m la fa KD LA BA [(q,es,ks)] n:=S8;have n8:n<=8:=by lia
 have M0:Mn es0:=(S0.rel _ A0l).2.1;have B8:Bz H8 q:=by
  obtain⟨he,lg,b,h1,h2⟩:=B0;exact⟨he,lg,b.e,o8 _ _ h1 b.fh,o8 _ _ h2 b.fl,b.n1,b.n2⟩
 have pl8:=S8.pl;refine⟨_,rfl,p,_,_,_,rfl,rfl,bI.of pl8.r,aD (j:=2) rfl,?_⟩;dsimp only[fX];refine Ax pl.w1 pl.w2 fun x2 dx2 a1 a2 a3 a4 a5 t2 H9 s9 L9 ap9 fz ft=>?_;dsimp only[iW];have S9:=S8.same s9;refine⟨_,rfl,_,rfl,p,_,_,_,rfl,rfl,bI.of S9.pl.r,aD (j:=2) rfl,wd,rfl,fun B l h o d kn dd u he lg kvs H10 U5 nB nl nh no nd P0 ndd nu nhe nlg bx b5 nkd bk fu=>?_⟩;have S10:=S9.same U5;have SN:∀a∈[a1,a2,a3,a4,a5],∀c∈[B,l,h,o,d,kn,dd],a≠c:=fun a ha c hc e=>by
  have h1:H9 c=none:=by
   simp only[A0c,A0j,A0V]at hc;rcases hc with rfl|rfl|rfl|rfl|rfl|rfl|rfl<;>assumption
  rw[<-e]at h1;simp only[A0c,A0j,A0V]at ha;rcases ha with rfl|rfl|rfl|rfl|rfl
  ·rw[L9.l1]at h1;cases h1
  ·rw[L9.l2]at h1;cases h1
  ·rw[L9.l3]at h1;cases h1
  ·rw[L9.l4]at h1;cases h1
  ·rw[L9.l5]at h1;cases h1
 obtain⟨R0,M2⟩:=wD (C:=C) (H:=H10) (ls:=ls) (q:=⟨x2,dx2,a1,a2,a3,a4,a5,B,l,h,o,d,kn,dd,kvs,wd⟩) (n:=wd) (t:=t2) (u:=u) (Ul ap9 bk b5 nkd SN) (L9.same U5) bk pl.w1 pl.w2 (U5 _ _ ft) fu rfl;have fr8:∀c∈wrA ⟨x2,dx2,a1,a2,a3,a4,a5,B,l,h,o,d,kn,dd,kvs,wd⟩,H8 c=none:=fun c hc=>by
  rcases A0u.mp (show c∈[a1,a2,a3,a4,a5]++[l,h,o,d,kn]from hc)with c1|c1
  ·exact fz c c1
  ·have h1:H9 c=none:=by
    simp only[A0c,A0j,A0V]at c1;rcases c1 with rfl|rfl|rfl|rfl|rfl<;>assumption
   exact s9.free h1
 refine⟨_,rfl,_,rfl,_,rfl,fa,_,_,_,rfl,rfl,bF.of S10.hfa,e0,_,_,rfl,rfl,(by show(0:Int)<9;decide),_,rfl,?_⟩
 dsimp only[fX];refine⟨⟨x2,dx2,a1,a2,a3,a4,a5,B,l,h,o,d,kn,dd,kvs,wd⟩,_,_,0,p,m,la,fa,KD,ms,ls,wd,20,f0%9,fs,rfl,R0,S10.pl,S10.hfa,hfo,S10.hkd,aA S9.pl.m P0,aA S9.pl.la P0,aA S9.hfa P0,aA S9.hkd P0,by decide,by lia,by lia,by lia,by lia,fun es2 ks2 H11 R2 o2 er2=>⟨_,rfl,bZ ?_⟩⟩;have s11:=Jc (s9.trans U5) o2 fr8;have S11:=S8.same s11;have B11:=B8.same s11;have M2:=Ud (fun z hz=>(pl.om z hz).ne.2) M2 er2;have ec2:es2.map core=es.map core:=by
  rw[<-hn]at er2;exact(Prod.mk.inj (er2.trans ((A1r (fun c=>yC ms ls fs (Int.toNat 20) n (c,[])) (show _=es0.map core from ec0.symm)).trans er.symm))).1
 obtain⟨R1,M1',_,_⟩:=S11.rel _ A0l;have ld1:=R1.ld M1';have RB:iZ es2 es=true:=by rw[qL ec2];exact same_self ld1
 refine⟨_,rfl,x2,dx2,_,rfl,R2.L.o,rfl,_,rfl,LA,_,_,_,rfl,rfl,bF.of S11.qM,aD (j:=0) rfl,?_⟩;dsimp only[fX];refine Ld.Av (q:=⟨x2,dx2,a1,a2,a3,a4,a5,B,l,h,o,d,kn,dd,kvs,wd⟩) (R2.ld M2) ld1 ⟨true,(by rw[RB]),bZ ?_⟩;clear R2 o2 er2 M2 ec2 RB ld1 R1 M1' R0 fr8 SN L9 ap9 fz ft b5 bk fu bx S10 S9 S8 B8 B0 S0 er o8 ec0;refine⟨2,rfl,by decide,by decide,dH (lo:=0) (n:=2) (fun i σ Hx=>∃(Jd:List (Ad×List aL×List Str))(z:Ad×List aL×List Str)(u7:Option V),σ=[some (.ref sA),some (.ref fa),some 0x3E,some (.ref BA),some (.ref LA),some (.ref KD),some (.ref x2),u7,none,none,none,none,none]/\Sys C Hx ms ls wd fs p m la fa KD LA BA (Jd++[z]) n/\Jd.length=i/\Bz Hx z.1)
  ⟨[],(q,es,ks),none,rfl,S11,rfl,B11⟩ ?_ ?_⟩
 ·rintro i σ Hx hi ⟨Jd,z,u7,rfl,S,hq,hB⟩;have hz:z∈Jd++[z]:=A0H _ (A0e.mpr rfl);have ql:(Jd++[z]).length=i+1:=by rw[lG,hq];rfl
  obtain⟨R,M,hw,hk⟩:=S.rel z hz;refine⟨_,rfl,.inl ⟨rfl,_,bF.of S.qM⟩,_,rfl,_,rfl,LA,_,_,_,rfl,rfl,bF.of S.qM,(by rw[lN];exact sS _ _),z.1.x,z.1.dx,_,rfl,R.L.o,rfl,?_⟩;dsimp only[fX];refine Ld.twin (R.ld M) R.cr (by rw[hw];exact pl.w1) (by rw[hw];exact pl.w2) fun y dy b1 b2 b3 b4 b5 Ha sa da ap nn=>?_;have Sa:=S.same sa;refine⟨LA,_,_,rfl,rfl,Sa.qM,by rw[bY,ql];exact bO 0x1,?_⟩;have Ra:=(Sa.rel z hz).1.Ji (ys:=(Jd++[z]).map (fun z=>V.ref z.1.x)++[.ref y]) Sa.qM (hk _ 0x8) (Sa.ndd hz);have Ba:=(hB.same sa).Ji (ys:=(Jd++[z]).map (fun z=>V.ref z.1.x)++[.ref y]) Sa.qM;have hBu:(upd Ha LA (.lst ((Jd++[z]).map (fun z=>V.ref z.1.x)++[.ref y]))) BA=some (.lst ((Jd++[z]).map fun z=>V.ref z.1.B)):=by rw[ak nLB.symm];exact Sa.yL
  obtain⟨he,lg,bx⟩:=Ba;refine⟨_,rfl,.inl ⟨rfl,_,bF.of hBu⟩,_,rfl,_,rfl,BA,_,_,_,rfl,rfl,bF.of hBu,(by rw[lN];exact sS _ _),?_⟩;dsimp only[fX];refine⟨z.1.B,z.1.l,z.1.h,z.1.o,z.1.d,z.1.kn,z.1.dd,he,lg,_,_,_,_,_,_,rfl,Ra.B,bx,?_,fun B l h o d kn dd he' Yl kvs Hb sb nb ndb bk bx'=>?_⟩
  ·intro hm;simp only[A0c,A0j,A0V]at hm;rcases hm with e|e|e|e
   ·exact bN Ra.ap 5 6 rfl rfl 0x6 e
   ·exact bN Ra.ap 5 7 rfl rfl 0x6 e
   ·exact bN Ra.ap 5 8 rfl rfl 0x6 e
   ·exact bN Ra.ap 5 9 rfl rfl 0x6 e
  have hBb:=sb _ _ hBu;refine⟨BA,_,_,rfl,rfl,hBb,by rw[bY,ql];exact bO 0x1,?_⟩;refine⟨Jd++[z],(⟨y,dy,b1,b2,b3,b4,b5,B,l,h,o,d,kn,dd,kvs,z.1.wd⟩,z.2),_,rfl,?_,ql,Bz.Ji ⟨he',Yl,bx'⟩ hBb⟩;exact Sys.snoc (q':=⟨y,dy,b1,b2,b3,b4,b5,B,l,h,o,d,kn,dd,kvs,z.1.wd⟩) S hz nLA nBK nLB sa da.L nn ap sb (fun c hc=>nb c (by simp only[A0c,A0j,A0V]at hc ⊢;rcases hc with h|h|h|h|h|h|h<;>simp[h])) (show[B,l,h,o,d,kn,dd].Nodup from List.Nodup.sublist (A4u 7 [B,l,h,o,d,kn,dd,he',Yl]) ndb) bk rfl
 rintro σ Hx ⟨Jd,z,u7,rfl,S12,hq,_⟩;have ql:(Jd++[z]).length=3:=by rw[lG,hq];rfl
 generalize Jd++[z]=qe at S12 ql;refine⟨_,rfl,fa,_,_,_,rfl,rfl,bF.of S12.hfa,e1,_,_,rfl,rfl,(by show(0:Int)<7;decide),f1%7,rfl,by lia,by lia,dH (lo:=0) (n:=(f1%7).toNat) (fun i σ Hx=>∃(qe:List (Ad×List aL×List Str))(u7 u8 u9 Dy yF Jj:Option V),σ=[some (.ref sA),some (.ref fa),some 0x3E,some (.ref BA),some (.ref LA),some (.ref KD),some (.ref x2),u7,u8,u9,Dy,yF,Jj]/\Sys C Hx ms ls wd fs p m la fa KD LA BA qe (n+i)/\qe.length=3)
  ⟨qe,_,_,_,_,_,_,rfl,S12,ql⟩ ?_ ?_⟩
 ·rintro i σ Hx hi ⟨qe,u7,u8,u9,Dy,yF,Jj,rfl,S,ql⟩;have i5:i<=5:=by lia
  obtain⟨fk,ek,ok⟩:=fJ hfo (i:=92+8*(0+(i:Int))) 0x1 0x1;obtain⟨a0,ha0⟩:∃a0:Nat,(a0:Int)=fk/7%3:=⟨(fk/7%3).toNat,by lia⟩;have a3:a0<3:=by lia
  obtain⟨z,ez⟩:∃z,qe[a0]?=some z:=⟨_,jo 0x1⟩;have azL:oG (qe.map fun z=>V.ref z.1.x) (fk/7%3)=some (.ref z.1.x):=by rw[<-ha0];exact aD (by rw[lJ,ez];rfl)
  have azB:oG (qe.map fun z=>V.ref z.1.B) (fk/7%3)=some (.ref z.1.B):=by rw[<-ha0];exact aD (by rw[lJ,ez];rfl)
  refine⟨_,rfl,_,rfl,_,_,rfl,rfl,.inl ⟨by decide,by decide⟩,_,_,rfl,rfl,fa,_,_,_,rfl,rfl,bF.of S.hfa,ek,_,_,rfl,rfl,⟨by decide,by decide⟩,_,_,rfl,rfl,(by show(0:Int)<3;decide),?_⟩
  dsimp only[iW];refine⟨_,rfl,_,rfl,LA,_,_,_,rfl,rfl,bF.of S.qM,azL,_,rfl,_,rfl,BA,_,_,_,rfl,rfl,bF.of S.yL,azB,_,rfl,_,rfl,_,rfl,_,_,rfl,rfl,.inl ⟨by decide,by decide⟩,_,_,rfl,rfl,_,rfl,?_⟩;dsimp only[fX];refine S.go ez hfo 0x1 0x6 0x1 0x1 (by show n+i+1<=50;lia) fun es' ks' H' S' _ _=>⟨_,rfl,bZ ?_⟩
  have ql':(qe.set a0 (z.1,es',ks')).length=3:=by rw[List.length_set,ql]
  generalize qe.set a0 (z.1,es',ks')=qf at S' ql';have S':Sys C H' ms ls wd fs p m la fa KD LA BA qf (n+(i+1)):=S';clear azL azB ez S;have ix:∀{i:Nat},i<3->∃z,qf[i]?=some z/\oG (qf.map fun z=>V.ref z.1.x) (0+(i:Int))=some (.ref z.1.x)/\oG (qf.map fun z=>V.ref z.1.B) (0+(i:Int))=some (.ref z.1.B):=fun{i}hi=>by
   obtain⟨z,ez⟩:∃z,qf[i]?=some z:=⟨_,jo 0x1⟩;rw[A3i];exact⟨z,ez,aD (by rw[lJ,ez];rfl),aD (by rw[lJ,ez];rfl)⟩
  obtain⟨lx,bx,Xq⟩:∃lx bx:Nat->Addr,∀i z,qf[i]?=some z->lx i=z.1.x/\bx i=z.1.B:=⟨fun i=>(qf.map fun z=>z.1.x).getD i 0,fun i=>(qf.map fun z=>z.1.B).getD i 0,fun i z h=>by
   constructor
   ·show(qf.map fun z=>z.1.x).getD i 0=_;rw[qN,lJ,h];rfl
   ·show(qf.map fun z=>z.1.B).getD i 0=_;rw[qN,lJ,h];rfl⟩
  refine⟨_,rfl,_,rfl,LA,BA,rfl,⟨_,bF.of S'.qM⟩,⟨_,bF.of S'.yL⟩,Fj (n:=3) (fx:=fun i=>V.ref (lx i)) (fy:=fun i=>V.ref (bx i)) (fun j σ Hy=>(∃u9 Dy,σ=[some (.ref sA),some (.ref fa),some 0x3E,some (.ref BA),some (.ref LA),some (.ref KD),some (.ref x2),some (.int (0+(i:Int))),some (.int (fk/7%3)),u9,Dy,yF,Jj])/\Same H' Hy) ?_ ⟨⟨_,_,rfl⟩,Same.refl _⟩ ?_ ?_⟩
  ·rintro j σ Hy ⟨_,sy⟩;have st:=lY (K:=K) (i:=j) (bF.of (sy _ _ S'.qM)) (bF.of (sy _ _ S'.yL)) (by rw[bY,bY]);rw[bY,ql']at st;refine⟨fun hi=>⟨(st.1 hi).1,fun v H' y=>?_⟩,st.2⟩;obtain⟨r,e1,e2,e3⟩:=(st.1 hi).2 v H' y;refine⟨r,e1,e2,?_⟩;obtain⟨z,ez⟩:∃z,qf[j]?=some z:=⟨_,jo 0x1⟩;rw[e3,qN,qN,lJ,lJ,ez,(Xq j z ez).1,(Xq j z ez).2];rfl
  ·rintro j σ Hy r hj ⟨⟨u9',Xx,rfl⟩,sy⟩ hr;have sq:=sy.trans (aJ hr (.tup [V.ref (lx j),V.ref (bx j)]));have kr:(upd Hy r (.tup [V.ref (lx j),V.ref (bx j)])) r=some (.tup [V.ref (lx j),V.ref (bx j)]):=ao;generalize upd Hy r (.tup [V.ref (lx j),V.ref (bx j)])=Hq at sq kr ⊢;obtain⟨z,ez⟩:∃z,qf[j]?=some z:=⟨_,jo 0x1⟩;obtain⟨e1,e2⟩:=Xq j z ez;have Rz:=((S'.same sq).rel z (oF ez)).1;have ten:=Rz.ten pl.ll;refine⟨r,_,rfl,bI.of kr,rfl,_,_,rfl,_,_,rfl,rfl,_,rfl,z.1,z.2.1,(by rw[e1];rfl),Rz.L,Rz.W,by lia,fun Hs ss=>?_⟩;refine⟨_,rfl,_,rfl,z.1,z.2.1,z.2.2,ls,_,(by rw[e1,e2];rfl),Rz.same ss,by lia,fun Ht st=>⟨_,rfl,bZ ⟨⟨_,_,rfl⟩,(sq.trans ss).trans st⟩⟩⟩
  rintro σ Hy ⟨⟨u9',Xx,rfl⟩,sy⟩;have Sy:=S'.same sy;refine⟨3,rfl,by decide,by decide,dH (lo:=0) (n:=3) (fun j σ Hw=>(∃yF Jj,σ=[some (.ref sA),some (.ref fa),some 0x3E,some (.ref BA),some (.ref LA),some (.ref KD),some (.ref x2),some (.int (0+(i:Int))),some (.int (fk/7%3)),u9',Xx,yF,Jj])/\Same Hy Hw) ⟨⟨_,_,rfl⟩,Same.refl _⟩ ?_ ?_⟩
  ·rintro j σ Hw hj ⟨⟨Xh,u12',rfl⟩,sw⟩;obtain⟨z,ez,azL,azB⟩:=ix hj;refine⟨3,rfl,by decide,by decide,dH (lo:=0) (n:=3) (fun j' σ Hv=>(∃Jj,σ=[some (.ref sA),some (.ref fa),some 0x3E,some (.ref BA),some (.ref LA),some (.ref KD),some (.ref x2),some (.int (0+(i:Int))),some (.int (fk/7%3)),u9',Xx,some (.int (0+(j:Int))),Jj])/\Same Hy Hv) ⟨⟨_,rfl⟩,sw⟩ ?_ ?_⟩
   ·rintro j' σ Hv hj' ⟨⟨a09,rfl⟩,sv⟩;obtain⟨z',ez',azL',azB'⟩:=ix hj';have Sv:=Sy.same sv;obtain⟨R,M,_,_⟩:=Sv.rel z (oF ez);obtain⟨R',M',_,_⟩:=Sv.rel z' (oF ez');refine⟨_,rfl,_,rfl,LA,_,_,_,rfl,rfl,bF.of Sv.qM,azL,z.1.x,z.1.dx,_,rfl,R.L.o,rfl,_,rfl,_,rfl,LA,_,_,_,rfl,rfl,bF.of Sv.qM,azL',?_⟩;dsimp only[fX];refine Ld.Av (R.ld M) (R'.ld M') ?_;refine⟨_,rfl,_,rfl,BA,_,_,_,rfl,rfl,bF.of Sv.yL,azB,_,rfl,_,rfl,BA,_,_,_,rfl,rfl,bF.of Sv.yL,azB',?_⟩;dsimp only[fX];exact⟨z.1,z'.1,_,_,_,_,rfl,⟨R.B,fun e he=>(R.fr e he).2.1,R.W,M⟩,⟨R'.B,fun e he=>(R'.fr e he).2.1,R'.W,M'⟩,fun Hu su=>⟨_,_,rfl,.inl ⟨rfl,rfl⟩,fun Hs ss=>⟨_,rfl,bZ ⟨⟨_,rfl⟩,(sv.trans su).trans ss⟩⟩⟩⟩
   ·rintro σ Hv ⟨⟨a09,rfl⟩,sv⟩;exact⟨⟨_,_,rfl⟩,sv⟩
  ·rintro σ Hw ⟨⟨Xh,u12',rfl⟩,sw⟩;exact⟨qf,_,_,_,_,_,_,rfl,Sy.same sw,ql'⟩
 rintro σ Hx ⟨qe,u7,u8,u9,Dy,yF,Jj,rfl,S,ql⟩;refine⟨_,rfl,_,rfl,_,rfl,fa,_,rfl,bF.of S.hfa,fun c1 hc1=>?_⟩;rw[show gH 0x44 (some 3) none=(fs.drop 3).map V.int from Ay (a:=3) 0x1]
 apply 0o1 Hx c1 hc1 sc1 kc1 Hc
 have Sc:=S.same sc1;refine⟨p,c1,m,la,ms,ls,wd,fs.drop 3,rfl,Sc.pl,kc1,fun v hv=>hfo v (A2j hv),by rw[A1l];lia,fun Hd sd=>⟨_,rfl,bZ ?_⟩⟩;have Sd:=Sc.same sd;obtain⟨z,ez⟩:∃z,qe[0]?=some z:=⟨_,jo 0x1⟩;have z0:∀f:Ad×List aL×List Str->V,oG (qe.map f) 0=some (f z):=fun f=>aD (j:=0) (by rw[lJ,ez];rfl);refine⟨_,rfl,LA,_,_,_,rfl,rfl,bF.of Sd.qM,z0 _,_,rfl,BA,_,_,_,rfl,rfl,bF.of Sd.yL,z0 _,_,rfl,_,rfl,_,rfl,fa,_,rfl,bF.of Sd.hfa,fun c2 hc2=>?_⟩;rw[show gH 0x44 (some 148) none=(fs.drop 148).map V.int from Ay (a:=148) 0x1]
 have Se:=Sd.same (aJ hc2 (.lst ((fs.drop 148).map V.int)));obtain⟨R,M,hw,_⟩:=Se.rel z (oF ez);exact⟨z.1,z.2.1,z.2.2,_,p,c2,m,la,ms,ls,wd,fs.drop 148,rfl,R,M,hw,Se.pl,ao,fun v hv=>hfo v (A2j hv),by rw[A1l];lia,fun H'=>kk H'⟩
def Bnd(x q:Str)(st:Stmt)(ps:List Str):Prop:=∀(kV doc pm:Value)(an:Option Addr)(cdv ct:Value)(us:List Value),us.length=ps.length->bindArgs (PySem.W.fnOf x q (kE st) (eV st) (aH st) .none kV doc pm an cdv ct) ⟨us,[]⟩=pure (ps.zip us)
inductive Dq(K:W.Frag)(x q:Str)(st:Stmt)(f:Addr):Prop
 |mk(oc:Value)(od:Option Addr)(kV dc pm:Value)(an:Option Addr)(cd ct:Value)(sl:Array (Option Value))(_:K.lookup f=some ⟨oc,od,.func (PySem.W.fnOf x q (kE st) (eV st) (aH st) .none kV dc pm an cd ct),sl⟩)(_:PySem.W.codeIn K cd q=true)(_:PySem.W.keepIn K 0x75=true):Dq K x q st f
def Df(K:PySem.W.Frag):List (Str×Stmt×List Str×Addr)->Prop
 |[]=>True
 |(x,st,ps,f)::r=>(PySem.W.nsIn K mainGlobals x=some (some 0x75)/\Dq K x x st f/\Bnd x x st ps)/\Df K r
def Mf(K:PySem.W.Frag)(C:Addr)(c:Str):List (Str×Stmt×List Str×Addr)->Prop
 |[]=>True
 |(x,st,ps,f)::r=>(PySem.W.findIn K 0x8C x=some (some 0x75)/\PySem.W.isFn K 0x75=true/\Dq K x (c++x) st f/\Bnd x (c++x) st ps)/\Mf K C c r
def Na(K:PySem.W.Frag)(C:Addr):List Str->Prop
 |[]=>True
 |x::r=>PySem.W.findIn K 0x8C x=some none/\Na K C r
def Nn(K:PySem.W.Frag):List Str->Prop
 |[]=>True
 |x::r=>PySem.W.nsIn K mainGlobals x=some none/\Nn K r
def Nz(mg:Str->Option Value):List Str->Prop
 |[]=>True
 |x::r=>mg x=none/\Nz mg r
def Qn(K:PySem.W.Frag):List (Str×Value)->Prop
 |[]=>True
 |(x,v)::r=>PySem.W.nsIn K mainGlobals x=some 0x8B/\Qn K r
def Qm(mg:Str->Option Value):List (Str×Value)->Prop
 |[]=>True
 |(x,v)::r=>mg x=some v/\Qm mg r
theorem on0{P:List Value->Prop}(h:P []):∀us:List Value,us.length=0->P us
 |[],_=>h
theorem onS{P:List Value->Prop}(h:∀(a:Value)(us:List Value),us.length=n->P (a::us)):∀us:List Value,us.length=n+1->P us
 |a::us,e=>h a us (Nat.succ.inj e)
def Xy{d:Option Addr}{it:Array Value}{ss:Array (Option Value)}(h:K.lookup a=some ⟨.type "tuple",d,.seq it n,ss⟩)(hs:it.size<=sizeLine)(hv:Vals xs it.toList):KTp K a xs:=⟨_,it,n,h,rfl,rfl,hs,hv⟩
def dq_f(h:Dq K x q st f):∃fd,gF K x q st f fd/\PySem.W.keepIn K 0x75=true:=by
 obtain⟨oc,od,kV,dc,pm,an,cd,ct,sl,L,c,k⟩:=h;exact⟨_,K1 L c k,k⟩
def nG(X:K.In h)(G:h.Ns mainGlobals mg)(a:PySem.W.nsIn K mainGlobals x=some (some 0x75)/\Dq K x x st f/\Bnd x x st ps):∃d,gF K x x st f d/\Ms K mg x f d ps:=by
 obtain⟨a,l,b⟩:=a;obtain⟨d,F,k⟩:=dq_f l;exact⟨d,F,F.binds b,k,PySem.W.mg_of X G a⟩
def wF(a:PySem.W.findIn K 0x8C x=some (some 0x75)/\PySem.W.isFn K 0x75=true/\Dq K x q st f/\Bnd x q st ps):∃d,gF K x q st f d/\Meth K C x f/\Binds K d ps []:=by
 obtain⟨a,i,l,b⟩:=a;obtain⟨d,F,k⟩:=dq_f l;exact⟨d,F,⟨a,i,k⟩,F.binds b⟩
theorem Nn.m(X:K.In h)(G:h.Ns mainGlobals mg):∀{l:List Str},Nn K l->Nz mg l
 |[],_=>True.intro
 |_::_,⟨a,b⟩=>⟨PySem.W.mg_none_of X G a,Nn.m X G b⟩
theorem Qn.m(X:K.In h)(G:h.Ns mainGlobals mg):∀{l:List (Str×Value)},Qn K l->Qm mg l
 |[],_=>True.intro
 |(_,_)::_,⟨a,b⟩=>⟨PySem.W.mg_of X G a,Qn.m X G b⟩
def all_mk{l:PySem.W.OpenLaw}{f1 f2 f3 f4 f5 f6 f7 f8 f9 f10 f11 f12 f13 f14 f15 f16 f17 f18 f19 f20 f21 f22 f23 f24 f25 f26 f27 f28 f29 f30 f31 f32 f33 f34 f35 f_I f_Th f_Es f_Ho f_Lo f_Ow f_Br f_Se f_Ch f_He f_Un f_Fo f_Gr f_Pa f_Co f_Fa f_Ck f_Ad f_Sa f_Tw aB b1_ b2_ b3_ b4_ b5_ b6_ b7_:Addr}{tC:Tok}{esaB:Array DictEntry}{naB:Nat}{Xz:Array Value}{nb2_:Nat}{db2_:Option Addr}{sb2_:Array (Option Value)}(X:K.In h)(G:h.Ns mainGlobals mg)(hfa:mg "law"=some (.ref fa))
  (A:Df K (("fits",Lh,["sort","piece"],f1)::("check_acres",VD,["acres"],f2)::("part",KQ,["top","bottom"],f3)::("minus",Cq,["a","b"],f4)::("common_measure",Vu,["a","b"],f5)::("_law_feed",KR,["_law_script","_law_many"],f6)::("_law_same",zJ,A5k,f7)::("_law_low",Vv,["_law_top","_law_bottom"],f8)::("_law_names",yr,["_law_d","_law_many"],f9)::("_law_book",zM,["_law_acres"],f10)::("_law_under",Rg,A5d,f11)::("_law_breadth",W7,A5d,f12)::("_law_held",Rh,A5h,f13)::("_law_bound_to",Ri,A5h,f14)::("_law_why",Wm,A5g,f15)::("_law_fall",Wf,A5d,f16)::("_law_new",sNew,A5o,f17)::("_law_do",sDo,A5g,f18)::("_law_pools",Dp,["_law_feed_here"],f19)::("_law_lord_for",sLf,A5t,f20)::("_law_row",O2,A5r,f21)::("_law_chain",W8,A5d,f22)::("_law_estate_is",sEi,A5z,f23)::("_law_land_is",Yg,["_law_land","_law_book_here"],f24)::("_law_land_do",Wr,["_law_land","_law_row_here"],f25)::("_law_some_deed",Gm,A5y,f26)::("_law_steered",O9,A5p,f27)::("_law_let_by",Wn,A5g,f28)::("_law_played",sPl,A5i,f29)::("_law_copy_of",sCp,A5u,f30)::("_law_alike",sAl,A5s,f31)::("_law_spoilt_lists",sSp,["_law_land"],f32)::("_law_told_apart",Ov,A5q,f33)::("_law_lords_apart",sLa,["_law_pools_here","_law_d"],f34)::("law",DG,["_law_script"],f35)::[]))
  (B0:Mf K C "Land." (("__init__",Kq,["self","acres"],f_I)::("there",BR,A5c,f_Th)::("estates",pG,A5J,f_Es)::("holder",xJ,A5c,f_Ho)::("lord",Kr,A5c,f_Lo)::("own",Vo,A5c,f_Ow)::("breadth",tH,A5c,f_Br)::("service",tK,A5c,f_Se)::("chain",BW,A5c,f_Ch)::("held",Fo,["self","man"],f_He)::("under",xK,A5c,f_Un)::("folk",Fp,A5J,f_Fo)::("grant",BZ,A5j,f_Gr)::("part_off",tL,A5H,f_Pa)::("convey",xM,["self","estate","man"],f_Co)::("fall_back",Ks,A5c,f_Fa)::("check_there",Cd,A5c,f_Ck)::("add_estate",Vp,A5m,f_Ad)::("same",Ca,A5K,f_Sa)::("twin",Ku,A5J,f_Tw)::[]))
  (cC:Cls K C/\PySem.W.makesIn K C=true/\PySem.W.keepIn K 0x8C=true/\Na K C ["lord_of","holder_of","own_of","service_of","breadth_of"])
  (Z:Nn K ["isinstance","bool","int","str","list","tuple","len","all","zip","range","sorted","set","max","min","abs","dict"])
  (Q:Qn K (("CROWN",.str "" tC)::("BOUNDS",.ref aB)::("Land",.ref C)::[]))
  (kaB:K.lookup aB=some ⟨.type "dict",none,.dict esaB naB,#[]⟩)
  (eaB:kO w.params esaB.toList [("day",.ref b1_),("acres",.ref b2_),("service",.ref b3_),("bears",.ref b4_),("edge",.ref b5_),("number",.ref b6_),("entry",.ref b7_)])
  (laB:(aB==sysModules)=false)
  (tb2_:K.lookup b2_=some ⟨.type "tuple",db2_,.seq Xz nb2_,sb2_⟩)
  (zb2_:Xz.size<=sizeLine)
  (vb2_:Vals [.int 1,.int 9999] Xz.toList):
  ∃fd:FuncData,(∀(s:Shared)(v:Value),BindsTo s fd ⟨[v],[]⟩ [("_law_script",v)])/\∀base:Heap,K.In base->base.Ns mainGlobals mg->aP l.prog w K mg base bV 8 fa fd ["_law_script"] (Aw K):=by
 obtain⟨h1,h2,h3,h4,h5,h6,h7,h8,h9,h10,h11,h12,h13,h14,h15,h16,h17,h18,h19,h20,h21,h22,h23,h24,h25,h26,h27,h28,h29,h30,h31,h32,h33,h34,h35,_⟩:=A;obtain⟨x0,⟨oc,od,kV,dc,pm,an,cd,ct,sl,L,c,kp⟩,_⟩:=h35;cases hfa.symm.trans (PySem.W.mg_of X G x0);have F35:=K1 (st:=DG) L c kp;refine⟨PySem.W.fnOf "law" "law" (kE DG) (eV DG) (aH DG) .none kV dc pm an cd ct,fun s v=>.of_eq rfl,fun base _ _=>?_⟩;obtain⟨_,F1,M1⟩:=nG X G h1;obtain⟨_,F2,M2⟩:=nG X G h2;obtain⟨_,F3,M3⟩:=nG X G h3;obtain⟨_,F4,M4⟩:=nG X G h4;obtain⟨_,F5,M5⟩:=nG X G h5;obtain⟨_,F6,M6⟩:=nG X G h6;obtain⟨_,F7,M7⟩:=nG X G h7;obtain⟨_,F8,M8⟩:=nG X G h8;obtain⟨_,F9,M9⟩:=nG X G h9;obtain⟨_,F10,Rq⟩:=nG X G h10;obtain⟨_,F11,M11⟩:=nG X G h11;obtain⟨_,F12,yq⟩:=nG X G h12;obtain⟨_,F13,Ym⟩:=nG X G h13;obtain⟨_,F14,M14⟩:=nG X G h14;obtain⟨_,F15,M15⟩:=nG X G h15;obtain⟨_,F16,M16⟩:=nG X G h16;obtain⟨_,F17,M17⟩:=nG X G h17;obtain⟨_,F18,M18⟩:=nG X G h18;obtain⟨_,F19,M19⟩:=nG X G h19;obtain⟨_,F20,M20⟩:=nG X G h20;obtain⟨_,F21,M21⟩:=nG X G h21;obtain⟨_,F22,M22⟩:=nG X G h22;obtain⟨_,F23,M23⟩:=nG X G h23;obtain⟨_,F24,M24⟩:=nG X G h24;obtain⟨_,F25,M25⟩:=nG X G h25;obtain⟨_,F26,M26⟩:=nG X G h26;obtain⟨_,F27,M27⟩:=nG X G h27;obtain⟨_,F28,M28⟩:=nG X G h28;obtain⟨_,F29,M29⟩:=nG X G h29;obtain⟨_,F30,M30⟩:=nG X G h30;obtain⟨_,F31,M31⟩:=nG X G h31;obtain⟨_,F32,M32⟩:=nG X G h32;obtain⟨_,F33,M33⟩:=nG X G h33;obtain⟨_,F34,M34⟩:=nG X G h34;obtain⟨xI,xTh,xEs,xHo,xLo,xOw,xBr,xSe,xCh,xHe,xUn,xFo,nT,qW,xCo,xFa,xCk,xAd,xSa,xTw,_⟩:=B0;obtain⟨_,F_I,Yo,b_I⟩:=wF xI;obtain⟨_,F_Th,m_Th,b_Th⟩:=wF xTh;obtain⟨_,F_Es,m_Es,b_Es⟩:=wF xEs;obtain⟨_,F_Ho,m_Ho,b_Ho⟩:=wF xHo;obtain⟨_,F_Lo,m_Lo,b_Lo⟩:=wF xLo;obtain⟨_,F_Ow,m_Ow,b_Ow⟩:=wF xOw;obtain⟨_,F_Br,m_Br,b_Br⟩:=wF xBr;obtain⟨_,F_Se,m_Se,b_Se⟩:=wF xSe;obtain⟨_,F_Ch,m_Ch,b_Ch⟩:=wF xCh;obtain⟨_,F_He,m_He,b_He⟩:=wF xHe;obtain⟨_,F_Un,XD,XF⟩:=wF xUn;obtain⟨_,F_Fo,m_Fo,b_Fo⟩:=wF xFo;obtain⟨_,F_Gr,XH,XJ⟩:=wF nT;obtain⟨_,F_Pa,m_Pa,b_Pa⟩:=wF qW;obtain⟨_,F_Co,m_Co,b_Co⟩:=wF xCo;obtain⟨_,F_Fa,m_Fa,b_Fa⟩:=wF xFa;obtain⟨_,F_Ck,DK,DN⟩:=wF xCk;obtain⟨_,F_Ad,m_Ad,b_Ad⟩:=wF xAd;obtain⟨_,F_Sa,XM,XQ⟩:=wF xSa;obtain⟨_,F_Tw,m_Tw,b_Tw⟩:=wF xTw;obtain⟨kC,mkC,kpC,aC1,aC2,aC3,aC4,aC5,_⟩:=cC;obtain⟨pY,XR,Um,a1a,uK,SQ,uL,Uo,Pb,nH,gC,a1b,a1c,a1d,Uq,Pg,_⟩:=Z.m X G;obtain⟨GD,Ph,DP,_⟩:=Q.m X G;have ms:MgS mg:=⟨pY,XR,Um,a1a,uK,SQ,uL,Uo,Pb⟩;have T:eO K C:=⟨kC,aC1,aC2,aC3,aC4,aC5⟩;have mo:QF K w.params mg:=⟨⟨aB,b1_,b2_,b3_,b4_,b5_,b6_,b7_,Ph,⟨⟨_,_,kaB,eaB⟩,laB⟩,Xy tb2_ zb2_ vb2_⟩,⟨tC,GD⟩⟩;have G5:=0o7 Vy F5;have G3:=0o7 QB F3 Uq G5 M5;have G4:=0o7 Lg F4 G3 M3;have G1:=0o7 QG F1 mo;have G2:=0o7 VG F2 G1 M1;have G_I:=0o7 QH T F_I mo G2 M2;have G_Th:=0o7 Kw T F_Th;have DQ:=0o7 HX T F_Ck G_Th m_Th b_Th;have G_Ho:=0o7 HY T F_Ho DQ DK DN;have G_Lo:=0o7 Ql T F_Lo DQ DK DN;have G_Ow:=0o7 Vr T F_Ow DQ DK DN;have G_Br:=0o7 Cg T F_Br DQ DK DN;have G_Se:=0o7 Ci T F_Se DQ DK DN;have G_Ch:=0o7 KC T F_Ch DQ DK DN;have G_Es:=0o7 Cj T GD gC F_Es;have G_He:=0o7 Qo T gC F_He;have XS:=0o7 KJ T gC F_Un DQ DK DN;have G_Fo:=0o7 Rf T gC F_Fo;have G_Ad:=0o7 Vs T F_Ad;have G_Co:=0o7 Ie T F_Co;have Y0:=0o7 KN T F_Gr G_Ad m_Ad b_Ad;have G_Fa:=0o7 Qq T F_Fa XS XD XF;have G_Pa:=0o7 Cw T F_Pa G_Ad m_Ad b_Ad G3 M3 G4 M4;have Y4:=0o7 Oe T F_Sa;have G_Tw:=0o7 Og T F_Tw mo Pg G_I ⟨mkC,Yo.at_,Yo.fn,kpC⟩ DP b_I;have G6:=0o7 Qs F6 nH uL;have G7:=0o7 Ft F7 ms M7 3;have G8:=0o7 Vz F8 Uq;have G9:=0o7 NQ F9 uL nH;have Wy:=0o7 QJ F10;have Rt:=0o7 W9 gC F11;have G13:=0o7 Wa gC F13;have Ru:=0o7 Wc F12 Rt M11;have G14:=0o7 Wb F14 G13 Ym;have G22:=0o7 Wd F22;have G15:=0o7 Wo F15;have G28:=0o7 Wq F28 G15 M15;have G16:=0o7 a0j F16 Rt M11;have G17:=0o7 Wh F17;have G18:=0o7 a0m F18 G17 M17 Ru yq G8 M8 G16 M16;have G25:=0o7 Wt T F25 Y0 XH XJ G_Pa m_Pa b_Pa G_Co m_Co b_Co G_Fa m_Fa b_Fa;have G23:=0o7 a0o T F23 G_Ho m_Ho b_Ho G_Lo m_Lo b_Lo G_Ow m_Ow b_Ow G_Br m_Br b_Br G_Se m_Se b_Se G_Ch m_Ch b_Ch G_Th m_Th b_Th XS XD XF Ru yq G22 M22 Rt M11 G7 M7;have G24:=0o7 a0y T F24 ms gC a1b G_Es m_Es b_Es G_Fo m_Fo b_Fo G_He m_He b_He G13 Ym G7 M7 G23 M23
 have G19:=0o7 NZ F19 G9 M9;have G20:=0o7 a0D F20 uL G14 M14;have G21:=0o7 X4 F21 gC uK uL a1c a1d G20 M20;have G26:=0o7 RK F26 gC uK uL G21 M21;have G27:=0o7 X7 F27 G26 M26;have G29:=0o7 a0T F29 nH G27 M27 G28 M28 G25 M25 G18 M18;have G30:=0o7 a08 F30 pY Pg uK;have G31:=0o7 a0X F31 Uo;have G32:=0o7 a0Y T F32 G_Es m_Es b_Es G_Fo m_Fo b_Fo G_Ch m_Ch b_Ch G_He m_He b_He XS XD XF G_Ho m_Ho b_Ho;have G34:=0o7 a01 T F34 nH Um DP ⟨mkC,Yo.at_,Yo.fn,kpC⟩ G_I b_I Y0 XH XJ Y4 XM XQ G7 M7;have G33:=0o7 a07 T F33 nH gC uK uL Pb G_Tw m_Tw b_Tw Y0 XH XJ Y4 XM XQ G7 M7;exact Xw T F35 nH Pb DP ⟨mkC,Yo.at_,Yo.fn,kpC⟩ G6 M6 G19 M19 G_I b_I Wy Rq G29 M29 G24 M24 G_Tw m_Tw b_Tw Y4 XM XQ G30 M30 G32 M32 G7 M7 G31 M31 G34 M34 G33 M33
def walk{l:PySem.W.OpenLaw}{q:Program}{d:DefRec}{K:Params->PySem.W.Frag}(hn:l.most=some 63)(hdf:d.params.defaults=[])
  (hY:∀(w:World)(h:Heap),YP w h->(K w.params).In h)
  (F:∀(w:World)(mg:Str->Option Value)(fa:Addr)(h:Heap),(K w.params).In h->h.Ns mainGlobals mg->mg d.name=some (.ref fa)->
   ∃fd:FuncData,(∀(s:Shared)(u:Value),BindsTo s fd ⟨[u],[]⟩ [("_law_script",u)])/\∀base:Heap,(K w.params).In base->base.Ns mainGlobals mg->aP l.prog w (K w.params) mg base bV 8 fa fd ["_law_script"] (Aw (K w.params))):
  PySem.W.WalkO q loose XP YP l.row.toRowW d [] (fun f vs=>PySem.call f vs):=
 L2.Q6 (n:=63) (k:=8) (x:="_law_script") (CX:=fun _=>bV) (sp:=fun w=>Aw (K w.params)) hn 0x6 hdf ⟨rfl,by decide,by decide⟩ hY F (fun _ _ a ns hl _ hS=>⟨a,ns,rfl,hS,hl,fun _=>rfl⟩) fun _ _ _ _ _ z=>z
end M
namespace PySem.W.Fast
def tw11844671364832776761:=0
def tw13893215472691118254:=0
def tw15117552138356414885:=0
def tw9565335719655211280:=0
def tw10237345053348402515:=0
def tw15011707265592433278:=0
def tw16434941508881419540:=0
def tw1832443947689035947:=0
def tw9655019819877736984:=0
def tw15612931071834104685:=0
def tw3342105403406454849:=0
def tw14256906502958229704:=0
def tw15286932322903428147:=0
def tw9863609115232774507:=0
def tw1301119195111002850:=0
def tw569785119716778636:=0
def tw17679179868609516192:=0
def tw14030047418129339609:=0
def tw15167109725840772497:=0
def tw17715329141188788172:=0
def tw10380432052777047442:=0
def tw1644738919916100973:=0
def tw11347112447211456074:=0
def tw10255232622840629062:=0
def tw14436466094525227358:=0
def tw271055898199892186:=0
def tw17531660586706923644:=0
def tw2701032989164015914:=0
def tw11262729959941066414:=0
def tw8721914901096774760:=0
def tw9451964830153175139:=0
def tw3618014334929199596:=0
def tw17251546814595550458:=0
def tw4939580180341318263:=0
def tw8749463289415225145:=0
def tw9422380156627020366:=0
def tw2240848278964293170:=0
def tw17247619446211254990:=0
def tw11546956969469419447:=0
def tw386561347418581007:=0
def tw4312610280657667371:=0
def tw9669030933793830939:=0
def tw14956382999794793950:=0
def tw17942795297971302747:=0
def tw14461459009005976163:=0
def tw7780828263911953013:=0
def tw411393503376914789:=0
def tw4925746262363798334:=0
def tw12613997201620281777:=0
def tw11526239225847594143:=0
def tw9207539818558768906:=0
def tw16418077172332594377:=0
def tw18148381105484438834:=0
def tw8026111988292815399:=0
def tw2257461008797697340:=0
def tw8897616823352311408:=0
def tw8926235376042117808:=0
def tw9292971281031647265:=0
def tw4585674361973581361:=0
def tw17571430823178331784:=0
def tw5868852135882598575:=0
def tw2708132807576710996:=0
def tw4696824673873877394:=0
def tw2796276849306173445:=0
def tw9919837892859941521:=0
def tw3102879964381490837:=0
def tw7717317288139332148:=0
def tw14764101138351578307:=0
def tw13063071425817145098:=0
def tw3418822243308407653:=0
def tw4292106739586575507:=0
def tw10245958053032550453:=0
def tw15597168573610533427:=0
def tw4439674679212027484:=0
def tw6051108915647722360:=0
def tw15880909595661422125:=0
def tw5504371258895426299:=0
def tw3766483251771487802:=0
def tw2462277929073716874:=0
def tw10842840680452870958:=0
def tw12783588694689657932:=0
def tw16863498760360626665:=0
def tw2307484320004046155:=0
def tw8413620192057320309:=0
def tw10372597745781450558:=0
def tw17928425928037391374:=0
def tw1321181197818250669:=0
def tw9378081634776972957:=0
def tw14220397227771508144:=0
def tw15012812938837280302:=0
def tw2896924035342639125:=0
def tw9897357320621049324:=0
def tw7248324406073783819:=0
def tw3329806912853326937:=0
def tw8325419677433567669:=0
def tw8316005785105274893:=0
def tw4544831042806403516:=0
def tw13224687272879826384:=0
def tw15106400816634431472:=0
def tw13093205974496953413:=0
def tw12690313895837998568:=0
def tw15201164956572142407:=0
def tw6451188264337956177:=0
def tw9523717835241963726:=0
def tw13313983522088536420:=0
def tw11575535395345750083:=0
def tw12037058481300051075:=0
def tw17912189718391208011:=0
def tw15446681726741146306:=0
def tw17133370435248350772:=0
def tw10476276905354558236:=0
def tw13078144254062490678:=0
def tw8823619234710350739:=0
def tw7349589802771665581:=0
def tw17940089609163785195:=0
def tw1500290316807938474:=0
def tw11253915277004990005:=0
def tw8735170515703348362:=0
def tw16072673397516146368:=0
def tw13632895310238847515:=0
def tw12391207895440196318:=0
def tw4358250696292285595:=0
def tw2143943831127551665:=0
def tw9499959250519644099:=0
def tw17164013503923785586:=0
def tw9715048821424909589:=0
def tw1179966186351871300:=0
def tw142706046772176933:=0
def tw2848689059121877512:=0
def tw1544460516043005322:=0
def tw14914272259150754609:=0
def tw7662060343139738274:=0
def tw6710916960812422241:=0
def tw10868963481496617203:=0
def tw6255508037388362549:=0
def tw13585183389938330170:=0
def tw12884401623856833575:=0
def tw5320172250024012509:=0
def tw13638404938116489532:=0
def tw8781766067095789999:=0
def tw5297020163528861725:=0
def tw8585060990798074126:=0
def tw12242689825004106456:=0
def tw9163084150173148783:=0
def tw2562255994655548483:=0
def tw4810704949823512289:=0
def tw18220021317691541587:=0
def tw15394760730559800491:=0
def tw11791086486813448075:=0
def tw1085091487775431275:=0
def tw13833054065868684137:=0
def tw2008351259932897436:=0
def tw8926324332662755722:=0
def tw8259827094353498527:=0
def tw3819634208393968194:=0
def tw16205825116226135624:=0
def tw15574032757883254321:=0
def tw9187328261499904986:=0
def tw16529003786316143474:=0
def tw217584344757190550:=0
def tw2498821128769829465:=0
def tw14075143383487085219:=0
def tw4780335976889477931:=0
def tw13896608930960005167:=0
def tw3096013293800733959:=0
def tw5757607004038406789:=0
def tw15215699166122680350:=0
def tw13524130568896788040:=0
def tw13615180280736140030:=0
def tw16592509957037511554:=0
def tw2839282657004342204:=0
def tw10555420546365324297:=0
def tw7622659891883393967:=0
def tw524314472191720541:=0
def tw967077046447402610:=0
def tw14099007240878286298:=0
def tw10474198553995332414:=0
def tw11792362614824672495:=0
def tw1775502527073332895:=0
def tw2781661837996241085:=0
def tw12944209903538253848:=0
def tw2208122880181094687:=0
def tw6847341396236840229:=0
def tw13988207287790880149:=0
def tw16735076750363431619:=0
def tw9403677796819015255:=0
def tw499980815379878005:=0
def tw1632827580410695552:=0
def tw3258647111652030164:=0
def tw6371706541944403186:=0
def tw244030998145846993:=0
def tw1491302018375403340:=0
def tw3186990582848447254:=0
def tw533875045947992262:=0
def tw11353664109983371966:=0
def tw6748990476485944522:=0
def tw2720750659396730979:=0
def tw773880475652881937:=0
def tw6564213286163110808:=0
def tw12557684540916947550:=0
def tw1010415421018799564:=0
def tw1161510393628002447:=0
def tw14226692545103602312:=0
def tw9542700838753193157:=0
def tw5420039282051703888:=0
def tw4734428997295090426:=0
def tw8397765972822121723:=0
def tw4311906449717004418:=0
def tw10056260109457619362:=0
def tw1662604241666230467:=0
def tw7334676953174374715:=0
def tw1750497422493425305:=0
def tw1765258541536840897:=0
def tw13908735815093233233:=0
def tw11329029202159262634:=0
def tw198631418470337457:=0
def tw5476739453879790098:=0
def tw5203062957148092443:=0
def tw15831617486289728928:=0
def tw13107439881447839867:=0
def tw12810544569116336721:=0
def tw6739305684487086446:=0
def tw15698355024511207721:=0
def tw12846526766115480495:=0
def tw14703281545799819494:=0
def tw15699046232728041660:=0
def tw10410102272037742176:=0
def tw13967083453271234594:=0
def tw3881661297053152950:=0
def tw13673887367928339227:=0
def tw16144678436695946870:=0
def tw16321792412216331393:=0
def tw17332837723948755041:=0
def tw6105479923780439102:=0
def tw16935494638140711500:=0
def tw13787293039932444101:=0
def tw4602410341269767627:=0
def tw12187953382093262548:=0
def tw14357646897613916908:=0
def tw15731387658562217951:=0
def tw14727670679003427973:=0
def tw17540636924062113232:=0
def tw4871711137401101584:=0
def tw6433011983610812414:=0
def tw15777465543227241945:=0
def tw2298466605827007226:=0
def tw5431413398801904179:=0
def tw9307646035418103350:=0
def tw684873184115494551:=0
def tw14775369929244840702:=0
def tw8964523630084405563:=0
def tw9900031886902197120:=0
def tw6959962232845865153:=0
def tw2086947039972556281:=0
def tw11086728512411059318:=0
def tw15940871174507984931:=0
def tw14459883110471618282:=0
def tw4341610959737505123:=0
def tw1446696677973557061:=0
def tw16753661521856029717:=0
def tw16523787870473729136:=0
def tw727455514920792676:=0
def tw16059752715317444666:=0
def tw6650365048207456237:=0
def tw2007414188087031598:=0
def tw5195587722780009828:=0
def tw17541702715034577976:=0
def tw2738147618922617892:=0
def tw7783941434541980334:=0
def tw2634573475572127470:=0
def tw12538780708098121286:=0
def tw9780753287125560180:=0
def tw3008911516626490132:=0
def tw12952352330277019651:=0
def tw17418725268719624323:=0
def tw17241132079900958902:=0
def tw4359089428550612570:=0
def tw17311487741735686446:=0
def tw18202970306539434106:=0
def tw15629583537680632539:=0
def tw13035501698913149420:=0
def tw9159007474019912058:=0
def tw10220743489066841240:=0
def tw5360033179792197493:=0
def tw8882022960804945022:=0
def tw10243585340521572878:=0
def tw4777872496675005004:=0
def tw14363471443912992384:=0
def tw18012460386113412699:=0
def tw11548494547134861605:=0
def tw1790467368583775440:=0
def tw8164700660915666711:=0
def tw16972348680778261743:=0
def tw519178405281922447:=0
def tw3382420447500502133:=0
def tw14200844693052789952:=0
def tw2169886184422930979:=0
def tw17825329648605473002:=0
def tw14672141083455357235:=0
def tw17299505422682776594:=0
def tw3794737362054356599:=0
def tw4572926046849599444:=0
def tw689840464266856144:=0
def tw13184606683324965244:=0
def tw13702681781449140051:=0
def tw298086169247430430:=0
def tw8781838487066396682:=0
def tw3095545729088735156:=0
def tw13293235854813999357:=0
def tw7525716587082905310:=0
def tw10037890385940587398:=0
def tw4775227221316308920:=0
def tw14865025694666301755:=0
def tw11503711052327014022:=0
def tw18335005242553445443:=0
def tw6334601273076972574:=0
def tw12989987392382261046:=0
def tw15350295610431342773:=0
def tw3137368238320127055:=0
def tw14214036834115986241:=0
def tw16064439413936355301:=0
def tw14375950754675724532:=0
def tw3233245733886988422:=0
def tw14891249329768586933:=0
def tw18406979104607842383:=0
def tw13257329416974905826:=0
def tw13360580395703475068:=0
def tw1249212085253875807:=0
def tw10016409096564934269:=0
def tw14940083437017823915:=0
def tw8819495506695952946:=0
def tw11806630709467492377:=0
def tw7934233003389457600:=0
def tw16292863844401985265:=0
def tw8003288604689446068:=0
def tw4244006853513135681:=0
def tw7301488446406669402:=0
def tw651349567870733737:=0
def tw7836010987553913863:=0
def tw17855367496496411299:=0
def tw13449636314421838051:=0
def tw5110200555098598094:=0
def tw13479001509086777232:=0
def tw48283120881145376:=0
def tw15563497023222940878:=0
def tw23100958521183920:=0
def tw2114131716845307174:=0
def tw1986002090520316645:=0
def tw9357386468548095959:=0
def tw11504937281034244507:=0
def tw1066945711908776250:=0
def tw15348166107265179205:=0
def tw10966130755645109305:=0
def tw11641392194579684398:=0
def tw480187874534067096:=0
def tw969457278501129432:=0
def tw6608891733289997206:=0
def tw2152365511946771271:=0
def tw9727656054695756642:=0
def tw7813895633522258736:=0
def tw13774614048822881498:=0
def tw11428676630711363293:=0
def tw16075678462257732365:=0
def tw6148084868022437828:=0
def tw16120046936606199950:=0
def tw15397515758528140537:=0
def tw6201818213942671917:=0
def tw2495783291610164474:=0
def tw13436925679822918960:=0
def tw9080679434131484725:=0
def tw1421631335168520722:=0
def tw17004405431533110312:=0
def tw15534182958036167876:=0
def tw17749176367512658956:=0
def tw3319083376074571439:=0
def tw6683586494758966197:=0
def tw3694094175262560856:=0
def tw17048938780092759541:=0
def tw15457233696161450912:=0
def tw1825843245644841773:=0
def tw2413874928683480560:=0
def tw10882896493297372466:=0
def tw5735579846370410819:=0
def tw6128565437587792378:=0
def tw8615485244477202606:=0
def tw10439329419200656271:=0
def tw11236676394211791919:=0
def tw2217219876793682601:=0
def tw6274582689269620706:=0
def tw13649304733765367755:=0
def tw5240661019103033663:=0
def tw15354096806137619351:=0
def tw15603280549424218600:=0
def tw8926836515163516335:=0
def tw2343338150047834568:=0
def tw13418565899534486332:=0
def tw13501871860763818565:=0
def tw18223256608819615810:=0
def tw9553754703253372874:=0
def tw9694450903366238264:=0
end PySem.W.Fast
open PySem PySem.W PyProof.Rows
set_option maxRecDepth 100000 in
set_option maxHeartbeats 0 in
theorem PySem.Challenge.cw_manrent_k12_twins_of_lands_holds : PySem.Challenge.rw_manrent_k12_twins_of_lands.Holds := by
 w_on;o_law;k_head;(case hw=>w_witness2)
 k_fill
 refine M.walk (l:=PySem.Challenge.rw_manrent_k12_twins_of_lands) rfl rfl (fun w h Y=>PySem.W.kIn_of Y) ?F
 case F =>
  intro w mg fa h KX G hmg
  refine' M.all_mk KX G hmg ?A ?B0 ?cC ?Z ?Q ?kaB ?eaB ?laB ?tb2_ ?zb2_ ?vb2_
  (case Q=>(repeat refine ⟨by k_is,?_⟩);exact True.intro)
  (case A=>(repeat refine ⟨⟨by k_is,⟨_,_,_,_,_,_,_,_,_,by k_is,by k_is,by k_is⟩,fun _ _ _ _ _ _=>by (repeat refine M.onS fun _=>?_);exact M.on0 rfl⟩,?_⟩);exact True.intro)
  (case B0=>(repeat refine ⟨⟨by k_is,by k_is,⟨_,_,_,_,_,_,_,_,_,by k_is,by k_is,by k_is⟩,fun _ _ _ _ _ _=>by (repeat refine M.onS fun _=>?_);exact M.on0 rfl⟩,?_⟩);exact True.intro)
  (case cC=>exact ⟨⟨by k_is,by k_is,by k_is,by k_is⟩,by k_is,by k_is,⟨by k_is,⟨by k_is,⟨by k_is,⟨by k_is,⟨by k_is,True.intro⟩⟩⟩⟩⟩⟩)
  (case Z=>(repeat refine ⟨by k_is,?_⟩);exact True.intro)
  case kaB=>k_is
  (case eaB=>exact ⟨⟨⟨_,rfl⟩,rfl,rfl⟩,⟨⟨_,rfl⟩,rfl,rfl⟩,⟨⟨_,rfl⟩,rfl,rfl⟩,⟨⟨_,rfl⟩,rfl,rfl⟩,⟨⟨_,rfl⟩,rfl,rfl⟩,⟨⟨_,rfl⟩,rfl,rfl⟩,⟨⟨_,rfl⟩,rfl,rfl⟩,True.intro⟩)
  (case laB=>rfl)
  case tb2_=>k_is
  (case zb2_=>exact M.small (Nat.le_of_ble_eq_true rfl))
  (case vb2_=>exact .cons ⟨_,rfl⟩ (.cons ⟨_,rfl⟩ (.nil)))
