import PyProof.Rows.All
import KE.RegKIsAll
import KE.RegKTryMore
import Wide.All
import OpenK.KLine
import OpenK.KWalk
import OpenK.KOwn
import Wide.FinOn
import PyProof.EqAt
import PyProof.EqKinds
import PyProof.TupleCall
import PyProof.P3Eq
import PyProof.NeData
import KE.KTryDeep
import KE.KTryMore
import KE.KIsAll
import PyProof.NsDelKeeps
import PyProof.ExcArgsOwn
import OpenK.KTop
import PyProof.ExcBaseAll.ValueError
import PyProof.EnumMake
import PyProof.Draws
import KE.KSetDisp
import PyProof.SetRoads
import PyProof.Rows.SortStr
import PyProof.Rows.SortWalk
import PyProof.DictItems
import PyProof.DictValues
import KE.KSortTup
import KE.KItemsList
import KE.KDictOf
import KE.KDictList
import PyProof.ListRange
import PyProof.StrLawsTight
import PyProof.StrLawsChain
import PyProof.StrCalls2
import KE.KIntText
import KE.KListMore
import PyProof.AutoListH
import PyProof.SetKind
import PyProof.TupleKey
import PyProof.IsRules
import PyProof.Rows.SetFrom
import PyProof.AttrMissHeap
import PySem.Challenge.RW_manrent_k47_twins_of_rolls
set_option hygiene false
local macro_rules
|`(0x0)=>`(⟨rfl,rfl,rfl,by decide +kernel,rfl,by decide +kernel,by decide +kernel⟩)
|`(0x1)=>`(by lia)
|`(0x2)=>`(⟨rfl,by decide +kernel,by decide +kernel,by decide +kernel,rfl,by decide +kernel⟩)
|`(0x3)=>`(fun cdv A outer s H vs Q E hr h=>?_)
|`(0x4)=>`(by simp)
|`(0x5)=>`(Or.inl rfl)
|`(0x6)=>`(Nat.le_refl _)
|`(0x7)=>`(model X.prog X.w)
|`(0x8)=>`(by decide)
|`(0x9)=>`(fun _ _=>rfl)
|`(0xA)=>`(fun vs H Q E h=>?_)
|`(0xB)=>`(model prog w)
|`(0xC)=>`(SetTable.insertAt es p (tupleKeyHash knd kx,Value.ref ax))
|`(0xD)=>`(aN cu (aK bA (pv 1) au aR) aD (aZ _))
|`(0xE)=>`(by decide +kernel)
|`(0xF)=>`(s.heap.objs.size+1)
|`(0x10)=>`(pv 0)
|`(0x11)=>`(Addr×Obj)
|`(0x12)=>`(SetTable.leap m (prs m p p.more).i (prs m p p.more).perturb)
|`(0x13)=>`(.lst (es.map fun e=>V.ref e.q))
|`(0x14)=>`(hs.2 b (Nat.ne_of_lt (Nat.lt_of_lt_of_le (Heap.lt_size e) I.ok.above)))
|`(0x15)=>`(.builtin "object.__class__")
|`(0x16)=>`(by with_unfolding_all rfl)
|`(0x17)=>`(es.map Ent.c)
|`(0x18)=>`(⟨_,Heap.get?_push_size _ rfl,rfl,rfl⟩)
|`(0x19)=>`(⟨_,rfl,t,_,_,_,rfl,rfl,bF.of tx,at0 _ _,rfl,_,rfl,aL ⟨_,rfl,_,rfl,small 0x4,fin L fs Hx (Same.refl _) Lx BJ hL rfl⟩⟩)
|`(0x1A)=>`(⟨_,rfl,t,_,_,_,rfl,rfl,bF.of t1,at0 _ _,rfl,_,rfl,aL ⟨_,rfl,t,_,_,_,rfl,rfl,bF.of t1,at0 _ _,small 0x4,fun q hq=>⟨q,_,rfl,.inr (bF.of ak),rfl,rfl,_,rfl,bR ⟨_,rfl,_,rfl,t,_,_,_,rfl,rfl,bF.of ((aq hq _) _ _ t1),bh (j:=1) rfl,d,_,rfl,find e he _ (aq hq _),kq _ (s1.trans (aq hq _))⟩⟩⟩⟩)
|`(0x1B)=>`(jy I hg hm Cw (PyProof.Rows.callWith_type1 (cB (ha pos pins s σ H _ I h) fun us s1 ⟨vs,H1,I1,r1,q1⟩=>?_) (by rw [hs,hs2]) (by rw [hs2];rfl)))
|`(0x1C)=>`(.tup [V.int (1+yG % 9999),V.int (yH % 100)])
|`(0x1D)=>`(SetTable.below t.place j)
local macro_rules
|`(0x1E)=>`(x==("__debug__" : Str))
|`(0x1F)=>`(oK (iC P w) P w K mg base N qual scope f cd A outer s H E)
|`(0x20)=>`(bs.map fun s=>V.ref s.t)
|`(0x21)=>`(⟨Kp.set rfl (Kp.refl _),?_⟩)
|`(0x22)=>`(⟨_,rfl,.inl ⟨rfl,_,bf.of r5⟩,_,rfl,_,rfl,_,rfl,_,_,rfl,rfl,a,_,_,_,rfl,rfl,S5,e1,_,rfl,b,_,rfl,.inl B5,_,_,rfl,rfl,(by show (0:Int)<((zs.map V.str).length:Int);rw [bL];lia),b,_,_,_,rfl,rfl,B5,ez,r,_,_,rfl,rfl,r5,sz,fin _ (xO hz) (by rw [c1'];rfl) (sH hz c1')⟩)
|`(0x23)=>`(.ref s.heap.objs.size)
|`(0x24)=>`(.ListComp elt [⟨tg,iter,ifs,0⟩] scope pos)
|`(0x25)=>`(.lst [V.bl (decide (i=0)),V.bl (decide (i=1)),V.bl (decide (i=2)),V.bl (decide (i=3))])
|`(0x26)=>`(cs.map fun r=>V.ref r.m)
|`(0x27)=>`(bW (gw PySem.F.plainAttrs_list PySem.F.slot_list_append PySem.F.type_list_append c7 (cF 0x10 rfl) (aj (cF 0x10 rfl) ao)))
|`(0x28)=>`(fun e=>by cases e)
|`(0x29)=>`(K6 X (ts++fr) scope s H fp C)
|`(0x2A)=>`(ha pins s σ H _ I h)
|`(0x2B)=>`(show false=true from hs)
|`(0x2C)=>`(as.map fun s=>V.ref s.t)
|`(0x2D)=>`(((l.zip rest).all mV)&&!(two k&&decide (rest[1]?=rest[2]?)))
|`(0x2E)=>`(cC (u1 hr) 0x10 aD 0x9)
|`(0x2F)=>`(SetTable.leap m p.i p.perturb)
|`(0x30)=>`(wpAny_callSpecial?_slot (name:=Str.ofString "__next__") hit.typeIs F.slot_tuple_iterator_next (wpAny_call_entry F.slot_tuple_iterator_next hit.typeIs F.entry_tuple_iterator_next ?_ (F.args_tuple_iterator_next_1 _)))
|`(0x31)=>`(⟨fun b o e n hb hx=>?_,fun b o e n hb hx=>?_,I.base.free,fun b o e hx=>?_,I.base.tups,I.base.oA,I.base.pO⟩)
set_option Elab.async false
set_option linter.all false
set_option maxHeartbeats 16000000
set_option maxRecDepth 100000
theorem bL {α β:Type _}{as:List α} (f:α->β):(as.map f).length=as.length:=List.length_map f
theorem dB {α:Type _}{l:List α}{i:Nat} (h:i<l.length):l[i]?=some l[i]:=List.getElem?_eq_getElem h
theorem iw {α:Type _}{l:List α}{i:Nat}{a:α}:l.getD i a=l[i]?.getD a:=List.getD_eq_getElem?_getD
theorem u9 {p:Prop} [inst:Decidable p] (h:decide p=true):p:=of_decide_eq_true h
theorem iK {α β:Type _}{f:α->β}{l:List α}{i:Nat}:(l.map f)[i]?=Option.map f l[i]?:=List.getElem?_map
theorem jj {α:Type _}{as bs:List α}:(as++bs).length=as.length+bs.length:=List.length_append
theorem jw {α:Type _} (y:α) {a:α}{l:List α} (h:a∈l):a∈y::l:=List.mem_cons_of_mem y h
theorem jT {α:Type _}{a:α}{as:List α}:(a::as).length=as.length+1:=List.length_cons
theorem jL {α:Type _}{l:List α}{i:Nat}{a:α} (e:l[i]?=some a):a∈l:=List.mem_of_getElem? e
theorem jO {α β:Type _}{f:α->β}{l₁ l₂:List α}:(l₁++l₂).map f=l₁.map f++l₂.map f:=List.map_append
namespace M
inductive cW where
 | d | n | c | a | s | b | e
 deriving DecidableEq
end M
variable {its us:List PySem.Value}{name qual x z:PySem.Str}{u:PySem.Value}{C CF CH CN CT D L a ax b d dx en en' fa g1 g2 g3 g4 g5 i1 i2 it l l' m' st:PySem.Addr}{P prog:PySem.Program}{w:PySem.World}{base h h' h2:PySem.Heap}{e iter tg value:PySem.Expr}{pins:List (PySem.Addr×PySem.Obj)}{s s':PySem.Shared}{F N ep fr' i j m n t' x1:Nat}{S as ch fp:List PySem.Addr}{A:PySem.Around}{E Q:PySem.Value->PySem.Shared->Prop}{apos cpos p p2 pos pos' q tp:PySem.Pos}{op:PySem.CmpOp}{K:PySem.W.Frag}{body sts:List PySem.Stmt}{elts es:List PySem.Expr}{hi lo:Option Int}{mA mg:PySem.Str->Option PySem.Value}{pl:PySem.Sem Bool}{kw:List (PySem.Str×PySem.Value)}{env:PySem.Env}{outer:List PySem.Env}{d1 d2 d3 d4 d5 fd gd:PySem.FuncData}{loose ps:List PySem.Str}{scope:PySem.Scope}{T:String}{XP:(PySem.Str->Option PySem.Value)->PySem.Heap->Prop}{YP:PySem.World->PySem.Heap->Prop}{B:Prop}{ix:List Nat}{hs:List Int}
namespace L2
open PySem PySem.Spec PyProof.Rows
abbrev Key:=Sum Int Str
def qG:Key->Value->Bool
 | .inl k,v=>Value.isInt k v
 | .inr x,v=>Value.isStrOf x v
def keyH (w:World):Key->Int
 | .inl k=>hashInt k
 | .inr x=>hashStr w x
theorem cG:∀ {k:Key}{v:Value},qG k v=true->(∃ i t,k=Sum.inl i/\v=Value.int i t)\/(∃ x t,k=Sum.inr x/\v=Value.str x t)
 | .inl i,v,h=>by
  obtain ⟨t,e⟩:=Value.isInt_shape (k:=i) (v:=v) h;exact .inl ⟨i,t,rfl,e⟩
 | .inr x,v,h=>by
  obtain ⟨t,e⟩:=Value.isStrOf_shape (x:=x) (v:=v) h;exact .inr ⟨x,t,rfl,e⟩
theorem Iv (i:Int) (t:Tok):qG (.inl i) (.int i t)=true:=by simp [qG,Value.isInt]
theorem Iw (x:Str) (t:Tok):qG (.inr x) (.str x t)=true:=by simp [qG,Value.isStrOf]
theorem Wt (a b:Int):decide ((Sum.inl a:Key)=Sum.inl b)=(a==b):=by
 by_cases e:a=b
 ·subst e;simp
 ·have h:¬ (Sum.inl a:Key)=Sum.inl b:=fun q=>e (Sum.inl.inj q);rw [decide_eq_false h];exact (beq_eq_false_iff_ne.mpr e).symm
theorem Wu (a b:Str):decide ((Sum.inr a:Key)=Sum.inr b)=decide (a=b):=by
 by_cases e:a=b
 ·subst e;simp
 ·have h:¬ (Sum.inr a:Key)=Sum.inr b:=fun q=>e (Sum.inr.inj q);rw [decide_eq_false h,decide_eq_false e]
theorem Wv (a:Int) (b:Str):decide ((Sum.inl a:Key)=Sum.inr b)=false:=decide_eq_false (fun q=>nomatch q)
theorem Ww (a:Str) (b:Int):decide ((Sum.inr a:Key)=Sum.inl b)=false:=decide_eq_false (fun q=>nomatch q)
def bJ (prog:Program) (w:World):PySem.KeyKind prog w Key where
 is:=qG
 hash:=keyH w
 inj:=fun v a b ha hb=>by
  rcases cG ha with ⟨i,t,rfl,rfl⟩ | ⟨x,t,rfl,rfl⟩
  ·rcases cG hb with ⟨j,u,rfl,e⟩ | ⟨y,u,rfl,e⟩
   ·injection e with e1 _;rw [e1]
   ·exact nomatch e
  ·rcases cG hb with ⟨j,u,rfl,e⟩ | ⟨y,u,rfl,e⟩
   ·exact nomatch e
   ·injection e with e1 _;rw [e1]
 byValue:=fun k v h=>by
  rcases cG h with ⟨i,t,rfl,rfl⟩ | ⟨x,t,rfl,rfl⟩ <;> rfl
 pyHash:=fun hv h=>by
  rcases cG hv with ⟨i,t,rfl,rfl⟩ | ⟨x,t,rfl,rfl⟩
  ·exact wpAny_pyHash_int h
  ·exact wpAny_pyHash_str h
 eqBool:=fun hu hv h=>by
  rcases cG hu with ⟨i,t,rfl,rfl⟩ | ⟨x,t,rfl,rfl⟩
  ·rcases cG hv with ⟨j,u,rfl,rfl⟩ | ⟨y,u,rfl,rfl⟩
   ·rw [Wt] at h;exact wpAny_eqBool_int h
   ·rw [Wv] at h;exact SeqAt.EqAt.int_str i t y u _ _ _ _ h
  ·rcases cG hv with ⟨j,u,rfl,rfl⟩ | ⟨y,u,rfl,rfl⟩
   ·rw [Ww] at h;exact SeqAt.EqAt.str_int x t j u _ _ _ _ h
   ·rw [Wu] at h;exact wpAny_eqBool_str h
 «strs»:=fun k x t v h=>by
  rcases cG h with ⟨i,u,rfl,e⟩ | ⟨y,u,rfl,e⟩
  ·exact nomatch e
  ·injection e with e1 _;subst e1;cases v <;> rfl
theorem yI (prog:Program) (w:World) (i:Int) (t:Tok):(bJ prog w).is (.inl i) (.int i t)=true:=Iv i t
theorem yJ (prog:Program) (w:World) (x:Str) (t:Tok):(bJ prog w).is (.inr x) (.str x t)=true:=Iw x t
inductive V where
 | non | bl (b:Bool) | int (i:Int) | str (x:Str) | yC (b:Array UInt8) | flt (b:UInt64) | ref (a:Addr) | ty (n:String)
 deriving DecidableEq
variable {ls r rest rs xs ys:List V}{v y:V}{kvs:List (Int×V)}{pool:List (List V)}
def RelV:V->Value->Prop
 | .non,u=>u=Value.none
 | .bl b,u=>u=Value.bool b
 | .int i,u=>∃ t,u=Value.int i t
 | .str x,u=>∃ t,u=Value.str x t
 | .yC b,u=>∃ t,u=Value.bytes b t
 | .flt b,u=>∃ t,u=Value.float b t
 | .ref a,u=>u=Value.ref a
 | .ty n,u=>u=Value.type n
abbrev Vals:List V->List Value->Prop:=Paired RelV
theorem Vals.length (r:Vals xs us):xs.length=us.length:=Paired.length r
theorem Vals.get:∀ {xs:List V}{us:List Value}{i:Nat}{x:V},Vals xs us->xs[i]?=some x->∃ u,us[i]?=some u/\RelV x u
 | _,_,_,_,.nil,e=>by simp at e
 | _,_,0,_,.cons r _,e=>by simp at e;subst e;exact ⟨_,rfl,r⟩
 | _,_,i+1,x,.cons _ t,e=>by
  obtain ⟨u,h1,h2⟩:=Vals.get (i:=i) (x:=x) t (by simpa using e);exact ⟨u,by simpa using h1,h2⟩
theorem Vals.set {x:V} (r:RelV x u):∀ {xs:List V}{us:List Value} (i:Nat),Vals xs us->Vals (xs.set i x) (us.set i u)
 | _,_,_,.nil=>.nil
 | _,_,0,.cons _ t=>.cons r t
 | _,_,i+1,.cons q t=>.cons q (Vals.set r i t)
theorem Vals.append:∀ {xs ys:List V}{us ws:List Value},Vals xs us->Vals ys ws->Vals (xs++ys) (us++ws)
 | _,_,_,_,.nil,s=>s
 | _,_,_,_,.cons r t,s=>.cons r (Vals.append t s)
theorem Vals.take:∀ {xs:List V}{us:List Value} (n:Nat),Vals xs us->Vals (xs.take n) (us.take n)
 | _,_,0,_=>.nil
 | _,_,_+1,.nil=>.nil
 | _,_,n+1,.cons r t=>.cons r (Vals.take n t)
theorem Vals.drop:∀ {xs:List V}{us:List Value} (n:Nat),Vals xs us->Vals (xs.drop n) (us.drop n)
 | _,_,0,r=>r
 | _,_,_+1,.nil=>.nil
 | _,_,n+1,.cons _ t=>Vals.drop n t
def jc:Option V->Option Value->Prop
 | some v,some u=>RelV v u
 | none,none=>True
 | _,_=>False
def KV {κ:Type}:List (κ×V)->List (κ×Value)->Prop:=Paired fun (p:κ×V) (q:κ×Value)=>p.1=q.1/\RelV p.2 q.2
def kV:Key->V
 | .inl i=>.int i
 | .inr x=>.str x
inductive HO where
 | lst (xs:List V)
 | tup (xs:List V)
 | dK (kvs:List (Key×V)) | dT (kvs:List (List Key×V))
 | set (S:Int->Bool) (n:Nat)
 | ins (C dx:Addr) (fs:List (Str×V))
 | own (x:Addr)
 | xd (fs:List (Str×V))
 | met (f x:Addr)
 | rng (lo hi:Int)
 | Bx (o:Obj) (u:HO)
 | RQ (ps:Array Value)
 | ext (φ:Heap->Prop)
abbrev Hp:=Addr->Option HO
variable {H H' H1 H2 H4:Hp}
def upd (H:Hp) (a:Addr) (o:HO):Hp:=fun b=>if b=a then some o else H b
theorem ak {o:HO}:upd H a o a=some o:=by unfold upd;rw [if_pos rfl]
theorem aA {o:HO} (h:b≠a):upd H a o b=H b:=by unfold upd;rw [if_neg h]
theorem pY {o u:HO}:upd (upd H a o) a u=upd H a u:=by
 funext b;unfold upd;split <;> rfl
theorem a0a {o u:HO} (h:H a=some o) (h':H b=some u) (d:o≠u):a≠b:=by
 intro e;subst e;rw [h] at h';exact d (Option.some.inj h')
theorem aM {o:HO} (h:H a=some o) (h':H b=none):a≠b:=by
 intro e;subst e;rw [h] at h';cases h'
section
variable (P:Program) (w:World)
def cj (H:Hp) (h:Heap) (a:Addr):HO->Prop
 | .lst xs=>xs.length<=sizeLine/\∃ (its:List Value) (n:Nat),Vals xs its/\h.get? a=some { cls:=.type "list",data:=.seq its.toArray n }
 | .tup xs=>xs.length<=sizeLine/\∃ its:List Value,Vals xs its/\IsTup h a its.toArray
 | .dK kvs=>kvs.length<=sizeLine/\(a==sysModules)=false/\∃ vs,KV kvs vs/\h.DictOf (bJ P w) a vs
 | .dT kvs=>kvs.length<=sizeLine/\(a==sysModules)=false/\∃ xs:List (List Key×Addr×Value),
   Paired (fun (p:List Key×V) (q:List Key×Addr×Value)=>p.1=q.1/\H q.2.1=some (.tup (p.1.map kV))/\RelV p.2 q.2.2) kvs xs /\
   ∃ o es ep,h.get? a=some o/\o.ExactDict/\o.data=.dict es ep/\es.toList=xs.map (entryOfKey (tupleKind (bJ P w)))/\(xs.map (·.1)).Nodup
 | .set S n=>h.SetOf (intKind P w) a S n
 | .ins C dx fs=>H dx=some (.own a)/\fs.length<=1000/\dx≠a/\h.get? a=some (PySem.W.instObj C dx) /\
   ∃ mA,h.Ns1 dx mA/\(∀ f,jc (fs.lookup f) (mA f))/\PySem.Within mA (fs.map (·.1))
 | .own _=>∃ o,h.get? a=some o
 | .xd fs=>∃ mA,h.Ns1 a mA/\∀ f,jc (fs.lookup f) (mA f)
 | .rng lo hi=>∃ t u v,h.get? a=some { cls:=.type "range",data:=.fields #[.int lo t,.int hi u,.int 1 v] }
 | .Bx o u=>h.get? a=some o/\cj H h a u
 | .RQ ps=>h.get? a=some { cls:=.none,data:=.fields ps }
 | .met f x=>h.get? a=some (PySem.W.methodObj (.ref f) (.ref x))
 | .ext φ=>φ h/\(∃ o,h.get? a=some o)/\∀ h1 h2:Heap,φ h1->(∀ o,h1.get? a=some o->h2.get? a=some o)->φ h2
def jP (H:Hp) (h:Heap):Prop:=∀ a o,H a=some o->cj P w H h a o
end
section
variable {o:HO}
theorem cj.lt (x:cj P w H h a o):a<h.objs.size:=by
 cases o with
 | lst xs=>obtain ⟨_,_,_,_,e⟩:=x;exact Heap.lt_size e
 | tup xs=>obtain ⟨_,_,_,p⟩:=x;exact p.lt
 | dK kvs=>obtain ⟨_,_,_,_,o,_,_,e,_⟩:=x;exact Heap.lt_size e
 | dT kvs=>obtain ⟨_,_,_,_,o,_,_,e,_⟩:=x;exact Heap.lt_size e
 | set S n=>obtain ⟨o,_,_,_,e,_⟩:=x;exact Heap.lt_size e
 | ins C dx fs=>obtain ⟨_,_,_,e,_⟩:=x;exact Heap.lt_size e
 | own y=>obtain ⟨_,e⟩:=x;exact Heap.lt_size e
 | xd fs=>obtain ⟨_,⟨_,_,_,e,_⟩,_⟩:=x;exact Heap.lt_size e
 | rng lo hi=>obtain ⟨_,_,_,e⟩:=x;exact Heap.lt_size e
 | Bx ob u=>obtain ⟨e,_⟩:=x;exact Heap.lt_size e
 | RQ ps=>exact Heap.lt_size (show h.get? a=some _ from x)
 | met f y=>exact Heap.lt_size (show h.get? a=some _ from x)
 | ext φ=>obtain ⟨_,⟨_,e⟩,_⟩:=x;exact Heap.lt_size e
theorem Paired.fQ {α β:Type}{F G:α->β->Prop}:∀ {l₁:List α}{l₂:List β},Paired F l₁ l₂->(∀ a b,F a b->G a b)->Paired G l₁ l₂
 | _,_,.nil,_=>.nil
 | _,_,.cons r t,f=>.cons (f _ _ r) (Paired.fQ t f)
theorem cj.stay (x:cj P w H h a o) (k:∀ b u,(b=a\/H b=some (.own a))->h.get? b=some u->h'.get? b=some u)
  (ho:∀ b,H b=some (.own a)->H' b=some (.own a)) (ht:∀ b xs,H b=some (.tup xs)->H' b=some (.tup xs)):cj P w H' h' a o:=by
 induction o with
 | lst xs=>obtain ⟨z,its,n,r,e⟩:=x;exact ⟨z,its,n,r,k _ _ (.inl rfl) e⟩
 | tup xs=>obtain ⟨z,its,r,ob,e,c⟩:=x;exact ⟨z,its,r,ob,k _ _ (.inl rfl) e,c⟩
 | dK kvs=>obtain ⟨z,y,vs,r,ob,es,ep,e,c⟩:=x;exact ⟨z,y,vs,r,ob,es,ep,k _ _ (.inl rfl) e,c⟩
 | dT kvs =>
  obtain ⟨z,y,xs,r,ob,es,ep,e,c⟩:=x;exact ⟨z,y,xs,Paired.fQ r fun p q z=>⟨z.1,ht _ _ z.2.1,z.2.2⟩,ob,es,ep,k _ _ (.inl rfl) e,c⟩
 | set S n=>obtain ⟨ob,es,ep,t,e,c⟩:=x;exact ⟨ob,es,ep,t,k _ _ (.inl rfl) e,c⟩
 | ins C dx fs =>
  obtain ⟨d,z,ne,e,mA,⟨od,es,ep,e2,c⟩,r⟩:=x;exact ⟨ho _ d,z,ne,k _ _ (.inl rfl) e,mA,⟨od,es,ep,k _ _ (.inr d) e2,c⟩,r⟩
 | own y=>obtain ⟨ob,e⟩:=x;exact ⟨ob,k _ _ (.inl rfl) e⟩
 | xd fs=>obtain ⟨mA,⟨od,es,ep,e,c⟩,r⟩:=x;exact ⟨mA,⟨od,es,ep,k _ _ (.inl rfl) e,c⟩,r⟩
 | rng lo hi=>obtain ⟨t,u,v,e⟩:=x;exact ⟨t,u,v,k _ _ (.inl rfl) e⟩
 | Bx ob u ih=>obtain ⟨e,q⟩:=x;exact ⟨k _ _ (.inl rfl) e,ih q⟩
 | RQ ps =>
  have e:h.get? a=some { cls:=.none,data:=.fields ps }:=x
  show h'.get? a=some { cls:=.none,data:=.fields ps }
  exact k a _ (.inl rfl) e
 | met f y =>
  have e:h.get? a=some (PySem.W.methodObj (.ref f) (.ref y)):=x
  show h'.get? a=some (PySem.W.methodObj (.ref f) (.ref y))
  exact k a _ (.inl rfl) e
 | ext φ=>obtain ⟨p,⟨o,e⟩,st⟩:=x;exact ⟨st _ _ p fun o q=>k _ _ (.inl rfl) q,⟨o,k _ _ (.inl rfl) e⟩,st⟩
theorem jP.lt (x:jP P w H h) (e:H a=some o):a<h.objs.size:=(x a o e).lt
theorem jP.fresh (x:jP P w H h) (e:h.objs.size<=a):H a=none:=by
 cases q:H a with
 | none=>rfl
 | some u=>exact absurd (Nat.lt_of_lt_of_le (x.lt q) e) (Nat.lt_irrefl _)
theorem jP.kept (x:jP P w H h) (k:∀ b u,h.get? b=some u->h'.get? b=some u):jP P w H h':=fun a o e =>
 (x a o e).stay (fun b u _ q=>k b u q) (fun _ q=>q) fun _ _ q=>q
theorem jP.laid (x:jP P w H h) (k:∀ b u,h.get? b=some u->h'.get? b=some u) (hp:h.objs.size<=a) (new:cj P w (upd H a o) h' a o):jP P w (upd H a o) h':=fun b u e=>by
 have hn:=x.fresh hp
 by_cases hb:b=a
 ·subst hb;rw [ak] at e;cases e;exact new
 ·rw [aA hb] at e;exact (x b u e).stay (fun c v _ q=>k c v q) (fun c q=>by rw [aA (aM q hn)];exact q) fun c xs q=>by rw [aA (aM q hn)];exact q
end
inductive Rd_X (H:Hp) (a:Addr) (u:L2.HO):Prop
 | mk (o:Obj) (_:H a=some (.Bx o u)):Rd_X H a u
def Rd (H:Hp) (a:Addr) (u:HO):Prop:=H a=some u\/Rd_X H a u
theorem Rd.ok {u:HO} (r:Rd H a u) (x:jP P w H h):cj P w H h a u:=by
 rcases r with r | ⟨o,r⟩
 ·exact x a u r
 ·obtain ⟨_,q⟩:=x a _ r;exact q
def Mut:Option HO->Prop
 | some (.lst _)=>True
 | some (.dK _)=>True
 | some (.dT _)=>True
 | some (.set _ _)=>True
 | some (.ins _ _ _)=>True
 | some (.ext _)=>True
 | _=>False
section
variable {x e:Addr}{o':HO}
theorem jP.write (ok:jP P w H h) (mu:Mut (H x)) (he:e=x\/H e=some (.own x)) (k:∀ b u,b≠e->h.get? b=some u->h'.get? b=some u) (heo:∃ u,h'.get? e=some u)
  (new:cj P w (upd H x o') h' x o'):jP P w (upd H x o') h':=fun b u q=>by
 have nown:∀ c y,H c=some (.own y)->c≠x:=fun c y r z=>by subst z;rw [r] at mu;exact mu
 have ntup:∀ c xs,H c=some (.tup xs)->c≠x:=fun c xs r z=>by subst z;rw [r] at mu;exact mu
 by_cases hb:b=x
 ·subst hb;rw [ak] at q;cases q;exact new
 ·rw [aA hb] at q
  by_cases hbe:b=e
  ·have q':H b=some (.own x):=by
    rcases he with z | z
    ·exact absurd (hbe.trans z) hb
    ·rw [hbe];exact z
   rw [q] at q';cases q';obtain ⟨v,hv⟩:=heo;exact ⟨v,by rw [hbe];exact hv⟩
  ·refine (ok b u q).stay (fun c v hc r=>k c v ?_ r) (fun c r=>by rw [aA (nown c b r)];exact r) fun c xs r=>by rw [aA (ntup c xs r)];exact r
   rcases hc with rfl | hc
   ·exact hbe
   ·rintro rfl;rcases he with z | z
    ·exact nown c b hc z
    ·rw [hc] at z;cases z;exact hb rfl
end
structure Un (fs ex:List Addr) (H H':Hp) (h h':Heap):Prop where
 keep:∀ b o,h.get? b=some o->H b=none->b∉fs->b∉ex->h'.get? b=some o
 slot:∀ b o,h.get? b=some o->H b=none->b∈fs->b∉ex->∃ sl,h'.get? b=some { o with slots:=sl }
 free:∀ b o,h.get? b=some o->H b=none->b∉ex->H' b=none
 there:∀ b o,h.get? b=some o->b∉ex->∃ o',h'.get? b=some o'
 tups:∀ b xs,H b=some (.tup xs)->H' b=some (.tup xs)
 oA:∀ b o u,H b=some (.Bx o u)->H' b=some (.Bx o u)
 pO:∀ b ps,H b=some (.RQ ps)->∃ more,H' b=some (.RQ (ps++more))
section
variable {fs fs' ex ex':List Addr}{h1:Heap}{x e:Addr}{o:HO}
theorem Un.any (u:Un fs ex H H1 h h1) {ob:Obj} (q:h.get? b=some ob) (n:H b=none) (hx:b∉ex):∃ sl,h1.get? b=some { ob with slots:=sl }:=by
 by_cases hb:b∈fs
 ·exact u.slot b ob q n hb hx
 ·exact ⟨ob.slots,u.keep b ob q n hb hx⟩
theorem Un.kept (k:∀ b u,h.get? b=some u->h'.get? b=some u):Un fs ex H H h h' :=
 ⟨fun b ob q _ _ _=>k b ob q,fun b ob q _ _ _=>⟨ob.slots,k b ob q⟩,fun _ _ _ n _=>n,fun b ob q _=>⟨ob,k b ob q⟩,fun _ _ q=>q,fun _ _ _ q=>q,fun _ ps q=>⟨#[],by rw [q];simp⟩⟩
theorem Un.refl:Un fs ex H H h h:=Un.kept fun _ _ q=>q
theorem Un.laid (k:∀ b u,h.get? b=some u->h'.get? b=some u) (hp:h.objs.size<=a) (hn:H a=none):Un fs ex H (upd H a o) h h' where
 keep:=fun b u q _ _ _=>k b u q
 slot:=fun b u q _ _ _=>⟨u.slots,k b u q⟩
 free:=fun b u q n _=>by rw [aA (Nat.ne_of_lt (Nat.lt_of_lt_of_le (Heap.lt_size q) hp))];exact n
 there:=fun b u q _=>⟨u,k b u q⟩
 tups:=fun b xs q=>by rw [aA (aM q hn)];exact q
 oA:=fun b u xs q=>by rw [aA (aM q hn)];exact q
 pO:=fun b ps q=>⟨#[],by rw [aA (aM q hn),q];simp⟩
theorem Un.write (mu:Mut (H x)) (he:e=x\/H e=some (.own x)) (k:∀ b u,b≠e->h.get? b=some u->h'.get? b=some u) (heo:∃ u,h'.get? e=some u):Un fs ex H (upd H x o) h h':=by
 have hx:∀ b,H b=none->b≠x:=fun b n z=>by subst z;rw [n] at mu;exact mu
 have hb:∀ b,H b=none->b≠e:=fun b n z=>by
  subst z;rcases he with r | r
  ·exact hx b n r
  ·rw [n] at r;cases r
 have hm:∀ b u,H b=some u->¬ Mut (some u)->b≠x:=fun b u q nm z=>by subst z;rw [q] at mu;exact nm mu
 refine ⟨fun b u q n _ _=>k b u (hb b n) q,fun b u q n _ _=>⟨u.slots,k b u (hb b n) q⟩,fun b u q n _=>by rw [aA (hx b n)];exact n,fun b u q _=>?_,
  fun b xs q=>by rw [aA (hm b _ q fun z=>z)];exact q,fun b u xs q=>by rw [aA (hm b _ q fun z=>z)];exact q,fun b ps q=>⟨#[],by rw [aA (hm b _ q fun z=>z),q];simp⟩⟩
 by_cases hbe:b=e
 ·subst hbe;exact heo
 ·exact ⟨u,k b u hbe q⟩
end
def trk (h:Heap) (H:Hp):List Addr:=(List.range h.objs.size).filter fun a=>(H a).isSome
def vP (h:Heap) (H:Hp):Heap:=PySem.W.hideAll h (trk h H)
theorem Iz (h:Heap) (H:Hp):(vP h H).objs.size=h.objs.size:=PySem.W.hideAll_size _ _
theorem Ke {o:Obj} (e:h.get? b=some o) (n:H b=none):(vP h H).get? b=some o :=
 PySem.W.hideAll_get _ e fun hm=>by
  have q:(H b).isSome=true:=(List.mem_filter.mp hm).2;rw [n] at q;simp at q
theorem RT {o:Obj} (e:(vP h H).get? b=some o):h.get? b=some o/\H b=none:=by
 have e':h.get? b=some o:=PySem.W.of_hideAll (trk h H) e;refine ⟨e',?_⟩;cases q:H b with
 | none=>rfl
 | some x =>
  have hm:b∈trk h H:=List.mem_filter.mpr ⟨List.mem_range.mpr (Heap.lt_size e'),by simp [q]⟩;have z:(vP h H).get? b=none:=PySem.W.hideAll_none (trk h H) hm;rw [z] at e;cases e
structure Mod (K:PySem.W.Frag) (mg:Str->Option Value) (base:Heap):Prop where
 kin:K.In base
 glob:base.Ns mainGlobals mg
 blt:∃ mb,base.Ns builtinsNs mb/\∀ x:Str,x≠"__name__"->mb x=bootBuiltins x
 nolimit:base.NoLimit
structure Cx where
 prog:Program
 w:World
 K:PySem.W.Frag
 mg:Str->Option Value
 base:Heap
 A:Around
 N:List Str
 s₀:Shared
 H₀:Hp
 env:Env
 outer:List Env
 stack:List Env
 ex:List Addr
 fn:Str->Bool
 calm:Bool
 pn:List 0x11
 xe:Value->Shared->Prop
variable {X:Cx}
def frs (l:List Env):List Addr:=l.filterMap (·.frame)
abbrev Cx.fs (X:Cx):List Addr:=frs X.outer
def Vis (sc:Scope) (x:Str):Prop:=sc.names.lookup x=some .local\/sc.names.lookup x=some .cell\/sc.names.lookup x=some .free
def Loc (sc:Scope) (x:Str):Prop:=sc.names.lookup x=some .local\/sc.names.lookup x=some .cell
def Look (env:Env) (h:Heap) (m:Str->Option Value) (x:Str) (u:Value):Prop :=
 (env.kindOf x=some .local/\m x=some u)\/((env.kindOf x=some .cell\/env.kindOf x=some .free)/\∃ c,env.cells.lookup x=some c/\h.IsCell c (some u))
structure Cx.Ok (X:Cx):Prop where
 mod:Mod X.K X.mg X.base
 kind:X.env.scope.kind=.function
 glob:X.env.globals=mainGlobals
 blt:X.env.builtins=builtinsNs
 above:X.s₀.heap.objs.size<=X.env.locals
 inj:∀ x y c,X.env.cells.lookup x=some c->X.env.cells.lookup y=some c->x=y
 has:∀ x,(X.env.kindOf x=some .cell\/X.env.kindOf x=some .free)->∃ c,X.env.cells.lookup x=some c
 cab:∀ x c,X.fn x=true->X.env.cells.lookup x=some c->X.s₀.heap.objs.size<=c
 hd:X.calm=true->X.A.handled=none
 frames:X.A.frames=some X.stack
 stk:X.stack=X.outer\/(X.stack=X.env::X.outer/\X.env.frame=some X.env.locals)
 ZX:∀ b∈X.ex,b≠X.env.locals/\∀ x c,X.env.cells.lookup x=some c->c≠b
 bs:∀ b o,X.base.get? b=some o->X.s₀.heap.get? b=some o/\X.H₀ b=none
 Kf:X.base.objs.size<=X.s₀.heap.objs.size
 yK:∀ b o,X.base.get? b=some o->b∉X.ex
 BK:∀ b∈X.ex,b∉X.fs
 m8:X.s₀.heap.FunFrames X.base X.outer
 RV:∀ b∈X.fs,X.H₀ b=none
structure Inv (X:Cx) (pins:List 0x11) (σ:List (Option V)) (H:Hp) (s:Shared):Prop where
 ok:X.Ok
 os:s.os=X.s₀.os
 bare:AllBare s.gens
 base:Un X.fs X.ex X.H₀ H X.s₀.heap s.heap
 loc:∃ m,s.heap.Ns X.env.locals m/\∀ (i:Nat) (x:Str) (v:V),X.N[i]?=some x->σ[i]?=some (some v)->Vis X.env.scope x->∃ u,RelV v u/\Look X.env s.heap m x u
 cell:∀ x c,X.env.cells.lookup x=some c->∃ v,s.heap.IsCell c v
 free:H X.env.locals=none
 gM:∀ x c,X.env.cells.lookup x=some c->H c=none
 pin:∀ p∈X.pn++pins,s.heap.get? p.1=some p.2/\H p.1=none/\p.1≠X.env.locals/\p.1∉X.fs/\∀ v,p.2.data≠.cell v
 hok:jP X.prog X.w H s.heap
 len:σ.length=X.N.length
section
variable {σ:List (Option V)}
theorem Cx.Ok.nofr (ok:X.Ok) {o:Obj} (e:X.base.get? b=some o):b∉X.fs:=fun hb=>by
 have:=(ok.m8.mem hb).1;rw [e] at this;cases this
theorem Inv.bs (I:Inv X pins σ H s):∀ b o,X.base.get? b=some o->s.heap.get? b=some o/\H b=none:=fun b o e =>
 ⟨I.base.keep b o (I.ok.bs b o e).1 (I.ok.bs b o e).2 (I.ok.nofr e) (I.ok.yK b o e),I.base.free b o (I.ok.bs b o e).1 (I.ok.bs b o e).2 (I.ok.yK b o e)⟩
theorem Inv.bk (I:Inv X pins σ H s):∀ b o,X.base.get? b=some o->s.heap.get? b=some o:=fun b o e=>(I.bs b o e).1
theorem Inv.mod (I:Inv X pins σ H s):Mod X.K X.mg X.base:=I.ok.mod
theorem Inv.mj (I:Inv X pins σ H s):X.K.In s.heap:=I.ok.mod.kin.keeps I.bk
theorem Inv.fr (I:Inv X pins σ H s):∃ m,Fr X.base X.env.locals s.heap m :=
 let ⟨m,hn,_⟩:=I.loc
 ⟨m,hn,I.bk,Nat.le_trans I.ok.Kf I.ok.above⟩
theorem Inv.lt (I:Inv X pins σ H s):X.env.locals<s.heap.objs.size:=let ⟨_,hn,_⟩:=I.loc;hn.lt
theorem Inv.sz (I:Inv X pins σ H s):X.s₀.heap.objs.size<=s.heap.objs.size:=Nat.le_trans I.ok.above (Nat.le_of_lt I.lt)
theorem Inv.nofs (I:Inv X pins σ H s)  (h:s.heap.objs.size<=a):a∉X.fs:=fun hb=>by
 obtain ⟨_,o,ho,_⟩:=I.ok.m8.mem hb;exact absurd (Nat.lt_of_lt_of_le (Heap.lt_size ho) (Nat.le_trans I.sz h)) (Nat.lt_irrefl _)
theorem Inv.Kg (I:Inv X pins σ H s):∀ x c,X.env.cells.lookup x=some c->c≠X.env.locals:=fun x c e z=>by
 obtain ⟨v,o,ho,hd⟩:=I.cell x c e;obtain ⟨m,⟨o',es,ep,ho',hd',_⟩,_⟩:=I.loc;rw [z,ho'] at ho;cases ho;rw [hd'] at hd;cases hd
theorem Inv.m8 (I:Inv X pins σ H s):s.heap.FunFrames X.base X.outer:=by
 have all:∀ (l:List Env),(∀ b∈frs l,b∈X.fs)->X.s₀.heap.FunFrames X.base l->s.heap.FunFrames X.base l:=by
  intro l
  induction l with
  | nil=>intro _ _;trivial
  | cons env r ih =>
   intro hs hl;obtain ⟨hk,⟨L,o,hf,hn,ho,hd⟩,hr⟩:=hl;have hL:L∈X.fs:=hs L (by unfold frs;rw [List.filterMap_cons,hf];exact List.mem_cons_self);obtain ⟨sl,e⟩:=I.base.slot L o ho (I.ok.RV L hL) hL fun z=>I.ok.BK L z hL;exact ⟨hk,⟨L,_,hf,hn,e,hd⟩,ih (fun b hb=>hs b (by unfold frs;rw [List.filterMap_cons,hf];exact jw _ hb)) hr⟩
 exact all X.outer (fun _ hb=>hb) I.ok.m8
theorem Inv.stack (I:Inv X pins σ H s):s.heap.FunFrames X.base X.stack:=by
 rcases I.ok.stk with e | ⟨e,hf⟩
 ·rw [e];exact I.m8
 ·rw [e];obtain ⟨m,hn,_⟩:=I.loc;refine .cons (by rw [I.ok.kind];decide) hf hn ?_ I.m8;exact Heap.get?_none_of_le (Nat.le_trans I.ok.Kf I.ok.above)
theorem Inv.qH (I:Inv X pins σ H s):∀ b∈frs X.stack,b∈X.env.locals::X.fs:=fun b hb=>by
 rcases I.ok.stk with e | ⟨e,hf⟩
 ·rw [e] at hb;exact jw _ hb
 ·rw [e] at hb;unfold frs at hb;rw [List.filterMap_cons,hf] at hb;exact hb
theorem Inv.vQ (I:Inv X pins σ H s):∀ b∈frs X.stack,H b=none:=fun b hb=>by
 rcases List.mem_cons.mp (I.qH b hb) with e | hb
 ·rw [e];exact I.free
 ·obtain ⟨_,o,ho,_⟩:=I.ok.m8.mem hb;exact I.base.free b o ho (I.ok.RV b hb) fun z=>I.ok.BK b z hb
theorem Inv.step {g':Array GenState}{d':Drawn} (I:Inv X pins σ H s)
  (hch:∀ b∈ch,(b∈X.ex\/X.s₀.heap.objs.size<=b)/\b≠X.env.locals/\(∀ x c,X.env.cells.lookup x=some c->c≠b)/\∀ p∈X.pn++pins,p.1≠b)
  (keep:∀ b o,b≠X.env.locals->b∉X.fs->b∉ch->s.heap.get? b=some o->H b=none->h'.get? b=some o)
  (slot:∀ b o,b≠X.env.locals->b∈X.fs->b∉ch->s.heap.get? b=some o->H b=none->∃ sl,h'.get? b=some { o with slots:=sl }) (free:∀ b o,b∉ch->s.heap.get? b=some o->H b=none->H' b=none)
  (there:∀ b o,b∉ch->s.heap.get? b=some o->∃ o',h'.get? b=some o')
  (tups:∀ b xs,H b=some (.tup xs)->H' b=some (.tup xs)) (oA:∀ b o u,H b=some (.Bx o u)->H' b=some (.Bx o u)) (pO:∀ b ps,H b=some (.RQ ps)->∃ more,H' b=some (.RQ (ps++more)))
  (ns:∀ m,s.heap.Ns X.env.locals m->h'.Ns X.env.locals m) (hok:jP X.prog X.w H' h') (hg:AllBare g') :
  Inv X pins σ H' { s with heap:=h',gens:=g',drawn:=d',toks:=t' }:=by
 have neL:∀ b o,X.s₀.heap.get? b=some o->b≠X.env.locals:=fun b o e=>Nat.ne_of_lt (Nat.lt_of_lt_of_le (Heap.lt_size e) I.ok.above);have neC:∀ b o,X.s₀.heap.get? b=some o->b∉X.ex->b∉ch:=fun b o e hx hb=>by
  rcases (hch b hb).1 with z | z
  ·exact hx z
  ·exact absurd (Nat.lt_of_lt_of_le (Heap.lt_size e) z) (Nat.lt_irrefl _)
 have cellK:∀ x c,X.env.cells.lookup x=some c->∀ v,s.heap.IsCell c v->h'.IsCell c v:=fun x c e v ⟨o,ho,hd⟩=>by
  have nch:c∉ch:=fun z=>(hch c z).2.2.1 x c e rfl
  by_cases hc:c∈X.fs
  ·obtain ⟨sl,q⟩:=slot c o (I.Kg x c e) hc nch ho (I.gM x c e);exact ⟨_,q,hd⟩
  ·exact ⟨o,keep c o (I.Kg x c e) hc nch ho (I.gM x c e),hd⟩
 refine ⟨I.ok,I.os,hg,⟨fun b o e n hb hx=>?_,fun b o e n hb hx=>?_,fun b o e n hx=>?_,fun b o e hx=>?_,fun b xs e=>tups b xs (I.base.tups b xs e),fun b o xs e=>oA b o xs (I.base.oA b o xs e),fun b ps e=>?_⟩,?_,fun x c e=>?_,?_,fun x c e=>?_,fun p hp=>?_,hok,I.len⟩
 ·exact keep b o (neL b o e) hb (neC b o e hx) (I.base.keep b o e n hb hx) (I.base.free b o e n hx)
 ·obtain ⟨sl,e1⟩:=I.base.slot b o e n hb hx;obtain ⟨sl',e2⟩:=slot b _ (neL b o e) hb (neC b o e hx) e1 (I.base.free b o e n hx);exact ⟨sl',e2⟩
 ·obtain ⟨o',e1⟩:=I.base.there b o e hx;exact free b o' (neC b o e hx) e1 (I.base.free b o e n hx)
 ·obtain ⟨o',e1⟩:=I.base.there b o e hx;exact there b o' (neC b o e hx) e1
 ·obtain ⟨m1,e1⟩:=I.base.pO b ps e;obtain ⟨m2,e2⟩:=pO b _ e1;exact ⟨m1++m2,by rw [e2,Array.append_assoc]⟩
 ·obtain ⟨m,hn,hl⟩:=I.loc;refine ⟨m,ns m hn,fun i x v e1 e2 e3=>?_⟩;obtain ⟨u,r,l⟩:=hl i x v e1 e2 e3;refine ⟨u,r,?_⟩;rcases l with l | ⟨k,c,e,z⟩
  ·exact .inl l
  ·exact .inr ⟨k,c,e,cellK x c e _ z⟩
 ·obtain ⟨v,z⟩:=I.cell x c e;exact ⟨v,cellK x c e v z⟩
 ·obtain ⟨m,⟨o,_,_,ho,_⟩,_⟩:=I.loc;exact free _ o (fun z=>(hch _ z).2.1 rfl) ho I.free
 ·obtain ⟨v,o,ho,hd⟩:=I.cell x c e;exact free c o (fun z=>(hch c z).2.2.1 x c e rfl) ho (I.gM x c e)
 ·obtain ⟨e,n,ne,nf,d⟩:=I.pin p hp;have nch:p.1∉ch:=fun z=>(hch p.1 z).2.2.2 p hp rfl;exact ⟨keep p.1 p.2 ne nf nch e n,free p.1 p.2 nch e n,ne,nf,d⟩
theorem Inv.un (I:Inv X pins σ H s) (u:Un X.fs [] H H' s.heap h') (hok:jP X.prog X.w H' h'):Inv X pins σ H' { s with heap:=h',toks:=t' }:=by
 obtain ⟨m,⟨o,es,ep,ho,r⟩,_⟩:=id I.loc;obtain ⟨sl,hL⟩:=u.any ho I.free 0x4;exact I.step (g':=s.gens) (d':=s.drawn) (ch:=[]) (fun _ z=>nomatch z) (fun b o _ hb _ e n=>u.keep b o e n hb 0x4) (fun b o _ hb _ e n=>u.slot b o e n hb 0x4) (fun b o _ e n=>u.free b o e n 0x4) (fun b o _ e=>u.there b o e 0x4) u.tups u.oA u.pO (fun m' hm=>by
  obtain ⟨o',es',ep',ho',r'⟩:=hm;rw [ho] at ho';cases ho';exact ⟨_,es',ep',hL,r'⟩) hok I.bare
theorem Inv.call {g':Array GenState}{d':Drawn} (I:Inv X pins σ H s) (u:Un (frs X.stack) ch H H' s.heap h') (hok:jP X.prog X.w H' h') (hg:AllBare g')
  (hch:∀ b∈ch,(b∈X.ex\/X.s₀.heap.objs.size<=b)/\b≠X.env.locals/\(∀ x c,X.env.cells.lookup x=some c->c≠b)/\∀ p∈X.pn++pins,p.1≠b) :
  Inv X pins σ H' { s with heap:=h',gens:=g',drawn:=d',toks:=t' }:=by
 obtain ⟨m,⟨o,es,ep,ho,r⟩,_⟩:=id I.loc;obtain ⟨sl,hL⟩:=u.any ho I.free fun z=>(hch _ z).2.1 rfl;exact I.step (ch:=ch) hch (fun b o hL hb hc e n=>u.keep b o e n (fun z=>(List.mem_cons.mp (I.qH b z)).elim hL hb) hc) (fun b o _ _ hc e n=>u.any e n hc) (fun b o hc e n=>u.free b o e n hc) (fun b o hc e=>u.there b o e hc) u.tups u.oA u.pO (fun m' hm=>by
  obtain ⟨o',es',ep',ho',r'⟩:=hm;rw [ho] at ho';cases ho';exact ⟨_,es',ep',hL,r'⟩) hok hg
theorem Inv.turned (I:Inv X pins σ H s) (k:∀ b o,b≠it->s.heap.get? b=some o->h'.get? b=some o) (hn:H it=none) (hL:it≠X.env.locals)
  (h1:it∈X.ex\/X.s₀.heap.objs.size<=it) (h2:∀ x c,X.env.cells.lookup x=some c->c≠it) (h3:∀ p∈X.pn++pins,p.1≠it):Inv X pins σ H { s with heap:=h',toks:=t' }:=by
 have nit:∀ b u,H b=some u->b≠it:=fun b u e z=>by rw [z,hn] at e;cases e
 refine I.step (g':=s.gens) (d':=s.drawn) (ch:=[it]) (fun b hb=>?_) (fun b o _ _ hc e _=>k b o (fun z=>hc (by simp [z])) e) (fun b o _ _ hc e _=>⟨o.slots,k b o (fun z=>hc (by simp [z])) e⟩) (fun _ _ _ _ n=>n)
  (fun b o hc e=>⟨o,k b o (fun z=>hc (by simp [z])) e⟩) (fun _ _ e=>e) (fun _ _ _ e=>e) (fun b ps e=>⟨#[],by rw [e];simp⟩) (fun m hm=>?_) (fun b u e=>?_) I.bare
 ·have e:b=it:=by simpa using hb
  subst e;exact ⟨h1,hL,h2,h3⟩
 ·obtain ⟨o,es,ep,ho,r⟩:=hm;exact ⟨o,es,ep,k _ o (Ne.symm hL) ho,r⟩
 ·refine (I.hok b u e).stay (fun c v hc q=>k c v ?_ q) (fun _ q=>q) fun _ _ q=>q;rcases hc with z | z
  ·rw [z];exact nit b u e
  ·exact nit c _ z
theorem Inv.tok (I:Inv X pins σ H s) (t:Nat):Inv X pins σ H { s with toks:=t }:=I.un (h':=s.heap) (t':=t) Un.refl I.hok
theorem Inv.kept (I:Inv X pins σ H s) (k:∀ b u,s.heap.get? b=some u->h'.get? b=some u):Inv X pins σ H { s with heap:=h',toks:=t' }:=I.un (Un.kept k) (I.hok.kept k)
theorem Inv.laid {o:HO} (I:Inv X pins σ H s) (k:∀ b u,s.heap.get? b=some u->h'.get? b=some u) (hp:s.heap.objs.size<=a) (new:cj X.prog X.w (upd H a o) h' a o) :
  Inv X pins σ (upd H a o) { s with heap:=h',toks:=t' }:=I.un (Un.laid k hp (I.hok.fresh hp)) (I.hok.laid k hp new)
theorem Inv.write {x e:Addr}{o:HO} (I:Inv X pins σ H s) (mu:Mut (H x)) (he:e=x\/H e=some (.own x)) (k:∀ b u,b≠e->s.heap.get? b=some u->h'.get? b=some u) (heo:∃ u,h'.get? e=some u)
  (new:cj X.prog X.w (upd H x o) h' x o):Inv X pins σ (upd H x o) { s with heap:=h',toks:=t' }:=I.un (Un.write mu he k heo) (I.hok.write mu he k heo new)
theorem Inv.weak {σ':List (Option V)} (I:Inv X pins σ H s) (hl:σ'.length=σ.length) (w:∀ (i:Nat) v,σ'[i]?=some (some v)->σ[i]?=some (some v)):Inv X pins σ' H s :=
 ⟨I.ok,I.os,I.bare,I.base,let ⟨m,hn,hl'⟩:=I.loc;⟨m,hn,fun i x v e1 e2 e3=>hl' i x v e1 (w i v e2) e3⟩,I.cell,I.free,I.gM,I.pin,I.hok,hl.trans I.len⟩
theorem Inv.Fg {yL:List 0x11} (I:Inv X pins σ H s) (h:∀ p∈yL,s.heap.get? p.1=some p.2/\H p.1=none/\p.1≠X.env.locals/\p.1∉X.fs/\∀ v,p.2.data≠.cell v):Inv X yL σ H s :=
 ⟨I.ok,I.os,I.bare,I.base,I.loc,I.cell,I.free,I.gM,fun p hp=>(List.mem_append.mp hp).elim (fun z=>I.pin p (List.mem_append_left _ z)) (h p),I.hok,I.len⟩
theorem qI {N:List Str} (hN:N.Nodup)  (a:N[i]?=some x) (b:N[j]?=some x):i=j:=by
 obtain ⟨h1,e1⟩:=List.getElem?_eq_some_iff.mp a;obtain ⟨h2,e2⟩:=List.getElem?_eq_some_iff.mp b;exact (List.getElem_inj hN).mp (e1.trans e2.symm)
theorem uc {M:Model}{Q:Unit->Shared->Prop} (I:Inv X pins σ H s) (hN:X.N.Nodup) (hi:X.N[i]?=some x) (hx:Loc X.env.scope x) (r:RelV v u)
  (h:∀ s',Inv X pins (σ.set i (some v)) H s'->(∃ a,Heap.SameBut a s.heap s'.heap/\(a=X.env.locals\/X.env.cells.lookup x=some a))->Q () s') (hf:X.fn x=true\/X.env.scope.names.lookup x=some .local:=by first | exact .inl rfl | exact .inr rfl | assumption):wpAny M A (storeName X.env x u) Q E s:=by
 obtain ⟨m,hn,hl⟩:=id I.loc;have hcls:(X.env.scope.kind==.class||(X.env.scope.kind==.module&&X.env.locals != X.env.globals))=false:=by rw [I.ok.kind];rfl
 have hiσ:i<σ.length:=by rw [I.len];exact (List.getElem?_eq_some_iff.mp hi).1
 have Kg:=I.Kg;have tracked:∀ {a:Addr}{h':Heap},(∃ o,s.heap.get? a=some o/\H a=none)->Heap.SameBut a s.heap h'->jP X.prog X.w H h':=fun {a h'} ha hs b ob e=>by
  obtain ⟨_,_,hfree⟩:=ha;refine (I.hok b ob e).stay (fun c w' hc q=>(hs.2 c ?_).trans q) (fun _ q=>q) fun _ _ q=>q;rintro rfl;rcases hc with rfl | hc
  ·rw [hfree] at e;cases e
  ·rw [hfree] at hc;cases hc
 rcases hx with hk | hk
 ·refine wpAny_storeName_local hk hn (fun h' hn' hs=>?_) hcls;obtain ⟨oL,_,_,hoL,_⟩:=id hn;refine h _ ⟨I.ok,I.os,I.bare,0x31,⟨_,hn',fun j y v' e1 e2 e3=>?_⟩,fun y c e=>?_,I.free,I.gM,fun p hp=>?_,tracked ⟨oL,hoL,I.free⟩ hs,by simpa using I.len⟩ ⟨_,hs,.inl rfl⟩
  ·exact (0x14).trans (I.base.keep b o e n hb hx)
  ·obtain ⟨sl,e1⟩:=I.base.slot b o e n hb hx;exact ⟨sl,(0x14).trans e1⟩
  ·obtain ⟨o',e1⟩:=I.base.there b o e hx;exact ⟨o',(0x14).trans e1⟩
  ·by_cases hj:j=i
   ·subst hj;rw [hi] at e1;cases e1;rw [List.getElem?_set_self hiσ] at e2;cases e2;exact ⟨u,r,.inl ⟨hk,by simp⟩⟩
   ·rw [List.getElem?_set_ne (Ne.symm hj)] at e2;obtain ⟨u',r',q⟩:=hl j y v' e1 e2 e3;refine ⟨u',r',?_⟩;rcases q with ⟨k,e⟩ | ⟨k,c,e,z⟩
    ·refine .inl ⟨k,?_⟩;have:y≠x:=fun e=>hj (qI hN e1 (e ▸ hi));simp [this,e]
    ·exact .inr ⟨k,c,e,z.sameBut hs (Kg y c e)⟩
  ·obtain ⟨w',z⟩:=I.cell y c e;exact ⟨w',z.sameBut hs (Kg y c e)⟩
  ·obtain ⟨e,n,ne,nf,d⟩:=I.pin p hp;exact ⟨(hs.2 p.1 ne).trans e,n,ne,nf,d⟩
 ·have hfn:X.fn x=true:=by
   rcases hf with z | z
   ·exact z
   ·rw [z] at hk;cases hk
  obtain ⟨c,hc⟩:=I.ok.has x (.inl hk);obtain ⟨w',z⟩:=I.cell x c hc;refine wpAny_storeName_cell I.ok.kind hk hc z (fun h' hc' hs=>?_);obtain ⟨oc,hoc,hocd⟩:=id z;refine h { s with heap:=h' } ⟨I.ok,I.os,I.bare,0x31,⟨m,hn.sameBut hs (Ne.symm (Kg x c hc)),fun j y v' e1 e2 e3=>?_⟩,fun y c' e=>?_,I.free,I.gM,fun p hp=>?_,tracked ⟨oc,hoc,I.gM x c hc⟩ hs,by simpa using I.len⟩ ⟨c,hs,.inr hc⟩
  ·exact (hs.2 b (Nat.ne_of_lt (Nat.lt_of_lt_of_le (Heap.lt_size e) (I.ok.cab x c hfn hc)))).trans (I.base.keep b o e n hb hx)
  ·obtain ⟨sl,e1⟩:=I.base.slot b o e n hb hx;exact ⟨sl,(hs.2 b (Nat.ne_of_lt (Nat.lt_of_lt_of_le (Heap.lt_size e) (I.ok.cab x c hfn hc)))).trans e1⟩
  ·obtain ⟨o',e1⟩:=I.base.there b o e hx;exact ⟨o',(hs.2 b (Nat.ne_of_lt (Nat.lt_of_lt_of_le (Heap.lt_size e) (I.ok.cab x c hfn hc)))).trans e1⟩
  ·by_cases hj:j=i
   ·subst hj;rw [hi] at e1;cases e1;rw [List.getElem?_set_self hiσ] at e2;cases e2;exact ⟨u,r,.inr ⟨.inl hk,c,hc,hc'⟩⟩
   ·rw [List.getElem?_set_ne (Ne.symm hj)] at e2;obtain ⟨u',r',q⟩:=hl j y v' e1 e2 e3;refine ⟨u',r',?_⟩;rcases q with q | ⟨k,c',e,z'⟩
    ·exact .inl q
    ·refine .inr ⟨k,c',e,z'.sameBut hs ?_⟩;rintro rfl;exact hj (qI hN e1 (I.ok.inj _ _ _ e hc ▸ hi))
  ·by_cases hcc:c'=c
   ·subst hcc;exact ⟨_,hc'⟩
   ·obtain ⟨w2,z2⟩:=I.cell y c' e;exact ⟨w2,z2.sameBut hs hcc⟩
  ·obtain ⟨e,n,ne,nf,d⟩:=I.pin p hp;refine ⟨(hs.2 p.1 ?_).trans e,n,ne,nf,d⟩;intro q;rw [q,hoc] at e;have q':oc=p.2:=Option.some.inj e;exact d w' (by rw [<- q'];exact hocd)
theorem qJ {M:Model}{Q:Unit->Shared->Prop} (I:Inv X pins σ H s) (hN:X.N.Nodup) (hi:X.N[i]?=some x) (hx:Loc X.env.scope x) (r:RelV v u)
  (h:∀ s',Inv X pins (σ.set i (some v)) H s'->Q () s') (hf:X.fn x=true\/X.env.scope.names.lookup x=some .local:=by first | exact .inl rfl | exact .inr rfl | assumption):wpAny M A (storeName X.env x u) Q E s :=
 uc I hN hi hx r (fun s' I' _=>h s' I') hf
theorem Inv.call' (I:Inv X pins σ H s) (ho:s'.os=s.os) (u:Un (frs X.stack) ch H H' s.heap s'.heap) (hok:jP X.prog X.w H' s'.heap) (hg:AllBare s'.gens)
  (hch:∀ b∈ch,(b∈X.ex\/X.s₀.heap.objs.size<=b)/\b≠X.env.locals/\(∀ x c,X.env.cells.lookup x=some c->c≠b)/\∀ p∈X.pn++pins,p.1≠b):Inv X pins σ H' s':=by
 obtain ⟨h',g',d',t',o'⟩:=s';have e:o'=s.os:=ho;subst e;exact I.call (g':=g') (t':=t') (d':=d') u hok hg hch
end
abbrev XK:=Value->Option Addr->Hp->Prop
abbrev St:=List (Option V)
variable {σ:St}
abbrev VK:=V->Hp->Prop
abbrev TE:=St->Hp->VK->Prop
variable {t1 t2 t3 ta tb te tl to tv:TE}{K9:List (TE×TE)}
abbrev TT:=St->Hp->(Bool->Hp->Prop)->Prop
variable {tt:TT}
abbrev TA:=St->Hp->(List V->Hp->Prop)->Prop
variable {t:TA}
structure Ends where
 nx:St->Hp->Prop
 rt:VK
 bk:St->Hp->Prop:=fun _ _=>False
 ct:St->Hp->Prop:=fun _ _=>False
abbrev TS:=Ends->St->Hp->Prop
variable {ts:TS}
inductive EP_X (X:Cx) (pins:List (Prod Addr Obj)) (σ:L2.St) (Q:VK) (u:Value) (s':Shared):Prop
 | mk (v:V) (H':Hp) (_:Inv X pins σ H' s') (_:RelV v u) (_:Q v H'):EP_X X pins σ Q u s'
def EP (X:Cx) (pins:List 0x11) (σ:St) (Q:VK) (u:Value) (s':Shared):Prop:=EP_X X pins σ Q u s'
inductive TP_X (X:Cx) (pins:List (Prod Addr Obj)) (σ:L2.St) (Q:Bool->Hp->Prop) (b:Bool) (s':Shared):Prop
 | mk (H':Hp) (_:Inv X pins σ H' s') (_:Q b H'):TP_X X pins σ Q b s'
def TP (X:Cx) (pins:List 0x11) (σ:St) (Q:Bool->Hp->Prop) (b:Bool) (s':Shared):Prop:=TP_X X pins σ Q b s'
inductive AP_X (X:Cx) (pins:List (Prod Addr Obj)) (σ:L2.St) (Q:List V->Hp->Prop) (us:List Value) (s':Shared):Prop
 | mk (vs:List V) (H':Hp) (_:Inv X pins σ H' s') (_:Vals vs us) (_:Q vs H'):AP_X X pins σ Q us s'
def AP (X:Cx) (pins:List 0x11) (σ:St) (Q:List V->Hp->Prop) (us:List Value) (s':Shared):Prop:=AP_X X pins σ Q us s'
def SP (X:Cx) (pins:List 0x11) (D:Ends) (f:Flow) (s':Shared):Prop :=
 match f with
 | .next=>∃ σ' H',Inv X pins σ' H' s'/\D.nx σ' H'
 | .brk=>∃ σ' H',Inv X pins σ' H' s'/\D.bk σ' H'
 | .cont=>∃ σ' H',Inv X pins σ' H' s'/\D.ct σ' H'
 | .ret u=>∃ v σ' H',Inv X pins σ' H' s'/\RelV v u/\D.rt v H'
def PE (X:Cx) (e:Expr) (t:TE):Prop :=
 ∀ (pins:List 0x11) (s:Shared) (σ:St) (H:Hp) (Q:VK),Inv X pins σ H s->t σ H Q->wpAny 0x7 X.A (eval e X.env) (EP X pins σ Q) X.xe s
def PT (X:Cx) (e:Expr) (t:TT):Prop :=
 ∀ (pins:List 0x11) (s:Shared) (σ:St) (H:Hp) (Q:Bool->Hp->Prop),Inv X pins σ H s->t σ H Q->wpAny 0x7 X.A (isTrue e X.env (eval e X.env)) (TP X pins σ Q) X.xe s
def PW (X:Cx) (e:Expr) (t:TT):Prop :=
 ∀ (whole:Sem Value) (pins:List 0x11) (s:Shared) (σ:St) (H:Hp) (Q:Bool->Hp->Prop),Inv X pins σ H s->t σ H Q->wpAny 0x7 X.A (isTrue e X.env whole) (TP X pins σ Q) X.xe s
theorem PW.pt {t:TT} (h:PW X e t):PT X e t:=h _
def PA (X:Cx) (es:List Expr) (t:TA):Prop :=
 ∀ (pos:Pos) (pins:List 0x11) (s:Shared) (σ:St) (H:Hp) (Q:List V->Hp->Prop),Inv X pins σ H s->t σ H Q->wpAny 0x7 X.A (spliced (backTo pos (starEach es X.env))) (AP X pins σ Q) X.xe s
def PS (X:Cx) (st:Stmt) (t:TS):Prop :=
 ∀ (pins:List 0x11) (s:Shared) (σ:St) (H:Hp) (D:Ends),Inv X pins σ H s->t D σ H->wpAny 0x7 X.A (exec st X.env) (SP X pins D) X.xe s
def yD (X:Cx) (st:List Stmt) (t:TS):Prop :=
 ∀ (pins:List 0x11) (s:Shared) (σ:St) (H:Hp) (D:Ends),Inv X pins σ H s->t D σ H->wpAny 0x7 X.A (execs st X.env) (SP X pins D) X.xe s
theorem cB {α:Type}{t:Sem α}{Q Q':α->Shared->Prop}{M:Model} (h:wpAny M A t Q E s) (hQ:∀ a s,Q a s->Q' a s):wpAny M A t Q' E s:=wpAny_mono h hQ fun _ _ x=>x
section
inductive Kh (i:Nat) (σ:L2.St) (H:Hp) (Q:VK):Prop
 | mk (v:V) (_:σ[i]?=some (some v)) (_:Q v H):Kh i σ H Q
def pP (i:Nat):TE:=fun σ H Q=>Kh i σ H Q
def tC (v:V):TE:=fun _ H Q=>Q v H
theorem Kl (hN:X.N[i]?=some x) (hv:Vis X.env.scope x) (hd:0x1E=false:=by decide) (hcd:(x==("__classdict__" : Str))=false:=by decide):PE X (.Name x pos) (pP i):=by
 intro pins s σ H Q I h;obtain ⟨v,e,h⟩:=h;obtain ⟨m,hn,hl⟩:=I.loc;obtain ⟨u,r,l⟩:=hl i x v hN e hv;have fin:EP X pins σ Q u s:=⟨v,H,I,r,h⟩;rcases l with ⟨hk,hm⟩ | ⟨hk,c,hc,hcell⟩
 ·exact wpAny_Name (wpAny_loadName_local I.ok.kind hk hn hm fin) hd
 ·rcases hk with hk | hk
  ·exact wpAny_Name (wpAny_loadName_cell I.ok.kind hk hc hcell fin) hd
  ·exact wpAny_Name (wpAny_loadName_free I.ok.kind hk hc hcell fin hcd) hd
theorem au {i j pos}:PE X (.Constant (.int i) j pos) (tC (.int i)):=fun _ _ _ H _ I h=>wpAny_Constant_int ⟨.int i,H,I.tok _,⟨_,rfl⟩,h⟩
theorem dU {b j pos}:PE X (.Constant (.bool b) j pos) (tC (.bl b)):=fun _ _ _ H _ I h=>Constant_bool ⟨.bl b,H,I,rfl,h⟩
theorem vR {j pos}:PE X (.Constant .none j pos) (tC .non):=fun _ _ _ H _ I h=>Constant_none ⟨.non,H,I,rfl,h⟩
theorem aD {x j pos}:PE X (.Constant (.str x) j pos) (tC (.str x)):=fun _ _ _ H _ I h=>Calls.Constant_str ⟨.str x,H,I.tok _,⟨_,rfl⟩,h⟩
def Gl (X:Cx) (x:Str):Prop:=X.env.kindOf x=some .globalImplicit
theorem jx (I:Inv X pins σ H s) (hg:Gl X x) (hm:X.mg x=some u) (h:Q u s)
  (hd:0x1E=false:=by decide):wpAny 0x7 X.A (eval (.Name x pos) X.env) Q E s :=
 Calls.Name_function_global I.ok.kind hg (Calls.loadGlobal_global (by rw [I.ok.glob];exact I.mod.glob.keeps I.bk) hm h) hd
theorem jy (I:Inv X pins σ H s) (hg:Gl X x) (hm:X.mg x=none) (hv:bootBuiltins x=some u) (h:Q u s)
  (hn:x≠"__name__":=by decide) (hd:0x1E=false:=by decide):wpAny 0x7 X.A (eval (.Name x pos) X.env) Q E s:=by
 obtain ⟨mb,h1,h2⟩:=I.mod.blt;exact Calls.Name_function_global I.ok.kind hg (Calls.loadGlobal_builtin (by rw [I.ok.glob];exact I.mod.glob.keeps I.bk) hm (by rw [I.ok.blt];exact h1.keeps I.bk) ((h2 x hn).trans hv) h) hd
theorem dM (hg:Gl X x) (hm:X.mg x=some u) (r:RelV v u) (hd:0x1E=false:=by decide):PE X (.Name x pos) (tC v) :=
 fun _ _ _ H _ I h=>jx I hg hm ⟨v,H,I,r,h⟩ hd
theorem fW (hg:Gl X x) (hm:X.mg x=none) (hv:bootBuiltins x=some u) (r:RelV v u) (hn:x≠"__name__":=by decide) (hd:0x1E=false:=by decide):PE X (.Name x pos) (tC v) :=
 fun _ _ _ H _ I h=>jy I hg hm hv ⟨v,H,I,r,h⟩ hn hd
variable {a b:Expr}
def PC (X:Cx) (op:CmpOp) (a b:Expr) (t:TE):Prop :=
 ∀ (pins:List 0x11) (s:Shared) (σ:St) (H:Hp) (Q:VK),Inv X pins σ H s->t σ H Q ->
  wpAny 0x7 X.A (eval a X.env) (fun v s₁=>wpAny 0x7 X.A (eval b X.env) (fun u s₂=>wpAny 0x7 X.A (compareOp op v u) (EP X pins σ Q) X.xe s₂) X.xe s₁) X.xe s
theorem yM (b:Expr)  (h:op≠.In) (h2:op≠.NotIn):behindInMarks op b=false:=by
 have e1:(op==CmpOp.In)=false:=by cases op <;> first | rfl | exact absurd rfl h
 have e2:(op==CmpOp.NotIn)=false:=by cases op <;> first | rfl | exact absurd rfl h2
 cases b <;> simp [behindInMarks,e1,e2]
def tIsN (ta:TE):TE:=fun σ H Q=>ta σ H fun x H1=>Q (.bl (decide (x=.non))) H1
theorem RelV.Km {x:V}{v:Value} (r:RelV x v):(v==Value.none)=decide (x=.non):=by
 cases x with
 | non=>cases r;rfl
 | bl _=>cases r;rfl
 | int _=>obtain ⟨t,rfl⟩:=r;rfl
 | str _=>obtain ⟨t,rfl⟩:=r;rfl
 | yC _=>obtain ⟨t,rfl⟩:=r;rfl
 | flt _=>obtain ⟨t,rfl⟩:=r;rfl
 | ref _=>cases r;rfl
 | ty _=>cases r;rfl
theorem vU {j pos'} (ha:PE X a ta):PC X .Is a (.Constant .none j pos') (tIsN ta):=by
 intro pins s σ H Q I h;refine cB 0x2A fun v s1 zq=>?_;obtain ⟨x,H1,I1,r1,q1⟩:=zq;exact Constant_none (is_none_gen ⟨.bl _,H1,I1,by rw [r1.Km];rfl,q1⟩)
inductive tB_X (Q:Bool->Hp->Prop) (x:V) (H1:Hp):Prop
 | mk (c:Bool) (_:x=.bl c) (_:Q c H1):tB_X Q x H1
def tB (t:TE):TT:=fun σ H Q=>t σ H fun x H1=>tB_X Q x H1
theorem Wx {t:TE} (h:PC X op a b t) (h1:behindInMarks op b=false:=by first | exact yM _ (by decide) (by decide) | rfl):PE X (.Compare a [op] [b] pos) t:=fun pins s σ H Q I hw=>wpAny_Compare1 (h pins s σ H Q I hw) h1
theorem vV {t:TE} (h:PC X op a b t) (h1:behindInMarks op b=false:=by first | exact yM _ 0x8 0x8 | rfl):PT X (.Compare a [op] [b] pos) (tB t):=by
 intro pins s σ H Q I hw;refine wpAny_isTrue_Compare1 (cB (h pins s σ H _ I hw) fun v s1 h1=>cB h1 fun u s2 h2=>cB h2 fun c s3 ⟨x,H1,I1,r1,q1⟩=>?_) h1;obtain ⟨d,rfl,q⟩:=q1;cases r1;exact wpAny_truthy_bool ⟨H1,I1,q⟩
theorem dX {t:TE} (h:PE X e t) (he:∀ whole,isTrue e X.env whole=(do let v <- whole;standAt e.pos;holding [v] (truthy v)):=by intro _;rfl):PT X e (tB t):=by
 intro pins s σ H Q I hw;refine isTrue_plain (cB (h pins s σ H _ I hw) fun v s1 ⟨x,H1,I1,r1,q1⟩=>?_) (he _);obtain ⟨d,rfl,q⟩:=q1;cases r1;exact wpAny_truthy_bool ⟨H1,I1,q⟩
variable {tA tB':TT}{rest:List Expr}
def tAnd (t u:TT):TT:=fun σ H Q=>t σ H fun c H1=>if c=true then u σ H1 Q else Q false H1
def tOr (t u:TT):TT:=fun σ H Q=>t σ H fun c H1=>if c=true then Q true H1 else u σ H1 Q
def tNot (t:TT):TT:=fun σ H Q=>t σ H fun c H1=>Q (!c) H1
theorem iQ (ha:PT X a tA):PW X (.BoolOp .And [a] pos) tA:=by
 intro wh pins s σ H Q I h;refine isTrue_and (cB (ha pins s σ H Q I h) fun c s1 e=>?_);cases c with
 | true=>exact isTrue_and_nil e
 | false=>exact e
theorem oE (ha:PT X a tA):PW X (.BoolOp .Or [a] pos) tA:=by
 intro wh pins s σ H Q I h;refine isTrue_or (cB (ha pins s σ H Q I h) fun c s1 e=>?_);cases c with
 | false=>exact isTrue_or_nil e
 | true=>exact e
theorem jU (ha:PT X a tA) (hb:PW X (.BoolOp .And (b::rest) pos) tB'):PW X (.BoolOp .And (a::b::rest) pos) (tAnd tA tB'):=by
 intro wh pins s σ H Q I h;refine isTrue_and (cB 0x2A fun c s1 zq=>?_);obtain ⟨H1,I1,q1⟩:=zq;cases c with
 | true=>exact hb wh pins s1 σ H1 Q I1 q1
 | false=>exact ⟨H1,I1,q1⟩
theorem ud (ha:PT X a tA) (hb:PW X (.BoolOp .Or (b::rest) pos) tB'):PW X (.BoolOp .Or (a::b::rest) pos) (tOr tA tB'):=by
 intro wh pins s σ H Q I h;refine isTrue_or (cB 0x2A fun c s1 zq=>?_);obtain ⟨H1,I1,q1⟩:=zq;cases c with
 | true=>exact ⟨H1,I1,q1⟩
 | false=>exact hb wh pins s1 σ H1 Q I1 q1
theorem eU (ha:PT X a tA):PT X (.UnaryOp .Not a pos) (tNot tA):=by
 intro pins s σ H Q I h;exact isTrue_not (cB (ha pins s σ H (fun c H1=>Q (!c) H1) I h) fun c s1 ⟨H1,I1,q1⟩=>⟨H1,I1,q1⟩)
inductive Fi (tb:TE) (σ:L2.St) (Q:VK) (x:V) (H1:Hp):Prop
 | mk (c:Bool) (_:x=.bl c) (_:if c=true then tb σ H1 Q else Q (.bl false) H1):Fi tb σ Q x H1
def a0b (ta tb:TE):TE:=fun σ H Q=>ta σ H fun x H1=>Fi tb σ Q x H1
inductive Ko (tb:TE) (σ:L2.St) (Q:VK) (x:V) (H1:Hp):Prop
 | mk (c:Bool) (_:x=.bl c) (_:if c=true then Q (.bl true) H1 else tb σ H1 Q):Ko tb σ Q x H1
def tOrV (ta tb:TE):TE:=fun σ H Q=>ta σ H fun x H1=>Ko tb σ Q x H1
inductive Fj (Q:VK) (x:V) (H1:Hp):Prop
 | mk (c:Bool) (_:x=.bl c) (_:Q (.bl (!c)) H1):Fj Q x H1
def a0c (ta:TE):TE:=fun σ H Q=>ta σ H fun x H1=>Fj Q x H1
theorem jV {op}{t:TE} (h:PE X a t):PE X (.BoolOp op [a] pos) t:=fun pins s σ H Q I hw=>BoolOp_one (h pins s σ H Q I hw)
theorem jz (ha:PE X a ta) (hb:PE X (.BoolOp .And (b::rest) pos) tb):PE X (.BoolOp .And (a::b::rest) pos) (a0b ta tb):=by
 intro pins s σ H Q I h;refine BoolOp_and (cB 0x2A fun v s1 zq=>?_);obtain ⟨x,H1,I1,r1,q1⟩:=zq;obtain ⟨c,rfl,q1⟩:=q1;cases r1;refine wpAny_truthy_bool ?_;cases c with
 | true=>exact hb pins s1 σ H1 Q I1 q1
 | false=>exact ⟨.bl false,H1,I1,rfl,q1⟩
theorem a0d (ha:PE X a ta) (hb:PE X (.BoolOp .Or (b::rest) pos) tb):PE X (.BoolOp .Or (a::b::rest) pos) (tOrV ta tb):=by
 intro pins s σ H Q I h;refine BoolOp_or (cB 0x2A fun v s1 zq=>?_);obtain ⟨x,H1,I1,r1,q1⟩:=zq;obtain ⟨c,rfl,q1⟩:=q1;cases r1;refine wpAny_truthy_bool ?_;cases c with
 | false=>exact hb pins s1 σ H1 Q I1 q1
 | true=>exact ⟨.bl true,H1,I1,rfl,q1⟩
theorem vW (ha:PE X a ta):PE X (.UnaryOp .Not a pos) (a0c ta):=by
 intro pins s σ H Q I h;refine UnaryOp_ (cB 0x2A fun v s1 zq=>?_);obtain ⟨x,H1,I1,r1,q1⟩:=zq;obtain ⟨c,rfl,q1⟩:=q1;cases r1;exact not_of (wpAny_truthy_bool ⟨.bl (!c),H1,I1,rfl,q1⟩)
def tIf (t:TT) (ta tb:TE):TE:=fun σ H Q=>t σ H fun c H1=>if c=true then ta σ H1 Q else tb σ H1 Q
theorem Kq {c:Expr} (hc:PT X c tA) (ha:PE X a ta) (hb:PE X b tb):PE X (.IfExp c a b pos) (tIf tA ta tb):=by
 intro pins s σ H Q I h;refine wpAny_IfExp (cB (hc pins s σ H _ I h) fun d s1 zq=>?_);obtain ⟨H1,I1,q1⟩:=zq;cases d with
 | true=>exact ha pins s1 σ H1 Q I1 q1
 | false=>exact hb pins s1 σ H1 Q I1 q1
end
def bf (K:PySem.W.Frag) (H:Hp) (a:Addr) (xs:List V):Prop :=
 Rd H a (.lst xs) \/
  ∃ (o:Obj) (its:Array Value) (n:Nat),K.lookup a=some o/\o.cls=.type "list"/\o.dict=none/\o.data=.seq its n/\its.size<=sizeLine/\Vals xs its.toList
def bF (K:PySem.W.Frag) (H:Hp) (a:Addr) (xs:List V):Prop :=
 Rd H a (.tup xs) \/
  ∃ (o:Obj) (its:Array Value) (n:Nat),K.lookup a=some o/\o.cls=.type "tuple"/\o.data=.seq its n/\its.size<=sizeLine/\Vals xs its.toList
def absV:Value->Option V
 | .none=>some .non
 | .bool b=>some (.bl b)
 | .int i _=>some (.int i)
 | .str x _=>some (.str x)
 | .bytes b _=>some (.yC b)
 | .float b _=>some (.flt b)
 | .ref a=>some (.ref a)
 | .type n=>some (.ty n)
 | _=>none
theorem RelV.abs {x:V} (r:RelV x u):absV u=some x:=by
 cases x with
 | non=>cases r;rfl
 | bl _=>cases r;rfl
 | int _=>obtain ⟨t,rfl⟩:=r;rfl
 | str _=>obtain ⟨t,rfl⟩:=r;rfl
 | yC _=>obtain ⟨t,rfl⟩:=r;rfl
 | flt _=>obtain ⟨t,rfl⟩:=r;rfl
 | ref _=>cases r;rfl
 | ty _=>cases r;rfl
theorem RelV.inj {x:V} (r:RelV x u) (q:RelV y u):x=y:=Option.some.inj (r.abs.symm.trans q.abs)
theorem Vals.inj:∀ {xs ys:List V}{us:List Value},Vals xs us->Vals ys us->xs=ys
 | _,_,_,.nil,.nil=>rfl
 | _,_,_,.cons r t,.cons r' t'=>by rw [r.inj r',Vals.inj t t']
theorem bf.of (h:H a=some (.lst xs)):bf K H a xs:=.inl (.inl h)
theorem bF.of (h:H a=some (.tup xs)):bF K H a xs:=.inl (.inl h)
theorem Inv.list (I:Inv X pins σ H s) (h:bf X.K H a xs):∃ its:List Value,Vals xs its/\PlainL s.heap a its.toArray/\xs.length<=sizeLine:=by
 rcases h with h | ⟨o,its,n,hk,hc,hd,hs,hz,r⟩
 ·obtain ⟨z,its,n,r,e⟩:=h.ok I.hok;exact ⟨its,r,⟨_,n,e,rfl,rfl,rfl⟩,z⟩
 ·refine ⟨its.toList,r,⟨o,n,I.mj a o hk,hc,hd,by simpa using hs⟩,?_⟩;have e:=r.length;simp only [Array.length_toList] at e;lia
theorem Inv.tuple (I:Inv X pins σ H s) (h:bF X.K H a xs):∃ its:List Value,Vals xs its/\IsTup s.heap a its.toArray/\xs.length<=sizeLine:=by
 rcases h with h | ⟨o,its,n,hk,hc,hs,hz,r⟩
 ·obtain ⟨z,its,r,p⟩:=h.ok I.hok;exact ⟨its,r,p,z⟩
 ·refine ⟨its.toList,r,⟨o,I.mj a o hk,hc,n,by simpa using hs⟩,?_⟩;have e:=r.length;simp only [Array.length_toList] at e;lia
theorem Inv.qK (I:Inv X pins σ H s) (h:bf X.K H a xs) (h':bf X.K H a ys):xs=ys:=by
 obtain ⟨its,r,⟨o,n,e,_,_,d⟩,_⟩:=I.list h;obtain ⟨its',r',⟨o',n',e',_,_,d'⟩,_⟩:=I.list h';rw [e] at e';cases e';rw [d] at d';injection d' with d1 _;have:its=its':=by simpa using congrArg Array.toList d1
 subst this;exact r.inj r'
theorem Inv.uf (I:Inv X pins σ H s) (h:bF X.K H a xs) (h':bF X.K H a ys):xs=ys:=by
 obtain ⟨its,r,⟨o,e,_,n,d⟩,_⟩:=I.tuple h;obtain ⟨its',r',⟨o',e',_,n',d'⟩,_⟩:=I.tuple h';rw [e] at e';cases e';rw [d] at d';injection d' with d1 _;have:its=its':=by simpa using congrArg Array.toList d1
 subst this;exact r.inj r'
abbrev Cx.wish (X:Cx) (E:Value->Shared->Prop):Cx:={ X with xe:=E }
abbrev Cx.nox (X:Cx):Cx:=X.wish fun _ _=>False
theorem Cx.Ok.wish (ok:X.Ok) (E:Value->Shared->Prop):(X.wish E).Ok :=
 ⟨ok.mod,ok.kind,ok.glob,ok.blt,ok.above,ok.inj,ok.has,ok.cab,ok.hd,ok.frames,ok.stk,ok.ZX,ok.bs,ok.Kf,ok.yK,ok.BK,ok.m8,ok.RV⟩
theorem Cx.Ok.jW (ok:(X.wish E).Ok):X.Ok :=
 ⟨ok.mod,ok.kind,ok.glob,ok.blt,ok.above,ok.inj,ok.has,ok.cab,ok.hd,ok.frames,ok.stk,ok.ZX,ok.bs,ok.Kf,ok.yK,ok.BK,ok.m8,ok.RV⟩
theorem Inv.wish (I:Inv X pins σ H s) (E:Value->Shared->Prop):Inv (X.wish E) pins σ H s:=⟨I.ok.wish E,I.os,I.bare,I.base,I.loc,I.cell,I.free,I.gM,I.pin,I.hok,I.len⟩
theorem Inv.jW (I:Inv (X.wish E) pins σ H s):Inv X pins σ H s:=⟨I.ok.jW,I.os,I.bare,I.base,I.loc,I.cell,I.free,I.gM,I.pin,I.hok,I.len⟩
theorem SP.jW {D:Ends}{f:Flow} (h:SP (X.wish E) pins D f s'):SP X pins D f s':=by
 cases f with
 | next=>obtain ⟨σ',H',I,q⟩:=h;exact ⟨σ',H',I.jW,q⟩
 | brk=>obtain ⟨σ',H',I,q⟩:=h;exact ⟨σ',H',I.jW,q⟩
 | cont=>obtain ⟨σ',H',I,q⟩:=h;exact ⟨σ',H',I.jW,q⟩
 | ret u=>obtain ⟨v,σ',H',I,r,q⟩:=h;exact ⟨v,σ',H',I.jW,r,q⟩
theorem yD.nox {st:List Stmt}{t:TS} (h:yD X.nox st t):yD X st t:=fun pins s σ H D I hw =>
 wpAny_mono (h pins s σ H D (I.wish _) hw) (fun _ _ q=>q.jW) fun _ _ z=>False.elim z
section
variable {st:Stmt}{rest:List Stmt}{t u:TS}
def Kr:TS:=fun D σ H=>D.nx σ H
def IK (t u:TS):TS:=fun D σ H=>t { D with nx:=u D } σ H
theorem bK:yD X [] Kr:=fun _ _ σ H _ I h=>wpAny_execs_nil ⟨σ,H,I,h⟩
theorem aC (h1:PS X st t) (h2:yD X rest u):yD X (st::rest) (IK t u):=by
 intro pins s σ H D I h;refine wpAny_execs_cons (cB (h1 pins s σ H { D with nx:=u D } I h) fun f s1 q=>?_);cases f with
 | next =>
  obtain ⟨σ',H',I',q⟩:=q;exact h2 pins s1 σ' H' D I' q
 | ret v=>exact q
 | brk=>exact q
 | cont=>exact q
theorem aJ (h1:PS X st t):yD X [st] t:=by
 intro pins s σ H D I h;refine wpAny_execs_cons (cB (h1 pins s σ H D I h) fun f s1 q=>?_);cases f with
 | next=>exact wpAny_execs_nil q
 | ret v=>exact q
 | brk=>exact q
 | cont=>exact q
theorem Inv.quiet (I:Inv X pins σ H s):interactive X.env=false:=by simp [interactive,I.ok.kind]
def a0e (te:TE):TS:=fun D σ H=>te σ H fun _ H1=>D.nx σ H1
theorem bW (he:PE X e te) (hs:swapsWith e none pos.line X.env=pure false:=by rfl):PS X (.Expr e pos) (a0e te):=by
 intro pins s σ H D I h;exact wpAny_Expr_any (cB (he pins s σ H _ I h) fun v s1 ⟨x,H1,I1,r1,q1⟩=>⟨σ,H1,I1,q1⟩) I.quiet hs
def Ks (te:TE):TS:=fun D σ H=>te σ H D.rt
theorem bG (he:PE X e te):PS X (.Return (some e) pos) (Ks te):=by
 intro pins s σ H D I h;exact wpAny_Return_some (cB (he pins s σ H _ I h) fun v s1 ⟨x,H1,I1,r1,q1⟩=>⟨x,σ,H1,I1,r1,q1⟩)
def vX (c:TT) (t u:TS):TS:=fun D σ H=>c σ H fun b H1=>if b=true then t D σ H1 else u D σ H1
theorem cH {c:Expr}{a b:List Stmt}{tc:TT} (hc:PT X c tc) (ha:yD X a t) (hb:yD X b u):PS X (.If c a b pos) (vX tc t u):=by
 intro pins s σ H D I h;refine wpAny_If (cB (hc pins s σ H _ I h) fun d s1 zq=>?_);obtain ⟨H1,I1,q1⟩:=zq;cases d with
 | true=>exact ha pins s1 σ H1 D I1 q1
 | false=>exact hb pins s1 σ H1 D I1 q1
def Wy:TS:=fun _ _ _=>False
theorem ug:yD X sts Wy:=fun _ _ _ _ _ _ h=>h.elim
end
abbrev TG:=V->St->Hp->(St->Hp->Prop)->Prop
abbrev Rq:=List V->St->Hp->(St->Hp->Prop)->Prop
def PG (X:Cx) (target:Expr) (t:TG):Prop :=
 ∀ (pins:List 0x11) (s:Shared) (σ:St) (H:Hp) (v:V) (u:Value) (Q:St->Hp->Prop),Inv X pins σ H s->RelV v u->t v σ H Q ->
  wpAny 0x7 X.A (assign target X.env u) (fun _ s'=>∃ σ' H',Inv X pins σ' H' s'/\Q σ' H') X.xe s
def PGs (X:Cx) (ts:List Expr) (t:Rq):Prop :=
 ∀ (pins:List 0x11) (s:Shared) (σ:St) (H:Hp) (vs:List V) (us:List Value) (Q:St->Hp->Prop),Inv X pins σ H s->Vals vs us->t vs σ H Q ->
  wpAny 0x7 X.A (assignInOrder ((assignEach ts X.env).map (·.2)) us) (fun _ s'=>∃ σ' H',Inv X pins σ' H' s'/\Q σ' H') X.xe s
abbrev Wz:=V->V->V->Hp->(Hp->Prop)->Prop
def PSet (X:Cx) (t:Wz):Prop :=
 ∀ (pins:List 0x11) (s:Shared) (σ:St) (H:Hp) (o i v:V) (ov iv u:Value) (Q:Hp->Prop),Inv X pins σ H s->RelV o ov->RelV i iv->RelV v u->t o i v H Q ->
  wpAny 0x7 X.A (setItem ov iv u) (fun _ s'=>∃ H',Inv X pins σ H' s'/\Q H') X.xe s
def mZ (i:Nat):TG:=fun v σ H Q=>Q (σ.set i (some v)) H
theorem aO (hN:X.N.Nodup) (hi:X.N[i]?=some x) (hx:Loc X.env.scope x) (hf:X.fn x=true\/X.env.scope.names.lookup x=some .local:=by first | exact .inl rfl | exact .inr rfl | assumption):PG X (.Name x pos) (mZ i):=by
 intro pins s σ H v u Q I r h;exact wpAny_assign_Name (qJ I hN hi hx r (fun s' I'=>⟨_,H,I',h⟩) hf)
def gNil:Rq:=fun vs σ H Q=>vs=[]/\Q σ H
inductive Fl (t:TG) (u:Rq) (vs:List V) (σ:L2.St) (H:Hp) (Q:L2.St->Hp->Prop):Prop
 | mk (v:V) (r:List V) (_:vs=v::r) (_:t v σ H fun σ' H'=>u r σ' H' Q):Fl t u vs σ H Q
def a0f (t:TG) (u:Rq):Rq:=fun vs σ H Q=>Fl t u vs σ H Q
theorem cQ:PGs X [] gNil:=by
 intro pins s σ H vs us Q I r h;obtain ⟨e,h⟩:=h;subst e;cases r;exact assignInOrder_nil ⟨σ,H,I,h⟩
theorem bw {t:TG}{u:Rq} (h1:PG X e t) (h2:PGs X es u)
  (hs:(assignEach (e::es) X.env).map (·.2)=assign e X.env::(assignEach es X.env).map (·.2):=by rfl):PGs X (e::es) (a0f t u):=by
 intro pins s σ H vs us Q I r h;obtain ⟨v,vr,e1,h⟩:=h;subst e1;cases r with
 | cons r rr =>
  rw [hs];refine assignInOrder_cons (cB (h1 pins s σ H _ _ _ I r h) fun _ s1 zq=>?_);obtain ⟨σ1,H1,I1,q1⟩:=zq;exact h2 pins s1 σ1 H1 _ _ Q I1 rr q1
inductive Ku (K:PySem.W.Frag) (n:Nat) (t:Rq) (v:V) (σ:L2.St) (H:Hp) (Q:L2.St->Hp->Prop):Prop
 | mk (a:Addr) (xs:List V) (_:v=.ref a) (_:bF K H a xs) (_:xs.length=n) (_:t xs σ H Q):Ku K n t v σ H Q
def gTup (K:PySem.W.Frag) (n:Nat) (t:Rq):TG:=fun v σ H Q=>Ku K n t v σ H Q
theorem fu {k:Nat}{t:Rq} (hc:X.calm=true) (h:PGs X es t)
  (hn:(assignEach es X.env).length=n:=by rfl) (hst:(assignEach es X.env).findIdx? (·.1)=none:=by rfl):PG X (.Tuple es k pos) (gTup X.K n t):=by
 intro pins s σ H v u Q I r hw;obtain ⟨a,xs,e1,hq,hl,hw⟩:=hw;subst e1;cases r;obtain ⟨its,rv,ht,hz⟩:=I.tuple hq;refine assign_Tuple_tuple (I.ok.hd hc) ht (by simp [hn,<- hl,rv.length]) hst fun h' hx=>?_;have I1:Inv X pins σ H { s with heap:=h' }:=I.kept (t':=s.toks) fun b o e=>hx b o (Nat.ne_of_lt (Heap.lt_size e)) e;exact h pins _ σ H xs _ Q I1 (by simpa using rv) hw
def gSub (to ti:TE) (t:Wz):TG:=fun v σ H Q=>to σ H fun o H1=>ti σ H1 fun i H2=>t o i v H2 fun H3=>Q σ H3
theorem vY {o i:Expr}{ti:TE}{t:Wz} (ho:PE X o to) (hi:PE X i ti) (hs:PSet X t)
  (ha:∀ v,assign (.Subscript o i pos) X.env v=(do
   let ov <- holding [v] (eval o X.env)
   let iv <- holding [v,ov] (eval i X.env)
   standAt pos
   holding [v,ov,iv] (setItem ov iv v)
   release [v,ov,iv] []):=by intro _;rfl):PG X (.Subscript o i pos) (gSub to ti t):=by
 intro pins s σ H v u Q I r h;rw [ha];refine wpAny_bind (wpAny_holding (cB (ho pins s σ H _ I h) fun ov s1 zq=>?_));obtain ⟨x,H1,I1,r1,q1⟩:=zq;refine wpAny_bind (wpAny_holding (cB (hi pins s1 σ H1 _ I1 q1) fun iv s2 zq=>?_));obtain ⟨y,H2,I2,r2,q2⟩:=zq;refine wpAny_bind (wpAny_standAt (wpAny_bind (wpAny_holding (cB (hs pins s2 σ H2 x y v ov iv u _ I2 r1 r2 r q2) fun _ s3 zq=>?_))));obtain ⟨H3,I3,q3⟩:=zq;exact wpAny_release ⟨σ,H3,I3,q3⟩
def BL (te:TE) (g:TG):TS:=fun D σ H=>te σ H fun x H1=>g x σ H1 D.nx
theorem gG {g:TG} (he:PE X e te) (hg:PG X tg g) (hs:swapsWithSole [tg] e pos.line X.env=pure false:=by rfl) (hw:swappedStores [tg] e X.env=pure none:=by rfl)
  (h1:(assignEach [tg] X.env).map (·.2)=[assign tg X.env]:=by rfl):PS X (.Assign [tg] e pos) (BL te g):=by
 intro pins s σ H D I h;refine wpAny_Assign_stores (cB (he pins s σ H _ I h) fun v s1 ⟨x,H1,I1,r1,q1⟩=>?_) hs hw;rw [h1];exact cB (hg pins s1 σ H1 x v _ I1 r1 q1) fun _ s2 q=>q
theorem bU (hN:X.N.Nodup) (hi:X.N[i]?=some x) (hx:Loc X.env.scope x) (he:PE X e te) (hs:swapsWith e (some (.Name x pos')) pos.line X.env=pure false:=by rfl) (hf:X.fn x=true\/X.env.scope.names.lookup x=some .local:=by first | exact .inl rfl | exact .inr rfl | assumption) :
  PS X (.Assign [.Name x pos'] e pos) (BL te (mZ i)):=by
 intro pins s σ H D I h;refine wpAny_Assign_Name (cB (he pins s σ H _ I h) fun v s1 ⟨y,H1,I1,r1,q1⟩=>?_) hs;exact qJ I1 hN hi hx r1 (fun s2 I2=>⟨_,H1,I2,q1⟩) hf
structure It where
 go:Nat->Hp->Prop
 yN:Nat->Hp->V->Hp->Prop
 stop:Nat->Hp->Prop
variable {J:It}
def jX (X:Cx) (pins:List 0x11) (H:Hp) (b:Addr):Prop :=
 H b=none/\b≠X.env.locals/\b∉X.fs/\(b∈X.ex\/X.s₀.heap.objs.size<=b)/\(∀ x c,X.env.cells.lookup x=some c->c≠b)/\∀ p∈X.pn++pins,p.1≠b
theorem Inv.tQ (I:Inv X pins σ H s) (hb:s.heap.objs.size<=b) (hn:H' b=none):jX X pins H' b:=by
 refine ⟨hn,Nat.ne_of_gt (Nat.lt_of_lt_of_le I.lt hb),I.nofs hb,.inr (Nat.le_trans I.sz hb),fun x c e z=>?_,fun p hp z=>?_⟩
 ·obtain ⟨v,q⟩:=I.cell x c e;exact absurd (Nat.lt_of_lt_of_le q.lt (by rw [z];exact hb)) (Nat.lt_irrefl _)
 ·exact absurd (Nat.lt_of_lt_of_le (Heap.lt_size (I.pin p hp).1) (by rw [z];exact hb)) (Nat.lt_irrefl _)
structure Turn (P:Program) (w:World) (K:PySem.W.Frag) (tg:Expr) (J:It) (fp:List Addr) (it:Addr) (tn:Nat->Heap->Prop):Prop where
 mem:it∈fp
 obj:∀ i h,tn i h->∀ b∈fp,∃ o,h.get? b=some o/\∀ v,o.data≠.cell v
 keep:∀ i h h',tn i h->(∀ b∈fp,∀ o,h.get? b=some o->h'.get? b=some o)->tn i h'
 item:∀ (X:Cx),X.prog=P->X.w=w->X.K=K->X.calm=true->∀ (i:Nat) (pins:List 0x11) (s:Shared) (σ:St) (H:Hp) (E:Value->Shared->Prop),Inv X pins σ H s->(∀ b∈fp,jX X pins H b)->tn i s.heap->J.go i H ->
  wpAny (model P w) X.A (pyNext (.ref it)) (fun r s1=>∃ u,r=some u /\
   wpAny (model P w) X.A (letOwnedTupleGo tg (.ref it) u) (fun _ s2=>∃ x H',Inv X pins σ H' s2/\RelV x u/\J.yN i H x H'/\tn (i+1) s2.heap/\∀ b∈fp,H' b=none) E s1) E s
 done:∀ (X:Cx),X.prog=P->X.w=w->X.K=K->X.calm=true->∀ (i:Nat) (pins:List 0x11) (s:Shared) (σ:St) (H:Hp) (E:Value->Shared->Prop),Inv X pins σ H s->(∀ b∈fp,jX X pins H b)->tn i s.heap->J.stop i H ->
  wpAny (model P w) X.A (pyNext (.ref it)) (fun r s1=>r=none/\Inv X pins σ H s1) E s
 self:∀ (A:Around) (i:Nat) (s:Shared) (Q:Value->Shared->Prop) (E:Value->Shared->Prop),tn i s.heap->Q (.ref it) s->wpAny (model P w) A (pyIter (.ref it)) Q E s
abbrev TI:=St->Hp->(It->Hp->Prop)->Prop
variable {wi:TI}
inductive Vg (X:Cx) (pins:List (Prod Addr Obj)) (σ:L2.St) (tg:Expr) (R:It->Hp->Prop) (itv:Value) (s2:Shared):Prop
 | mk (it:Addr) (fp:List Addr) (tn:Nat->PySem.Heap->Prop) (J:It) (H':Hp) (_:itv=.ref it) (_:Inv X pins σ H' s2) (_:Turn X.prog X.w X.K tg J fp it tn) (_:tn 0 s2.heap) (_:(∀ b∈fp,jX X pins H' b)) (_:R J H'):Vg X pins σ tg R itv s2
def PIE (X:Cx) (pins:List 0x11) (σ:St) (tg:Expr) (R:It->Hp->Prop) (itv:Value) (s2:Shared):Prop :=
 Vg X pins σ tg R itv s2
def PI (X:Cx) (tg iter:Expr) (wi:TI):Prop :=
 ∀ (pins:List 0x11) (s:Shared) (σ:St) (H:Hp) (R:It->Hp->Prop),Inv X pins σ H s->wi σ H R ->
  wpAny 0x7 X.A (eval iter X.env) (fun v s1=>wpAny 0x7 X.A (pyIter v) (PIE X pins σ tg R) X.xe s1) X.xe s
theorem Fo {M:Model}{o:Obj}{n:String}{vs:Array Value}{Q:Unit->Shared->Prop} (ho:s.heap.get? it=some o) (hc:o.cls=.type n) (hd:o.data=.fields vs)
  (hn:["enumerate", "zip", "dict_itemiterator", "dict_reverseitemiterator", "odict_iterator", "itertools.zip_longest", "itertools.pairwise"].contains n=false) (hQ:Q () s):wpAny M A (letOwnedTupleGo tg (.ref it) u) Q E s:=by
 unfold letOwnedTupleGo;cases tg <;> first
  | exact wpAny_pure hQ
  | (cases u <;> first
    | exact wpAny_pure hQ
    | (refine wpAny_bind (wpAny_load ho ?_)
       rw [hc,hd]
       show wpAny M A (if (["enumerate", "zip", "dict_itemiterator", "dict_reverseitemiterator", "odict_iterator", "itertools.zip_longest", "itertools.pairwise"].contains n&&vs[0]?==some (rawInt _))=true then _ else _) Q E s
       rw [if_neg (by intro h;rw [hn,Bool.false_and] at h;cases h)];exact wpAny_pure hQ))
def Vh (K:PySem.W.Frag) (a:Addr):It :=
 ⟨fun i H=>∃ xs x,bf K H a xs/\xs[i]?=some x,fun i H x H'=>H'=H/\∀ xs,bf K H a xs->xs[i]?=some x,fun i H=>∃ xs,bf K H a xs/\xs.length<=i⟩
def Itt (K:PySem.W.Frag) (a:Addr):It :=
 ⟨fun i H=>∃ xs x,bF K H a xs/\xs[i]?=some x,fun i H x H'=>H'=H/\∀ xs,bF K H a xs->xs[i]?=some x,fun i H=>∃ xs,bF K H a xs/\xs.length<=i⟩
def WD (lo:Int) (n:Nat):It:=⟨fun i _=>i<n,fun i H x H'=>H'=H/\x=.int (lo+i),fun i _=>n<=i⟩
theorem uh (a it:Addr):Turn P w K tg (Vh K a) [it] it (fun i h=>h.IsListIter it a i) where
 mem:=by simp
 obj:=fun i h st b hb=>by
  have e:b=it:=by simpa using hb
  subst e;obtain ⟨o,e,c,d⟩:=st;exact ⟨o,e,fun v z=>by rw [d] at z;cases z⟩
 keep:=fun i h h' st k=>st.at fun o e=>k it 0x4 o e
 item:=by
  intro X hP hw hK hc i pins s σ H E I hf st hg;subst hP hw hK;obtain ⟨xs,x,hq,hx⟩:=hg;obtain ⟨its,rv,p,hz⟩:=I.list hq;obtain ⟨u,hu,ru⟩:=rv.get hx;obtain ⟨f0,f1,f2,f3,f4,f5⟩:=hf it 0x4;refine wpAny_pyNext_list_item st p.isList (x:=u) (by simpa using hu) fun h' st' sb=>?_;have I1:Inv X pins σ H { s with heap:=h' }:=I.turned (t':=s.toks) (fun b o hb e=>(sb.2 b hb).trans e) f0 f1 f3 f4 f5;obtain ⟨o,e,c,d⟩:=id st';exact ⟨u,rfl,Fo (s:={ s with heap:=h' }) e c d 0x8 ⟨x,H,I1,ru,⟨rfl,fun ys hy=>by rw [I.qK hy hq];exact hx⟩,st',fun b hb=>(hf b hb).1⟩⟩
 done:=by
  intro X hP hw hK hc i pins s σ H E I hf st hg;subst hP hw hK;obtain ⟨xs,hq,hx⟩:=hg;obtain ⟨its,rv,p,hz⟩:=I.list hq;obtain ⟨f0,f1,f2,f3,f4,f5⟩:=hf it 0x4;have hl:=rv.length;exact wpAny_pyNext_list_end (I.ok.hd hc) st p.isList (by simp;lia) fun h' eb=>⟨rfl,I.turned (t':=s.toks) (fun b o hb e=>eb b o hb e) f0 f1 f3 f4 f5⟩
 self:=fun _ _ _ _ _ st h=>wpAny_pyIter_listiter st h
theorem BP (a it:Addr):Turn P w K tg (Itt K a) [it] it (fun i h=>h.IsTupleIter it a i) where
 mem:=by simp
 obj:=fun i h st b hb=>by
  have e:b=it:=by simpa using hb
  subst e;obtain ⟨o,e,c,d⟩:=st;exact ⟨o,e,fun v z=>by rw [d] at z;cases z⟩
 keep:=fun i h h' st k=>st.at fun o e=>k it 0x4 o e
 item:=by
  intro X hP hw hK hc i pins s σ H E I hf st hg;subst hP hw hK;obtain ⟨xs,x,hq,hx⟩:=hg;obtain ⟨its,rv,p,hz⟩:=I.tuple hq;obtain ⟨u,hu,ru⟩:=rv.get hx;obtain ⟨f0,f1,f2,f3,f4,f5⟩:=hf it 0x4;refine wpAny_pyNext_tuple_item st (show s.heap.IsTuple a its.toArray from p) (x:=u) (by simpa using hu) fun h' st' sb=>?_
  have I1:Inv X pins σ H { s with heap:=h' }:=I.turned (t':=s.toks) (fun b o hb e=>(sb.2 b hb).trans e) f0 f1 f3 f4 f5;obtain ⟨o,e,c,d⟩:=id st';exact ⟨u,rfl,Fo (s:={ s with heap:=h' }) e c d 0x8 ⟨x,H,I1,ru,⟨rfl,fun ys hy=>by rw [I.uf hy hq];exact hx⟩,st',fun b hb=>(hf b hb).1⟩⟩
 done:=by
  intro X hP hw hK hc i pins s σ H E I hf st hg;subst hP hw hK;obtain ⟨xs,hq,hx⟩:=hg;obtain ⟨its,rv,p,hz⟩:=I.tuple hq;obtain ⟨f0,f1,f2,f3,f4,f5⟩:=hf it 0x4;have hl:=rv.length;exact wpAny_pyNext_tuple_end (I.ok.hd hc) st (show s.heap.IsTuple a its.toArray from p) (by simp;lia) fun h' eb=>⟨rfl,I.turned (t':=s.toks) (fun b o hb e=>eb b o hb e) f0 f1 f3 f4 f5⟩
 self:=fun _ _ _ _ _ st h=>wpAny_pyIter_tupleiter st h
theorem BR (it:Addr) (lo:Int) (n:Nat):Turn P w K tg (WD lo n) [it] it (fun i h=>IsRangeIter h it (lo+(i:Nat) * 1) ((n:Int) - (i:Nat)) 1) where
 mem:=by simp
 obj:=fun i h st b hb=>by
  have e:b=it:=by simpa using hb
  subst e;exact ⟨_,st,fun v z=>by
   have z':Data.fields _=Data.cell v:=z;cases z'⟩
 keep:=fun i h h' st k=>k it 0x4 _ st
 item:=by
  intro X hP hw hK hc i pins s σ H E I hf st hg;subst hP hw hK;obtain ⟨f0,f1,f2,f3,f4,f5⟩:=hf it 0x4;have W:=Walks.range (prog:=X.prog) (w:=X.w) (I.ok.hd hc) it lo 1 n;refine W.item i s _ _ hg st fun v h' tk hv st' kk=>?_;obtain ⟨t,rfl⟩:=hv;have I1:Inv X pins σ H { s with heap:=h',toks:=tk }:=I.turned (fun b o hb e=>kk b o (by simpa using hb) e) f0 f1 f3 f4 f5;refine ⟨_,rfl,Fo (s:={ s with heap:=h',toks:=tk }) (n:="range_iterator") st' rfl rfl 0x8 ⟨.int (lo+i),H,I1,⟨t,?_⟩,⟨rfl,rfl⟩,st',fun b hb=>(hf b hb).1⟩⟩;rw [Int.mul_one]
 done:=by
  intro X hP hw hK hc i pins s σ H E I hf st hg;subst hP hw hK;obtain ⟨f0,f1,f2,f3,f4,f5⟩:=hf it 0x4;exact wpAny_pyNext_range_end (I.ok.hd hc) st (by have:n<=i:=hg;lia) fun h' eb=>⟨rfl,I.turned (t':=s.toks) (fun b o hb e=>eb b o hb e) f0 f1 f3 f4 f5⟩
 self:=fun _ _ _ _ _ st h=>wpAny_pyIter_rangeiter st h
inductive Fp (K:PySem.W.Frag) (R:It->Hp->Prop) (x:V) (H1:Hp):Prop
 | mk (a:Addr) (_:x=.ref a) (_:(∃ xs,bf K H1 a xs)) (_:R (Vh K a) H1):Fp K R x H1
def a0g (K:PySem.W.Frag) (tl:TE):TI:=fun σ H R=>tl σ H fun x H1=>Fp K R x H1
theorem fX {l:Expr} (hl:PE X l tl):PI X tg l (a0g X.K tl):=by
 intro pins s σ H R I h;refine cB (hl pins s σ H _ I h) fun v s1 zq=>?_;obtain ⟨x,H1,I1,r1,q1⟩:=zq;obtain ⟨a,e,⟨xs,hq⟩,q⟩:=q1;subst e;cases r1;obtain ⟨its,rv,p,hz⟩:=I1.list hq;refine wpAny_pyIter_list p.isList ?_;refine ⟨s1.heap.objs.size,[s1.heap.objs.size],_,_,H1,rfl,I1.kept (t':=s1.toks) fun b o e=>Heap.get?_push_of_some _ e,uh a _,0x18,fun b hb=>?_,q⟩;have e:b=s1.heap.objs.size:=by simpa using hb
 subst e;exact I1.tQ 0x6 (I1.hok.fresh 0x6)
theorem Kv {R:It->Hp->Prop}{lo hi:Int}{t u v:Tok}{tk:Nat} (I:Inv X pins σ H s) (h1:-(2 ^ 62)<=lo) (h2:lo<2 ^ 62) (h3:-(2 ^ 62)<=hi) (h4:hi<2 ^ 62)
  (q:R (WD lo (hi - lo).toNat) H):wpAny 0x7 X.A (pyIter 0x23) (PIE X pins σ tg R) E { s with heap:=s.heap.push { cls:=.type "range",data:=.fields #[.int lo t,.int hi u,.int 1 v] },toks:=tk }:=by
 refine wpAny_pyIter_range (IsRange.new ..) (small_one h1 h2 h3 h4) ?_;have I1:Inv X pins σ H { s with heap:=s.heap.push { cls:=.type "range",data:=.fields #[.int lo t,.int hi u,.int 1 v] },toks:=tk }:=I.kept fun b o e=>Heap.get?_push_of_some _ e;refine ⟨(s.heap.push { cls:=.type "range",data:=.fields #[.int lo t,.int hi u,.int 1 v] }).objs.size,[(s.heap.push { cls:=.type "range",data:=.fields #[.int lo t,.int hi u,.int 1 v] }).objs.size],_,_,H,rfl,
  I1.kept (t':=tk) fun b o e=>Heap.get?_push_of_some _ e,BR _ lo (hi - lo).toNat,?_,fun b hb=>?_,q⟩
 ·have e1:lo+((0:Nat):Int) * 1=lo:=by simp
  have e2:(((hi - lo).toNat:Nat):Int) - ((0:Nat):Int)=Builtin.Range.rangeSize lo hi 1:=by rw [rangeSize_one];split <;> lia
  show IsRangeIter _ _ (lo+((0:Nat):Int) * 1) ((((hi - lo).toNat:Nat):Int) - ((0:Nat):Int)) 1
  rw [e1,e2];exact Heap.get?_push_size _ rfl
 ·have e:b=(s.heap.push { cls:=.type "range",data:=.fields #[.int lo t,.int hi u,.int 1 v] }).objs.size:=by simpa using hb
  subst e;exact I1.tQ 0x6 (I1.hok.fresh 0x6)
inductive Fq (R:It->Hp->Prop) (vs:List V) (H1:Hp):Prop
 | mk (j:Int) (_:vs=[.int j]) (_:-(2 ^ 62)<=j) (_:j<2 ^ 62) (_:R (WD 0 j.toNat) H1):Fq R vs H1
def a0h (ta:TA):TI:=fun σ H R=>ta σ H fun vs H1=>Fq R vs H1
theorem dh {a:Expr}{ta:TA} (hg:Gl X "range") (hm:X.mg "range"=none) (ha:PA X [a] ta) (hs:starEach [a] X.env=[(false,eval a X.env)]:=by rfl):PI X tg (.Call (.Name "range" p) [a] [] pos) (a0h ta):=by
 intro pins s σ H R I h;refine Call_ (jy I hg hm boot_range (PyProof.Rows.callWith_type1 (cB (ha pos pins s σ H _ I h) fun us s1 ⟨vs,H1,I1,r1,q1⟩=>?_) hs rfl));obtain ⟨j,e,q1,q2,q⟩:=q1;subst e;cases r1 with
 | cons r rr =>
  cases rr;obtain ⟨t,rfl⟩:=r;exact call_range_1 (Kv I1 0x1 0x1 q1 q2 (by simpa using q))
def tFor (wi:TI) (g:TG) (tb:TS):TS:=fun D σ H=>wi σ H fun J H1=>∃ W:Nat->Nat->St->Hp->Prop,(∃ m,W 0 m σ H1)/\∀ i m σ H,W i m σ H ->
 (J.stop i H/\D.nx σ H)\/(J.go i H/\∃ N:St->Hp->Prop,(∀ σ' H',N σ' H'->∃ m',m'<m/\W (i+1) m' σ' H')/\∀ x H',J.yN i H x H'->g x σ H' fun σ2 H2=>tb { D with nx:=N,ct:=N,bk:=D.nx } σ2 H2)
def qL (fp:List Addr) (h:Heap):List 0x11:=fp.filterMap fun b=>(h.get? b).map fun o=>(b,o)
theorem jA {o:Obj} (hb:b∈fp) (e:h.get? b=some o):(b,o)∈qL fp h:=List.mem_filterMap.mpr ⟨b,hb,by rw [e];rfl⟩
theorem IV {p:Addr×Obj} (hp:p∈qL fp h):p.1∈fp/\h.get? p.1=some p.2:=by
 obtain ⟨b,hb,e⟩:=List.mem_filterMap.mp hp;cases q:h.get? b with
 | none=>rw [q] at e;cases e
 | some o =>
  rw [q] at e;have e':(b,o)=p:=Option.some.inj e;subst e';exact ⟨hb,q⟩
theorem Inv.pinned (I:Inv X pins σ H s) (hf:∀ b∈fp,jX X pins H b) (ho:∀ b∈fp,∃ o,s.heap.get? b=some o/\∀ v,o.data≠.cell v):Inv X (pins++qL fp s.heap) σ H s :=
 I.Fg fun p hp=>(List.mem_append.mp hp).elim (fun z=>I.pin p (List.mem_append_right _ z)) fun z=>by
  obtain ⟨hb,e⟩:=IV z;obtain ⟨f0,f1,f2,_⟩:=hf p.1 hb;obtain ⟨o,e',d⟩:=ho p.1 hb;rw [e] at e';cases e';exact ⟨e,f0,f1,f2,d⟩
theorem Inv.n6 {pl:List 0x11} (I:Inv X (pins++pl) σ H s):Inv X pins σ H s:=I.Fg fun p hp=>I.pin p (List.mem_append_right _ (List.mem_append_left _ hp))
theorem iy {g:TG}{tb:TS} (hp:PassesOwn 0x7 X.A X.env X.xe) (hc:X.calm=true) (hi:PI X tg iter wi) (hg:PG X tg g) (hb:yD X body tb)
  (hs:∀ x,foldedSetIterable iter X.env x=pure x:=by intro _;rfl):PS X (.For tg iter body [] pos) (tFor wi g tb):=by
 intro pins s σ H D I h;refine wpAny_For (cB (hi pins s σ H _ I h) fun v s1 h1=>cB h1 fun itv s2 h2=>?_) hs;obtain ⟨it,fp,tn,J,H2,e,I2,T,st2,f2,W,⟨m0,w0⟩,turn⟩:=h2;subst e;have stat:∀ {H':Hp},(∀ b∈fp,H' b=none)->∀ b∈fp,jX X pins H' b:=fun hn b hb=>⟨hn b hb,(f2 b hb).2⟩;refine codeAny_forLoop_any (fun n s'=>∃ i σ' H',Inv X pins σ' H' s'/\tn i s'.heap/\(∀ b∈fp,H' b=none)/\W i n σ' H') ?_ m0 ⟨0,σ,H2,I2,st2,fun b hb=>(f2 b hb).1,w0⟩;rintro n s3 ⟨i,σ3,H3,I3,st3,fr3,w3⟩;rcases turn i n σ3 H3 w3 with ⟨stop,qn⟩ | ⟨go,N,hN,step⟩
 ·refine wpAny_passesOwn hp (cB (T.done X rfl rfl rfl hc i pins s3 σ3 H3 X.xe I3 (stat fr3) st3 stop) fun r s4 zq=>?_);obtain ⟨hr,I4⟩:=zq;subst hr;exact wpAny_execs_nil ⟨σ3,H3,I4,qn⟩
 ·refine wpAny_passesOwn hp (cB (T.item X rfl rfl rfl hc i pins s3 σ3 H3 X.xe I3 (stat fr3) st3 go) fun r s4 zq=>?_);obtain ⟨u,hr,h4⟩:=zq;subst hr;refine wpAny_passesOwn hp (cB h4 fun _ s5 zq=>?_);obtain ⟨x,H5,I5,r5,y5,WK,fr5⟩:=zq;have I5':=I5.pinned (stat fr5) (T.obj _ _ WK);refine wpAny_passesOwn hp (cB (hg _ s5 σ3 H5 x u _ I5' r5 (step x H5 y5)) fun _ s6 zq=>?_);obtain ⟨σ6,H6,I6,q6⟩:=zq;refine wpAny_passesOwn hp (cB (hb _ s6 σ6 H6 _ I6 q6) fun f s7 q7=>?_);have again:∀ {σ7:St}{H7:Hp},Inv X (pins++qL fp s5.heap) σ7 H7 s7->N σ7 H7->∃ m,m<n/\∃ i σ' H',Inv X pins σ' H' s7/\tn i s7.heap/\(∀ b∈fp,H' b=none)/\W i m σ' H':=fun {σ7 H7} I7 n7=>by
   obtain ⟨m',hm,w7⟩:=hN σ7 H7 n7;refine ⟨m',hm,i+1,σ7,H7,I7.n6,T.keep _ _ _ WK fun b hb o e=>(I7.pin (b,o) (List.mem_append_right _ (List.mem_append_right _ (jA hb e)))).1,fun b hb=>?_,w7⟩;obtain ⟨o,e,d⟩:=T.obj _ _ WK b hb;exact (I7.pin (b,o) (List.mem_append_right _ (List.mem_append_right _ (jA hb e)))).2.1
  cases f with
  | next=>obtain ⟨σ7,H7,I7,n7⟩:=q7;exact again I7 n7
  | cont=>obtain ⟨σ7,H7,I7,n7⟩:=q7;exact again I7 n7
  | brk=>obtain ⟨σ7,H7,I7,q7⟩:=q7;exact ⟨σ7,H7,I7.n6,q7⟩
  | ret v=>obtain ⟨x7,σ7,H7,I7,r7,q7⟩:=q7;exact ⟨x7,σ7,H7,I7.n6,r7,q7⟩
theorem qM {g:TG}{tb:TS}{D:Ends} (Pv:Nat->St->Hp->Prop) (h0:Pv 0 σ H) (hl:∀ i σ H,i<=xs.length->Pv i σ H->bf K H a xs)
  (hs:∀ i x σ H,xs[i]?=some x->Pv i σ H->g x σ H fun σ2 H2=>tb { D with nx:=Pv (i+1),ct:=Pv (i+1),bk:=D.nx } σ2 H2) (hd:∀ σ H,Pv xs.length σ H->D.nx σ H) :
  ∃ W:Nat->Nat->St->Hp->Prop,(∃ m,W 0 m σ H)/\∀ i m σ H,W i m σ H ->
   ((Vh K a).stop i H/\D.nx σ H)\/((Vh K a).go i H/\∃ N:St->Hp->Prop,(∀ σ' H',N σ' H'->∃ m',m'<m/\W (i+1) m' σ' H')/\∀ x H',(Vh K a).yN i H x H'->g x σ H' fun σ2 H2=>tb { D with nx:=N,ct:=N,bk:=D.nx } σ2 H2):=by
 refine ⟨fun i m σ H=>m=xs.length - i/\i<=xs.length/\Pv i σ H,⟨xs.length,by simp,Nat.zero_le _,h0⟩,?_⟩;rintro i m σ H ⟨rfl,hi,p⟩;have q:=hl i σ H hi p
 by_cases hlt:i<xs.length
 ·refine .inr ⟨⟨xs,xs[i],q,by simp [hlt]⟩,Pv (i+1),fun σ' H' p'=>⟨xs.length - (i+1),by lia,rfl,hlt,p'⟩,fun x H' y=>?_⟩;obtain ⟨e,y⟩:=y;subst e;exact hs i x σ _ (y xs q) p
 ·have e:i=xs.length:=by lia
  subst e;exact .inl ⟨⟨xs,q,Nat.le_refl _⟩,hd σ H p⟩
theorem gW {lo:Int}{g:TG}{tb:TS}{D:Ends} (Pv:Nat->St->Hp->Prop) (h0:Pv 0 σ H)
  (hs:∀ i σ H,i<n->Pv i σ H->g (.int (lo+i)) σ H fun σ2 H2=>tb { D with nx:=Pv (i+1),ct:=Pv (i+1),bk:=D.nx } σ2 H2) (hd:∀ σ H,Pv n σ H->D.nx σ H) :
  ∃ W:Nat->Nat->St->Hp->Prop,(∃ m,W 0 m σ H)/\∀ i m σ H,W i m σ H ->
   ((WD lo n).stop i H/\D.nx σ H)\/((WD lo n).go i H/\∃ N:St->Hp->Prop,(∀ σ' H',N σ' H'->∃ m',m'<m/\W (i+1) m' σ' H')/\∀ x H',(WD lo n).yN i H x H'->g x σ H' fun σ2 H2=>tb { D with nx:=N,ct:=N,bk:=D.nx } σ2 H2):=by
 refine ⟨fun i m σ H=>m=n - i/\i<=n/\Pv i σ H,⟨n,by simp,Nat.zero_le _,h0⟩,?_⟩;rintro i m σ H ⟨rfl,hi,p⟩
 by_cases hlt:i<n
 ·refine .inr ⟨hlt,Pv (i+1),fun σ' H' p'=>⟨n - (i+1),by lia,rfl,hlt,p'⟩,fun x H' y=>?_⟩;obtain ⟨e,y⟩:=y;subst e y;exact hs i σ _ hlt p
 ·have e:i=n:=by lia
  subst e;exact .inl ⟨Nat.le_refl _,hd σ H p⟩
abbrev R2:=V->V->Hp->VK->Prop
def jM (X:Cx) (f:Value->Value->Sem Value) (r:R2):Prop :=
 ∀ (pins:List 0x11) (s:Shared) (σ:St) (H:Hp) (x y:V) (v u:Value) (Q:VK),Inv X pins σ H s->RelV x v->RelV y u->r x y H Q ->
  wpAny 0x7 X.A (f v u) (EP X pins σ Q) X.xe s
def UnR (X:Cx) (f:Value->Sem Value) (r:V->Hp->VK->Prop):Prop :=
 ∀ (pins:List 0x11) (s:Shared) (σ:St) (H:Hp) (x:V) (v:Value) (Q:VK),Inv X pins σ H s->RelV x v->r x H Q ->
  wpAny 0x7 X.A (f v) (EP X pins σ Q) X.xe s
def dF (X:Cx) (f:Value) (r:List V->Hp->VK->Prop):Prop :=
 ∀ (pins:List 0x11) (s:Shared) (σ:St) (H:Hp) (xs:List V) (us:List Value) (Q:VK),Inv X pins σ H s->Vals xs us->r xs H Q ->
  wpAny 0x7 X.A (call f us) (EP X pins σ Q) X.xe s
def TruR (X:Cx) (r:V->Hp->(Bool->Hp->Prop)->Prop):Prop :=
 ∀ (pins:List 0x11) (s:Shared) (σ:St) (H:Hp) (x:V) (v:Value) (Q:Bool->Hp->Prop),Inv X pins σ H s->RelV x v->r x H Q ->
  wpAny 0x7 X.A (truthy v) (TP X pins σ Q) X.xe s
def Rt (r:R2) (ta tb:TE):TE:=fun σ H Q=>ta σ H fun x H1=>tb σ H1 fun y H2=>r x y H2 Q
def tUn (r:V->Hp->VK->Prop) (ta:TE):TE:=fun σ H Q=>ta σ H fun x H1=>r x H1 Q
inductive rI_X (C:Int->Int->Prop) (g:Int->Int->V) (x y:V) (H:Hp) (Q:VK):Prop
 | mk (i j:Int) (_:x=.int i) (_:y=.int j) (_:C i j) (_:Q (g i j) H):rI_X C g x y H Q
def rI (C:Int->Int->Prop) (g:Int->Int->V):R2:=fun x y H Q=>rI_X C g x y H Q
inductive Vi (g:Int->Int->V) (x y:V) (H:Hp) (Q:VK):Prop
 | mk (i j:Int) (_:x=.int i) (_:y=.int j) (_:Q (g i j) H):Vi g x y H Q
def WL (g:Int->Int->V):R2:=fun x y H Q=>Vi g x y H Q
inductive rU_X (g:Int->V) (x:V) (H:Hp) (Q:VK):Prop
 | mk (i:Int) (_:x=.int i) (_:Q (g i) H):rU_X g x H Q
def rU (g:Int->V):V->Hp->VK->Prop:=fun x H Q=>rU_X g x H Q
section
variable {a b c:Expr}{tc:TE}
theorem WM (ha:PE X a ta) (hb:PE X b tb) {R:V->V->Hp->Prop} (I:Inv X pins σ H s)
  (h:ta σ H fun x H1=>tb σ H1 fun y H2=>R x y H2) {f:Value->Value->Sem Value}
  (hf:∀ v u s2 x y H2,Inv X pins σ H2 s2->RelV x v->RelV y u->R x y H2->wpAny 0x7 X.A (f v u) Q X.xe s2) :
  wpAny 0x7 X.A (eval a X.env) (fun v s₁=>wpAny 0x7 X.A (eval b X.env) (fun u s₂=>wpAny 0x7 X.A (f v u) Q X.xe s₂) X.xe s₁) X.xe s:=by
 refine cB 0x2A fun v s1 zq=>?_;obtain ⟨x,H1,I1,r1,q1⟩:=zq;refine cB (hb pins s1 σ H1 _ I1 q1) fun u s2 zq=>?_;obtain ⟨y,H2,I2,r2,q2⟩:=zq;exact hf v u s2 x y H2 I2 r1 r2 q2
theorem aQ {op:Operator}{r:R2} (ho:jM X (binaryOp op) r) (ha:PE X a ta) (hb:PE X b tb):PE X (.BinOp a op b pos) (Rt r ta tb):=by
 intro pins s σ H Q I h;exact wpAny_BinOp (WM ha hb I h fun v u s2 x y H2 I2 rx ry q=>ho pins s2 σ H2 x y v u Q I2 rx ry q)
theorem Ft {op:UnaryOp}{r:V->Hp->VK->Prop} (ho:UnR X (unaryOp op) r) (ha:PE X a ta):PE X (.UnaryOp op a pos) (tUn r ta):=by
 intro pins s σ H Q I h;exact UnaryOp_ (cB 0x2A fun v s1 ⟨x,H1,I1,r1,q1⟩=>ho pins s1 σ H1 x v Q I1 r1 q1)
theorem opI {f:Value->Value->Sem Value}{C:Int->Int->Prop}{g:Int->Int->Int}
  (rule:∀ (i j:Int) (t u:Tok) (s:Shared) (Q:Value->Shared->Prop) (E:Value->Shared->Prop),C i j->Q (.int (g i j) s.toks) { s with toks:=s.toks+1 }->wpAny 0x7 X.A (f (.int i t) (.int j u)) Q E s) :
  jM X f (rI C fun i j=>.int (g i j)):=by
 intro pins s σ H x y v u Q I rx ry h;obtain ⟨i,j,rfl,rfl,hc,q⟩:=h;obtain ⟨t,rfl⟩:=rx;obtain ⟨t',rfl⟩:=ry;exact rule i j t t' s _ _ hc ⟨.int (g i j),H,I.tok _,⟨_,rfl⟩,q⟩
theorem opI0 {f:Value->Value->Sem Value}{g:Int->Int->Int}
  (rule:∀ (i j:Int) (t u:Tok) (s:Shared) (Q:Value->Shared->Prop) (E:Value->Shared->Prop),Q (.int (g i j) s.toks) { s with toks:=s.toks+1 }->wpAny 0x7 X.A (f (.int i t) (.int j u)) Q E s) :
  jM X f (WL fun i j=>.int (g i j)):=by
 intro pins s σ H x y v u Q I rx ry h;obtain ⟨i,j,rfl,rfl,q⟩:=h;obtain ⟨t,rfl⟩:=rx;obtain ⟨t',rfl⟩:=ry;exact rule i j t t' s _ _ ⟨.int (g i j),H,I.tok _,⟨_,rfl⟩,q⟩
theorem WQ {f:Value->Value->Sem Value}{g:Int->Int->Bool}
  (rule:∀ (i j:Int) (t u:Tok) (s:Shared) (Q:Value->Shared->Prop) (E:Value->Shared->Prop),Q (.bool (g i j)) s->wpAny 0x7 X.A (f (.int i t) (.int j u)) Q E s) :
  jM X f (WL fun i j=>.bl (g i j)):=by
 intro pins s σ H x y v u Q I rx ry h;obtain ⟨i,j,rfl,rfl,q⟩:=h;obtain ⟨t,rfl⟩:=rx;obtain ⟨t',rfl⟩:=ry;exact rule i j t t' s _ _ ⟨.bl (g i j),H,I,rfl,q⟩
def CDiv (i j:Int):Prop:=0<j/\j<1073741824
def CPow (i j:Int):Prop:=0<=j/\j<=1000000/\i.natAbs<2 ^ 64
def WR (i j:Int):Prop:=(-(2 ^ 64)<i/\i<2 ^ 64)\/(-(2 ^ 64)<j/\j<2 ^ 64)
theorem WR.ok {i j:Int} (h:WR i j):IntMulOk i j:=by
 rcases h with ⟨h1,h2⟩ | ⟨h1,h2⟩
 ·exact .of_left (intBits_le_64 h1 h2)
 ·exact .of_right (intBits_le_64 h1 h2)
theorem bZ:jM X (binaryOp .Add) (WL fun i j=>.int (i+j)):=opI0 fun _ _ _ _ _ _ _ q=>add_int q
theorem BW:jM X (binaryOp .Sub) (WL fun i j=>.int (i - j)):=opI0 fun _ _ _ _ _ _ _ q=>sub_int q
theorem gH:jM X (binaryOp .Mult) (rI WR fun i j=>.int (i * j)):=opI fun _ _ _ _ _ _ _ hc q=>mul_int q hc.ok
theorem pZ:jM X (binaryOp .FloorDiv) (rI CDiv fun i j=>.int (i / j)):=opI fun i j _ _ _ _ _ hc q=>by
 have h1:(0:Int)<j:=hc.1;have h2:j<1073741824:=hc.2;exact floordiv_int 0x1 (by rw [Int.fdiv_eq_ediv_of_nonneg i 0x1];exact q) (.inl (PyProof.noPylong_small 0x1))
theorem bO:jM X (binaryOp .Mod) (rI (fun _ j=>0<j) fun i j=>.int (i % j)):=opI fun i j _ _ _ _ _ hc q=>by
 have h1:(0:Int)<j:=hc;exact mod_int' 0x1 (by rw [Int.fmod_eq_emod_of_nonneg i 0x1];exact q)
theorem WT:jM X (binaryOp .Pow) (rI CPow fun i j=>.int (i ^ j.toNat)):=opI fun _ _ _ _ _ _ _ hc q=>pow_int_small hc.1 hc.2.1 hc.2.2 q
theorem unI {f:Value->Sem Value}{g:Int->Int}
  (rule:∀ (i:Int) (t:Tok) (s:Shared) (Q:Value->Shared->Prop) (E:Value->Shared->Prop),Q (.int (g i) s.toks) { s with toks:=s.toks+1 }->wpAny 0x7 X.A (f (.int i t)) Q E s) :
  UnR X f (rU fun i=>.int (g i)):=by
 intro pins s σ H x v Q I rx h;obtain ⟨i,rfl,q⟩:=h;obtain ⟨t,rfl⟩:=rx;exact rule i t s _ _ ⟨.int (g i),H,I.tok _,⟨_,rfl⟩,q⟩
theorem vZ:UnR X (unaryOp .USub) (rU fun i=>.int (-i)):=unI fun _ _ _ _ _ q=>neg_int q
def scal:V->V->Bool
 | .non,.non=>true | .non,.int _=>true | .int _,.non=>true | .non,.bl _=>true | .bl _,.non=>true | .non,.str _=>true | .str _,.non=>true
 | .int _,.int _=>true | .bl _,.bl _=>true | .str _,.str _=>true | .yC _,.yC _=>true
 | .int _,.str _=>true | .str _,.int _=>true | .bl _,.str _=>true | .str _,.bl _=>true
 | _,_=>false
def rEq:R2:=fun x y H Q=>scal x y=true/\Q (.bl (decide (x=y))) H
def rNe:R2:=fun x y H Q=>scal x y=true/\Q (.bl (!decide (x=y))) H
theorem Fv {i j:Int}:decide (V.int i=V.int j)=(i==j):=by
 rw [Bool.eq_iff_iff];simp
theorem Kw {i j:Bool}:decide (V.bl i=V.bl j)=(i==j):=by
 rw [Bool.eq_iff_iff];simp
theorem ni {i j:Str}:decide (V.str i=V.str j)=(i==j):=by
 rw [Bool.eq_iff_iff];simp
theorem Fw {i j:Array UInt8}:decide (V.yC i=V.yC j)=(i.toList==j.toList):=by
 rw [Bool.eq_iff_iff];cases i;cases j;simp
theorem bT {Q:VK}{k k':Bool} (I:Inv X pins σ H s) (q:Q (.bl k) H) (e:k=k'):EP X pins σ Q (.bool k') s:=by
 subst e;exact ⟨.bl k,H,I,rfl,q⟩
theorem cu:jM X (compareOp .Eq) rEq:=by
 intro pins s σ H x y v u Q I rx ry h;obtain ⟨hs,q⟩:=h;cases x with
 | non =>
  cases rx;cases y with
  | non=>cases ry;exact PySem.EqNone.eq_none_none (bT I q 0x4)
  | bl j=>cases ry;exact PySem.EqNone.eq_none_bool (bT I q 0x4)
  | int j=>obtain ⟨t',rfl⟩:=ry;exact PySem.EqNone.eq_none_int (bT I q 0x4)
  | str j=>obtain ⟨t',rfl⟩:=ry;exact PySem.EqNone.eq_none_str (bT I q 0x4)
  | _=>exact absurd 0x2B Bool.false_ne_true
 | bl i =>
  cases rx;cases y with
  | non=>cases ry;exact PySem.EqNone.eq_bool_none (bT I q 0x4)
  | bl j=>cases ry;exact eq_bool (bT I q Kw)
  | str j=>obtain ⟨t',rfl⟩:=ry;exact PySem.EqMixed.eq_bool_str (bT I q 0x4)
  | _=>exact absurd 0x2B Bool.false_ne_true
 | int i =>
  obtain ⟨t,rfl⟩:=rx;cases y with
  | non=>cases ry;exact PySem.EqNone.eq_int_none (bT I q 0x4)
  | int j=>obtain ⟨t',rfl⟩:=ry;exact eq_int (bT I q Fv)
  | str j=>obtain ⟨t',rfl⟩:=ry;exact PySem.EqMixed.eq_int_str (bT I q 0x4)
  | _=>exact absurd 0x2B Bool.false_ne_true
 | str i =>
  obtain ⟨t,rfl⟩:=rx;cases y with
  | non=>cases ry;exact PySem.EqNone.eq_str_none (bT I q 0x4)
  | bl j=>cases ry;exact PySem.EqMixed.eq_str_bool (bT I q 0x4)
  | int j=>obtain ⟨t',rfl⟩:=ry;exact PySem.EqMixed.eq_str_int (bT I q 0x4)
  | str j=>obtain ⟨t',rfl⟩:=ry;exact eq_str (bT I q ni)
  | _=>exact absurd 0x2B Bool.false_ne_true
 | yC i =>
  obtain ⟨t,rfl⟩:=rx;cases y with
  | yC j=>obtain ⟨t',rfl⟩:=ry;exact PySem.W.eq_bytes (bT I q Fw)
  | _=>exact absurd 0x2B Bool.false_ne_true
 | _=>cases y <;> exact absurd 0x2B Bool.false_ne_true
theorem mq:jM X (compareOp .NotEq) rNe:=by
 intro pins s σ H x y v u Q I rx ry h;obtain ⟨hs,q⟩:=h;cases x with
 | non =>
  cases rx;cases y with
  | non=>cases ry;exact PySem.EqNone.ne_none_none (bT I q 0x4)
  | bl j=>cases ry;exact PySem.EqNone.ne_none_bool (bT I q 0x4)
  | int j=>obtain ⟨t',rfl⟩:=ry;exact PySem.EqNone.ne_none_int (bT I q 0x4)
  | str j=>obtain ⟨t',rfl⟩:=ry;exact PySem.EqNone.ne_none_str (bT I q 0x4)
  | _=>exact absurd 0x2B Bool.false_ne_true
 | bl i =>
  cases rx;cases y with
  | non=>cases ry;exact PySem.EqNone.ne_bool_none (bT I q 0x4)
  | bl j=>cases ry;exact ne_bool (bT I q (congrArg not Kw))
  | str j=>obtain ⟨t',rfl⟩:=ry;exact PySem.EqMixed.ne_bool_str (bT I q 0x4)
  | _=>exact absurd 0x2B Bool.false_ne_true
 | int i =>
  obtain ⟨t,rfl⟩:=rx;cases y with
  | non=>cases ry;exact PySem.EqNone.ne_int_none (bT I q 0x4)
  | int j=>obtain ⟨t',rfl⟩:=ry;exact ne_int (bT I q (congrArg not Fv))
  | str j=>obtain ⟨t',rfl⟩:=ry;exact PySem.EqMixed.ne_int_str (bT I q 0x4)
  | _=>exact absurd 0x2B Bool.false_ne_true
 | str i =>
  obtain ⟨t,rfl⟩:=rx;cases y with
  | non=>cases ry;exact PySem.EqNone.ne_str_none (bT I q 0x4)
  | bl j=>cases ry;exact PySem.EqMixed.ne_str_bool (bT I q 0x4)
  | int j=>obtain ⟨t',rfl⟩:=ry;exact PySem.EqMixed.ne_str_int (bT I q 0x4)
  | str j=>obtain ⟨t',rfl⟩:=ry;exact ne_str (bT I q (congrArg not ni))
  | _=>exact absurd 0x2B Bool.false_ne_true
 | yC i =>
  obtain ⟨t,rfl⟩:=rx;cases y with
  | yC j=>obtain ⟨t',rfl⟩:=ry;exact PySem.W.ne_bytes (bT I q (congrArg not Fw))
  | _=>exact absurd 0x2B Bool.false_ne_true
 | _=>cases y <;> exact absurd 0x2B Bool.false_ne_true
theorem a0i:jM X (compareOp .Lt) (WL fun i j=>.bl (decide (i<j))):=WQ fun _ _ _ _ _ _ _ q=>lt_int q
theorem pB:jM X (compareOp .LtE) (WL fun i j=>.bl (decide (i<=j))):=WQ fun _ _ _ _ _ _ _ q=>le_int q
theorem a0j:jM X (compareOp .Gt) (WL fun i j=>.bl (decide (j<i))):=WQ fun _ _ _ _ _ _ _ q=>gt_int q
theorem IW:jM X (compareOp .Lt) (fun x y H Q=>∃ i j,x=.str i/\y=.str j/\Q (.bl (decide (i.cps.toList<j.cps.toList))) H):=by
 intro pins s σ H x y v u Q I rx ry h;obtain ⟨i,j,rfl,rfl,q⟩:=h;obtain ⟨t,rfl⟩:=rx;obtain ⟨t',rfl⟩:=ry;exact lt_str (bT I q rfl)
theorem oF:jM X (compareOp .In) (fun x y H Q=>∃ i j,x=.str i/\y=.str j/\Q (.bl (!(Builtin.Str.occurrences j i 0 j.length 1).isEmpty)) H):=by
 intro pins s σ H x y v u Q I rx ry h;obtain ⟨i,j,rfl,rfl,q⟩:=h;obtain ⟨t,rfl⟩:=rx;obtain ⟨t',rfl⟩:=ry;exact in_str (bT I q rfl)
theorem aZ (b:Expr)  (h:op≠.In:=by decide) (h2:op≠.NotIn:=by decide):behindInMarks op b=false:=by
 have e1:(op==CmpOp.In)=false:=by cases op <;> first | rfl | exact absurd rfl h
 have e2:(op==CmpOp.NotIn)=false:=by cases op <;> first | rfl | exact absurd rfl h2
 cases b <;> simp [behindInMarks,e1,e2]
theorem fB {r:R2} (ho:jM X (compareOp op) r) (ha:PE X a ta) (hb:PE X b tb) (hm:behindInMarks op b=false):PE X (.Compare a [op] [b] pos) (Rt r ta tb):=by
 intro pins s σ H Q I h;exact wpAny_Compare1 (WM ha hb I h fun v u s2 x y H2 I2 rx ry q=>ho pins s2 σ H2 x y v u Q I2 rx ry q) hm
inductive Fx (Q:Bool->Hp->Prop) (x:V) (H':Hp):Prop
 | mk (k:Bool) (_:x=.bl k) (_:Q k H'):Fx Q x H'
def Ky (t:TE):TT:=fun σ H Q=>t σ H fun x H'=>Fx Q x H'
theorem aN {r:R2} (ho:jM X (compareOp op) r) (ha:PE X a ta) (hb:PE X b tb) (hm:behindInMarks op b=false):PT X (.Compare a [op] [b] pos) (Ky (Rt r ta tb)):=by
 intro pins s σ H Q I h;refine wpAny_isTrue_Compare1 (cB 0x2A fun v s1 ⟨x,H1,I1,r1,q1⟩=>cB (hb pins s1 σ H1 _ I1 q1) fun u s2 ⟨y,H2,I2,r2,q2⟩ =>
  cB (ho pins s2 σ H2 x y v u _ I2 r1 r2 q2) fun c s3 ⟨z,H3,I3,r3,k,e,q3⟩=>?_) hm
 subst e;cases r3;exact wpAny_truthy_bool ⟨H3,I3,q3⟩
inductive yO (r':R2) (tc:TE) (σ:L2.St) (Q:VK) (y z:V) (H3:Hp):Prop
 | mk (k:Bool) (_:z=.bl k) (_:(if k=true then tc σ H3 fun w' H4=>r' y w' H4 Q else Q (.bl false) H3)):yO r' tc σ Q y z H3
def Kz (r r':R2) (ta tb tc:TE):TE:=fun σ H Q=>ta σ H fun x H1=>tb σ H1 fun y H2=>r x y H2 fun z H3=>yO r' tc σ Q y z H3
theorem qN {op':CmpOp}{r r':R2} (ho:jM X (compareOp op) r) (ho':jM X (compareOp op') r') (ha:PE X a ta) (hb:PE X b tb) (hc:PE X c tc)
  (hm:lastMarks [op,op'] [b,c]=false:=by with_unfolding_all rfl):PE X (.Compare a [op,op'] [b,c] pos) (Kz r r' ta tb tc):=by
 intro pins s σ H Q I h;refine Compare_chain (cB 0x2A fun v s1 ⟨x,H1,I1,r1,q1⟩=>chain_link (cB (hb pins s1 σ H1 _ I1 q1) fun u s2 ⟨y,H2,I2,r2,q2⟩ =>
  cB (ho pins s2 σ H2 x y v u _ I2 r1 r2 q2) fun d s3 ⟨z,H3,I3,r3,k,e,q3⟩=>?_)) hm
 subst e;cases r3;refine wpAny_truthy_bool ?_;cases k with
 | false=>exact ite_ff ⟨.bl false,H3,I3,rfl,q3⟩
 | true=>exact ite_tt (chain_last (cB (hc pins s3 σ H3 _ I3 q3) fun w' s4 ⟨z',H4,I4,r4,q4⟩=>ho' pins s4 σ H4 y z' u w' Q I4 r2 r4 q4))
theorem KC {op':CmpOp}{r r':R2} (ho:jM X (compareOp op) r) (ho':jM X (compareOp op') r') (ha:PE X a ta) (hb:PE X b tb) (hc:PE X c tc)
  (hm:lastMarks [op,op'] [b,c]=false:=by with_unfolding_all rfl):PT X (.Compare a [op,op'] [b,c] pos) (Ky (Kz r r' ta tb tc)):=by
 intro pins s σ H Q I h;refine isTrue_chain (cB 0x2A fun v s1 ⟨x,H1,I1,r1,q1⟩=>test_link (cB (hb pins s1 σ H1 _ I1 q1) fun u s2 ⟨y,H2,I2,r2,q2⟩ =>
  cB (ho pins s2 σ H2 x y v u _ I2 r1 r2 q2) fun d s3 ⟨z,H3,I3,r3,k,e,q3⟩=>?_)) hm
 subst e;cases r3;refine wpAny_truthy_bool ?_;cases k with
 | false =>
  obtain ⟨k',e',q'⟩:=q3;cases e';exact ite_ff ⟨H3,I3,q'⟩
 | true =>
  refine ite_tt (test_last (cB (hc pins s3 σ H3 _ I3 q3) fun w' s4 ⟨z',H4,I4,r4,q4⟩=>cB (ho' pins s4 σ H4 y z' u w' _ I4 r2 r4 q4) fun d' s5 zq=>?_));obtain ⟨z2,H5,I5,r5,k2,e2,q5⟩:=zq;subst e2;cases r5;exact wpAny_truthy_bool ⟨H5,I5,q5⟩
def TruV (K:PySem.W.Frag) (x:V) (H:Hp) (k:Bool):Prop :=
 match x with
 | .non=>k=false
 | .bl b=>k=b
 | .int i=>k=(i != 0)
 | .str y=>y.length<=sizeLine/\k=((y.length:Int) != 0)
 | .yC y=>y.size<=sizeLine/\k=((y.size:Int) != 0)
 | .ref p=>(∃ xs,bf K H p xs/\k=!xs.isEmpty)\/(∃ xs,bF K H p xs/\k=!xs.isEmpty)\/∃ kvs,H p=some (.dK kvs)/\k=!kvs.isEmpty
 | _=>False
theorem BX {κ:Type}{kvs:List (κ×V)}{vs:List (κ×Value)} (r:KV kvs vs):(!vs.isEmpty)=!kvs.isEmpty:=by
 cases r <;> rfl
theorem qO (r:Vals xs its):(!its.toArray.isEmpty)=!xs.isEmpty:=by
 cases r <;> simp
theorem mO:(sizeLine:Nat)<2 ^ 63:=by rw [sizeLine_eq];decide
theorem WW:TruR X (fun x H Q=>∃ k,TruV X.K x H k/\Q k H):=by
 intro pins s σ H x v Q I rx h;obtain ⟨k,e,q⟩:=h;have hl:=mO;have hs:sizeLine=16777216:=sizeLine_eq;cases x with
 | non =>
  cases rx;have e':k=false:=e;subst e';exact truthy_none ⟨H,I,q⟩
 | bl b =>
  cases rx;have e':k=b:=e;subst e';exact wpAny_truthy_bool ⟨H,I,q⟩
 | int i =>
  obtain ⟨t,rfl⟩:=rx;have e':k=(i != 0):=e;subst e';exact PySem.P.truthy_int ⟨H,I,q⟩
 | str y =>
  obtain ⟨t,rfl⟩:=rx;obtain ⟨hy,e'⟩:y.length<=sizeLine/\k=((y.length:Int) != 0):=e;subst e';exact PySem.P.truthy_str 0x1 ⟨H,I.tok _,q⟩
 | yC y =>
  obtain ⟨t,rfl⟩:=rx;obtain ⟨hy,e'⟩:y.size<=sizeLine/\k=((y.size:Int) != 0):=e;subst e';exact PySem.W.truthy_bytes 0x1 ⟨H,I.tok _,q⟩
 | ref p =>
  cases rx;have e':(∃ xs,bf X.K H p xs/\k=!xs.isEmpty)\/(∃ xs,bF X.K H p xs/\k=!xs.isEmpty)\/∃ kvs,H p=some (.dK kvs)/\k=!kvs.isEmpty:=e;rcases e' with ⟨xs,hx,e'⟩ | ⟨xs,hx,e'⟩ | ⟨kvs,hx,e'⟩
  ·subst e';obtain ⟨its,r,pl,hz⟩:=I.list hx;have hlen:=r.length;exact wpAny_truthy_list pl.isList (by simp only [List.size_toArray];lia) ⟨H,I.tok _,by rw [qO r];exact q⟩
  ·subst e';obtain ⟨its,r,pl,hz⟩:=I.tuple hx;have hlen:=r.length;exact truthy_tuple pl (by simp only [List.size_toArray];lia) ⟨H,I.tok _,by rw [qO r];exact q⟩
  ·subst e';obtain ⟨hz,hS,vs,r,m⟩:kvs.length<=sizeLine/\(p==sysModules)=false/\∃ vs,KV kvs vs/\s.heap.DictOf (bJ X.prog X.w) p vs:=I.hok p _ hx;have hlen:kvs.length=vs.length:=Paired.length r;exact wpAny_truthy_dict hS m 0x1 ⟨H,I.tok _,by rw [BX r];exact q⟩
 | _=>exact (show False from e).elim
theorem yP (ha:PE X a ta) (he:∀ whole,isTrue a X.env whole=(do let v <- whole;standAt a.pos;holding [v] (truthy v))) :
  PT X a (fun σ H Q=>ta σ H fun x H'=>∃ k,TruV X.K x H' k/\Q k H'):=by
 intro pins s σ H Q I h;exact isTrue_plain (cB 0x2A fun v s1 ⟨x,H1,I1,r1,q1⟩=>WW pins s1 σ H1 x v Q I1 r1 q1) (he _)
theorem qP:jM X (binaryOp .Add) (fun x y H Q=>∃ i j,x=.str i/\y=.str j/\i.length+j.length<=sizeLine/\Q (.str (i++j)) H):=by
 intro pins s σ H x y v u Q I rx ry h;obtain ⟨i,j,rfl,rfl,hz,q⟩:=h;obtain ⟨t,rfl⟩:=rx;obtain ⟨t',rfl⟩:=ry;exact add_str (fun t' tk=>⟨.str (i++j),H,I.tok _,⟨_,rfl⟩,q⟩) hz
theorem vals1 {x:V} (r:Vals [x] us):∃ u,us=[u]/\RelV x u:=by
 cases r with
 | cons r1 r2=>cases r2;exact ⟨_,rfl,r1⟩
theorem vals2 {x:V} (r:Vals [x,y] us):∃ u w',us=[u,w']/\RelV x u/\RelV y w':=by
 cases r with
 | cons r1 r2 =>
  cases r2 with
  | cons r3 r4=>cases r4;exact ⟨_,_,rfl,r1,r3⟩
theorem J0 (hc:X.calm=true):dF X (.builtin "max") (fun xs H Q=>∃ i j,xs=[.int i,.int j]/\Q (.int (if j > i then j else i)) H):=by
 intro pins s σ H xs us Q I r h;obtain ⟨i,j,rfl,q⟩:=h;obtain ⟨u,w',rfl,⟨t,rfl⟩,⟨t',rfl⟩⟩:=vals2 r;refine max_two_ints (I.ok.hd hc) fun h' tk k=>⟨_,H,I.kept k,?_,q⟩
 by_cases hj:j > i
 ·rw [if_pos hj,if_pos hj];exact ⟨_,rfl⟩
 ·rw [if_neg hj,if_neg hj];exact ⟨_,rfl⟩
theorem oG:dF X (.type "int") (fun xs H Q=>(∃ i,xs=[.int i]/\Q (.int i) H)\/∃ k,xs=[.bl k]/\Q (.int (if k then 1 else 0)) H):=by
 intro pins s σ H xs us Q I r h;rcases h with ⟨i,rfl,q⟩ | ⟨k,rfl,q⟩
 ·obtain ⟨u,rfl,t,rfl⟩:=vals1 r;exact call_int_int ⟨.int i,H,I,⟨_,rfl⟩,q⟩
 ·obtain ⟨u,rfl,r1⟩:=vals1 r;cases r1;exact call_int_bool ⟨.int (if k then 1 else 0),H,I.tok _,⟨_,rfl⟩,q⟩
end
structure BZ (h:Heap) (x dx C:Addr) (mA:Str->Option Value):Prop where
 obj:h.get? x=some (PySem.W.instObj C dx)
 ns:h.Ns1 dx mA
 ne:dx≠x
theorem J1 (n:h.Ns1 dx mA):∃ od,h.get? dx=some od/\∀ name,PySem.W.lookIn name od=some (mA name):=by
 obtain ⟨o,es,ep,ho,hd,hk,_,hm⟩:=n;refine ⟨o,ho,fun name=>?_⟩;have e:=hm name;unfold nsFind findBy at e;rw [<- Array.find?_toList] at e;unfold PySem.W.lookIn;rw [hd];dsimp only
 split
 ·rename_i y q
  rw [q] at e;exact congrArg some e
 ·rename_i q
  rw [q] at e;have a:es.toList.any (·.refKey)=false:=by
   rw [List.any_eq_false];intro y hy;obtain ⟨z,t,hkey⟩:=hk y (Array.mem_toList_iff.mp hy);simp [DictEntry.refKey,hkey]
  have a':¬ es.toList.any (·.refKey)=true:=by rw [a];exact Bool.false_ne_true
  rw [if_neg a'];exact congrArg some e
theorem BZ.look {x:Addr} (I:BZ h x dx C mA):∃ od,PySem.W.InstAt h x (PySem.W.instObj C dx) C (some od)/\∀ name,PySem.W.lookIn name od=some (mA name) :=
 let ⟨od,ho,hl⟩:=J1 I.ns
 ⟨od,⟨I.obj,rfl,rfl,ho⟩,hl⟩
section
variable {x f:Addr}{v:Value}
theorem get_map {expr:Bool} (X:K.In s.heap) (I:BZ s.heap x dx C mA) (hg:PySem.W.plainGet K C name=true) (hh:PySem.W.hasDictIn K C=true)
  (ha:PySem.W.findIn K (.ref C) name=some none) (hv:mA name=some v) (hv':PySem.W.handedIn v=true) (h:Q v { s with toks:=s.toks+1 }) :
  wpAny 0xB A (getAttr (.ref x) name expr) Q E s:=by
 obtain ⟨od,J,hl⟩:=I.look;exact PySem.W.get_value X J (PySem.W.plainGet_of hg).1 (PySem.W.findObj_own hh ha rfl (by rw [hl,hv])) hv' h
theorem KH {Q:Value×List Value->Shared->Prop} (X:K.In s.heap) (I:BZ s.heap x dx C mA) (hg:PySem.W.plainGet K C name=true)
  (hf:PySem.W.findIn K (.ref C) name=some (some (.ref f))) (ht:PySem.W.isFn K (.ref f)=true) (hv:mA name=none) (h:Q (.ref f,[.ref x]) s) :
  wpAny 0xB A (getMethod (.ref x) name pl) Q E s:=by
 obtain ⟨od,J,hl⟩:=I.look;exact PySem.W.method_fn X J (PySem.W.plainGet_of hg).1 (PySem.W.plainGet_of hg).2 hf (beq_iff_eq.mp ht) (by show (PySem.W.lookIn name od).map (·.isSome)=some false;rw [hl,hv];rfl) h
theorem RW {ns:List Str}{Q:Unit->Shared->Prop} (X:K.In s.heap) (I:BZ s.heap x dx C mA)
  (hs:PySem.W.findIn K (.ref C) "__setattr__"=some (some (.builtin "object.__setattr__"))) (hp:PySem.W.plainOver K C=true) (ht:PySem.W.takerIn K C name=some none) (hh:PySem.W.hasDictIn K C=true)
  (hw:PySem.Within mA ns) (hsz:ns.length<=sizeLine)
  (h:∀ h',BZ h' x dx C (fun y=>if y=name then some v else mA y)->Heap.SameBut dx s.heap h'->Q () { s with heap:=h',toks:=s.toks+2 }) :
  wpAny 0xB A (setAttr (.ref x) name v) Q E s:=by
 obtain ⟨od,J,hl⟩:=I.look;refine PySem.W.set_plain X J hs (PySem.W.osa_open (s:={ s with toks:=s.toks+1 }) (r:=none) X J hp ht fun b=>?_);obtain ⟨cd,hc,hd'⟩:=PySem.W.any_some hh;have hx:s.heap.get? x=some ⟨.ref C,some dx,.plain,#[]⟩:=I.obj;refine wpAny_bind (wpAny_pure (wpAny_bind (wpAny_bind (wpAny_loadPart hx (wpAny_bind (PySem.W.Looks.here (s:={ s with toks:=s.toks+1 }) (PySem.W.looks_clsIn X hc) ?_))))));rw [hd'];refine wpAny_pure (a:=some dx) (wpAny_bind (wpAny_pure (wpAny_bind ?_)));refine wpAny_nsSet1 (s:={ s with toks:=s.toks+1 }) I.ns fun h' hn2 hs2=>?_;obtain ⟨oD,esD,epD,hoD,hdD,hcD⟩:=hn2.count (PySem.Within.cons name v hw);refine wpAny_bind (wpAny_lookBehind hoD (by rw [hdD];exact pastItsLine_dict (Nat.le_trans hcD (by rw [jT];lia))) ?_);exact wpAny_pure (h _ ⟨(hs2.2 _ (Ne.symm I.ne)).trans I.obj,hn2,I.ne⟩ hs2)
theorem KJ {R:Result->Shared->Prop}{vs:List Value} (X:K.In s.heap) (hm:PySem.W.makesIn K C=true)
  (hi:PySem.W.findIn K (.ref C) "__init__"=some (some (.ref f))) (hf:PySem.W.typeIn K (.ref f)=some (.type "function"))
  (h:codeAny 0xB (A.under (.builtin "type.__call__" ⟨.ref C::vs,kw⟩)) (.call (.ref f) ⟨.ref 0xF::vs,kw⟩) (PySem.W.InitBack 0xF R)
   { s with heap:=(s.heap.push PySem.W.emptyDict).push (PySem.W.instObj C s.heap.objs.size) }) :
  codeAny 0xB A (.call (.ref C) ⟨vs,kw⟩) R s:=by
 obtain ⟨hh,g,d,t,os⟩:=s;exact PySem.W.make_core (PySem.W.makes_of X hm) (PySem.W.looks_findIn X hi) (fun self=>PySem.W.bind_fn X self hf) (.inl rfl) h
end
def jQ (f:Str) (v:V):List (Str×V)->List (Str×V)
 | []=>[(f,v)]
 | (g,x)::r=>if g=f then (g,v)::r else (g,x)::jQ f v r
theorem pC (f g:Str) (v:V):∀ fs:List (Str×V),(jQ f v fs).lookup g=if g=f then some v else fs.lookup g
 | []=>by
  show List.lookup g [(f,v)]=_
  by_cases h:g=f
  ·have hb:(g==f)=true:=beq_iff_eq.mpr h;simp only [List.lookup,hb,if_pos h]
  ·have hb:(g==f)=false:=beq_eq_false_iff_ne.mpr h;simp only [List.lookup,hb,if_neg h]
 | (k,x)::r=>by
  have ih:=pC f g v r;rw [show jQ f v ((k,x)::r)=(if k=f then (k,v)::r else (k,x)::jQ f v r) from rfl]
  by_cases hk:k=f
  ·rw [if_pos hk]
   by_cases h:g=k
   ·have hb:(g==k)=true:=beq_iff_eq.mpr h;simp only [List.lookup,hb,if_pos (h.trans hk)]
   ·have hb:(g==k)=false:=beq_eq_false_iff_ne.mpr h;simp only [List.lookup,hb,if_neg (fun e:g=f=>h (e.trans hk.symm))]
  ·rw [if_neg hk]
   by_cases h:g=k
   ·have hb:(g==k)=true:=beq_iff_eq.mpr h;simp only [List.lookup,hb,if_neg (fun e:g=f=>hk (h.symm.trans e))]
   ·have hb:(g==k)=false:=beq_eq_false_iff_ne.mpr h;simp only [List.lookup,hb];exact ih
theorem oH (f:Str) (v:V):∀ fs:List (Str×V),f∈(jQ f v fs).map (·.1)/\∀ g,g∈fs.map (·.1)->g∈(jQ f v fs).map (·.1)
 | []=>⟨by simp [jQ],fun g h=>by simp at h⟩
 | (k,x)::r=>by
  obtain ⟨i1,i2⟩:=oH f v r;rw [show jQ f v ((k,x)::r)=(if k=f then (k,v)::r else (k,x)::jQ f v r) from rfl]
  by_cases hk:k=f
  ·rw [if_pos hk];subst hk;exact ⟨by simp,fun g h=>by simpa using h⟩
  ·rw [if_neg hk];refine ⟨?_,fun g h=>?_⟩
   ·rw [List.map_cons];exact jw _ i1
   ·rw [List.map_cons] at h ⊢;rcases List.mem_cons.mp h with e | e
    ·exact List.mem_cons.mpr (.inl e)
    ·exact jw _ (i2 g e)
theorem pD (f:Str) (v:V):∀ fs:List (Str×V),(jQ f v fs).length<=fs.length+1
 | []=>by simp [jQ]
 | (k,x)::r=>by
  have ih:=pD f v r;rw [show jQ f v ((k,x)::r)=(if k=f then (k,v)::r else (k,x)::jQ f v r) from rfl]
  by_cases hk:k=f
  ·rw [if_pos hk,jT,jT];lia
  ·rw [if_neg hk,jT,jT];lia
theorem jc.some_of {o:Option Value} (r:jc (some v) o):∃ u,o=some u/\RelV v u:=by
 cases o with
 | none=>exact (show False from r).elim
 | some u=>exact ⟨u,rfl,r⟩
theorem jc.none_of {o:Option Value} (r:jc none o):o=none:=by
 cases o with
 | none=>rfl
 | some u=>exact (show False from r).elim
theorem J2 (r:RelV v u):PySem.W.handedIn u=true:=by
 cases v with
 | non=>cases (show u=Value.none from r);rfl
 | bl b=>cases (show u=Value.bool b from r);rfl
 | int i=>obtain ⟨t,e⟩:=(show ∃ t,u=Value.int i t from r);cases e;rfl
 | str x=>obtain ⟨t,e⟩:=(show ∃ t,u=Value.str x t from r);cases e;rfl
 | yC b=>obtain ⟨t,e⟩:=(show ∃ t,u=Value.bytes b t from r);cases e;rfl
 | flt b=>obtain ⟨t,e⟩:=(show ∃ t,u=Value.float b t from r);cases e;rfl
 | ref a=>cases (show u=Value.ref a from r);rfl
 | ty n=>cases (show u=Value.type n from r);rfl
section
variable {fs fs':List (Str×V)}
theorem qb (hok:jP P w H h) (e:H a=some (.ins C dx fs)):∃ mA,BZ h a dx C mA/\(∀ f,jc (fs.lookup f) (mA f))/\PySem.Within mA (fs.map (·.1))/\fs.length<=1000/\H dx=some (.own a):=by
 obtain ⟨d,z,ne,ob,mA,n,r,q⟩:=(show cj P w H h a (.ins C dx fs) from hok a _ e)
 exact ⟨mA,⟨ob,n,ne⟩,r,q,z,d⟩
end
structure Cls (K:PySem.W.Frag) (C:Addr):Prop where
 pg:PySem.W.plainGet K C Str.empty=true
 hd:PySem.W.hasDictIn K C=true
 po:PySem.W.plainOver K C=true
 sa:PySem.W.findIn K (.ref C) "__setattr__"=some (some (.builtin "object.__setattr__"))
theorem Cls.get (c:Cls K C) (f:Str):PySem.W.plainGet K C f=true:=c.pg
def iz (K:PySem.W.Frag) (C:Addr) (f:Str):Prop:=PySem.W.findIn K (.ref C) f=some none
theorem iz.taker {f:Str} (n:iz K C f):PySem.W.takerIn K C f=some none:=by
 unfold PySem.W.takerIn;rw [show PySem.W.findIn K (.ref C) f=some none from n]
 rfl
structure Con (K:PySem.W.Frag) (C:Addr) (f:Str) (v:V) (u:Value):Prop where
 at_:PySem.W.findIn K (.ref C) f=some (some u)
 rel:RelV v u
 get:PySem.W.specialIn K u "__get__"=some none
 cp:PySem.W.copiedNames.contains f=false
structure Meth (K:PySem.W.Frag) (C:Addr) (m:Str) (f:Addr):Prop where
 at_:PySem.W.findIn K (.ref C) m=some (some (.ref f))
 fn:PySem.W.isFn K (.ref f)=true
 kp:PySem.W.keepIn K (.ref f)=true
section
variable {fs:List (Str×V)}{f:Str}
theorem Ca {b:Bool} (I:Inv X pins σ H s) (e:H a=some (.ins C dx fs)) (c:Cls X.K C) (n:iz X.K C f) (l:fs.lookup f=some v)
  (h:∀ u s',Inv X pins σ H s'->RelV v u->Q u s'):wpAny 0x7 A (getAttr (.ref a) f b) Q E s:=by
 obtain ⟨mA,O,r,_,_,_⟩:=qb I.hok e;obtain ⟨u,hu,ru⟩:=jc.some_of (v:=v) (o:=mA f) (by rw [<- l];exact r f);exact get_map I.mj O (c.get f) c.hd n hu (J2 ru) (h u _ (I.tok _) ru)
theorem qQ {m:Str}{g:Addr}{Q:Value×List Value->Shared->Prop} (I:Inv X pins σ H s) (e:H a=some (.ins C dx fs)) (c:Cls X.K C) (k:Meth X.K C m g) (l:fs.lookup m=none)
  (h:Q (.ref g,[.ref a]) s):wpAny 0x7 A (getMethod (.ref a) m pl) Q E s:=by
 obtain ⟨mA,O,r,_,_,_⟩:=qb I.hok e;have hn:mA m=none:=jc.none_of (by rw [<- l];exact r m);exact KH I.mj O (c.get m) k.at_ k.fn hn h
theorem Cd {Q:Unit->Shared->Prop} (I:Inv X pins σ H s) (e:H a=some (.ins C dx fs)) (c:Cls X.K C) (n:iz X.K C f) (hl:fs.length<1000) (ry:RelV y u)
  (h:∀ s',Inv X pins σ (upd H a (.ins C dx (jQ f y fs))) s'->Q () s'):wpAny 0x7 A (setAttr (.ref a) f u) Q E s:=by
 obtain ⟨mA,O,r,wi,_,ho⟩:=qb I.hok e;have hz:(fs.map (·.1)).length<=sizeLine:=by rw [bL,sizeLine_eq];lia
 refine RW I.mj O c.sa c.po n.taker c.hd wi hz fun h' O' sb=>h _ ?_;have hd:∃ o,h'.get? dx=some o:=let ⟨o,_,_,e',_⟩:=O'.ns;⟨o,e'⟩
 refine I.write (x:=a) (e:=dx) (by rw [e];exact True.intro) (.inr ho) (fun b q hb z=>(sb.2 b hb).trans z) hd ?_;refine ⟨by rw [aA O.ne];exact ho,?_,O.ne,O'.obj,_,O'.ns,fun g=>?_,fun g hg=>?_⟩
 ·have:=pD f y fs;lia
 ·show jc ((jQ f y fs).lookup g) (if g=f then some u else mA g)
  rw [pC]
  by_cases q:g=f
  ·rw [if_pos q,if_pos q];exact ry
  ·rw [if_neg q,if_neg q];exact r g
 ·by_cases q:g=f
  ·rw [q];exact (oH f y fs).1
  ·refine (oH f y fs).2 g (wi g fun z=>hg ?_)
   show (if g=f then some u else mA g)=none
   rw [if_neg q];exact z
theorem Inv.made (I:Inv X pins σ H s):Inv X pins σ (upd (upd H s.heap.objs.size (.own 0xF)) 0xF (.ins C s.heap.objs.size []))
  { s with heap:=(s.heap.push PySem.W.emptyDict).push (PySem.W.instObj C s.heap.objs.size) }:=by
 have e1:(s.heap.push PySem.W.emptyDict).get? s.heap.objs.size=some PySem.W.emptyDict:=Heap.get?_push_size s.heap rfl;have e2:((s.heap.push PySem.W.emptyDict).push (PySem.W.instObj C s.heap.objs.size)).get? 0xF=some (PySem.W.instObj C s.heap.objs.size):=by
  have:=Heap.get?_push_size (s.heap.push PySem.W.emptyDict) (o:=PySem.W.instObj C s.heap.objs.size) rfl
  rwa [Heap.size_push] at this
 have e3:(s.heap.push PySem.W.emptyDict).Ns s.heap.objs.size (fun _=>none):=⟨PySem.W.emptyDict,#[],_,e1,rfl,(fun e he=>absurd he 0x4),fun _=>rfl⟩;have I1:=I.laid (a:=s.heap.objs.size) (o:=.own 0xF) (h':=s.heap.push PySem.W.emptyDict) (t':=s.toks) (fun b u q=>Heap.get?_push_of_some _ q) 0x6 ⟨_,e1⟩;refine I1.laid (a:=s.heap.objs.size+1) (o:=.ins C s.heap.objs.size []) (t':=s.toks) (fun b u q=>Heap.get?_push_of_some _ q) (Nat.le_of_eq (Heap.size_push _ _)) ?_;have ne:s.heap.objs.size≠s.heap.objs.size+1:=Nat.ne_of_lt (Nat.lt_succ_self _);refine ⟨by rw [aA ne,ak],Nat.zero_le _,ne,e2,fun _=>none,(Heap.Ns1.of_empty e3).at fun o q=>Heap.get?_push_of_some _ q,fun _=>True.intro,fun y hy=>absurd rfl hy⟩
theorem RZ {f:Str} (hb:attributeBase e f env (eval e env)=eval e env)
  (h:wpAny 0xB A (eval e env) (fun o s₁=>wpAny 0xB A (getAttr o f true) Q E s₁) E s):wpAny 0xB A (eval (.Attribute e f pos) env) Q E s :=
 Attribute_any_ h (by rw [arm_eval_Attribute,hb])
end
inductive KN (K:PySem.W.Frag) (f:Str) (Q:VK) (x:V) (H1:Hp):Prop
 | mk (a C dx:Addr) (fs:List (Prod Str V)) (v:V) (_:x=.ref a) (_:H1 a=some (.ins C dx fs)) (_:Cls K C) (_:iz K C f) (_:fs.lookup f=some v) (_:Q v H1):KN K f Q x H1
def tFld (K:PySem.W.Frag) (ta:TE) (f:Str):TE:=fun σ H Q=>ta σ H fun x H1=>KN K f Q x H1
inductive KQ (K:PySem.W.Frag) (f:Str) (D:Ends) (σ:L2.St) (y x:V) (H2:Hp):Prop
 | mk (a C dx:Addr) (fs:List (Prod Str V)) (_:x=.ref a) (_:H2 a=some (.ins C dx fs)) (_:Cls K C) (_:iz K C f) (_:fs.length<1000) (_:D.nx σ (upd H2 a (.ins C dx (jQ f y fs)))):KQ K f D σ y x H2
def sFld (K:PySem.W.Frag) (ta tv:TE) (f:Str):TS:=fun D σ H=>tv σ H fun y H1=>ta σ H1 fun x H2=>KQ K f D σ y x H2
section
variable {o:Expr}{f:Str}{tpos:Pos}
theorem cF (he:PE X e ta) (hb:attributeBase e f X.env (eval e X.env)=eval e X.env):PE X (.Attribute e f pos) (tFld X.K ta f):=by
 intro pins s σ H Q I h;refine RZ hb (cB (he pins s σ H _ I h) fun u s1 zq=>?_);obtain ⟨x,H1,I1,rx,a,C,dx,fs,v,ex,ea,c,n,l,q⟩:=zq;subst ex;obtain rfl:u=Value.ref a:=rx;exact Ca I1 ea c n l fun u' s2 I2 ru=>⟨v,H1,I2,ru,q⟩
theorem gJ (ha:PE X o ta) (hv:PE X value tv) (hs:swapsWith value (some (.Attribute o f pos')) pos.line X.env=pure false):PS X (.Assign [.Attribute o f pos'] value pos) (sFld X.K ta tv f):=by
 intro pins s σ H D I h;refine plainObj_wpAny_Assign_Attribute (cB (hv pins s σ H _ I h) fun u s1 ⟨y,H1,I1,ry,q⟩=>cB (ha pins s1 σ H1 _ I1 q) fun ov s2 ⟨x,H2,I2,rx,a,C,dx,fs,ex,ea,c,n,l,q2⟩=>?_) hs;subst ex;obtain rfl:ov=Value.ref a:=rx;exact Cd I2 ea c n l ry fun s3 I3=>⟨σ,_,I3,q2⟩
end
section
variable {c:Value}{b:Bool}
inductive nj (K:PySem.W.Frag) (H:Hp):V->Value->Prop where
 | non:nj K H .non (.type "NoneType")
 | bl (x:Bool):nj K H (.bl x) (.type "bool")
 | int (i:Int):nj K H (.int i) (.type "int")
 | str (x:Str):nj K H (.str x) (.type "str")
 | flt (x:UInt64):nj K H (.flt x) (.type "float")
 | lst {a:Addr}{xs:List V} (e:H a=some (.lst xs)):nj K H (.ref a) (.type "list")
 | Bx {a:Addr}{o:Obj}{xs:List V} (e:H a=some (.Bx o (.lst xs))):nj K H (.ref a) (.type "list")
 | tup {a:Addr}{xs:List V} (e:H a=some (.tup xs)):nj K H (.ref a) (.type "tuple")
 | dK {a:Addr}{kvs:List (Key×V)} (e:H a=some (.dK kvs)):nj K H (.ref a) (.type "dict")
 | dT {a:Addr}{kvs:List (List Key×V)} (e:H a=some (.dT kvs)):nj K H (.ref a) (.type "dict")
 | ins {a C dx:Addr}{fs:List (Str×V)} (e:H a=some (.ins C dx fs)) (cl:Cls K C) (ha:PySem.W.findIn K (.ref C) "__class__"=some (some 0x15))
   (hn:PySem.W.specialIn K 0x15 "__get__"=some (some (.builtin "getset_descriptor.__get__"))) (htk:PySem.W.takesIn K 0x15=some true)
   (hm:PySem.W.mroIn K C (.type "object")=some true):nj K H (.ref a) (.ref C)
theorem J3 {x:V}{t:Value} (I:Inv X pins σ H s) (rx:RelV x u) (ty:nj X.K H x t) (e:PySem.W.kitOne X.K t c=some b) (h:∀ tk,Q (.bool b) { s with toks:=tk }) :
  wpAny 0x7 A (call (.builtin "isinstance") [u,c]) Q E s:=by
 cases ty with
 | non=>cases (show u=Value.none from rx);exact PySem.W.kia_one PySem.W.kitx_none I.mj True.intro e (fun z=>nomatch z) h
 | bl y=>cases (show u=Value.bool y from rx);exact PySem.W.kia_one PySem.W.kitx_bool I.mj True.intro e (fun z=>nomatch z) h
 | int i=>obtain ⟨t,q⟩:=(show ∃ t,u=Value.int i t from rx);cases q;exact PySem.W.kia_one PySem.W.kitx_int I.mj True.intro e (fun z=>nomatch z) h
 | str y=>obtain ⟨t,q⟩:=(show ∃ t,u=Value.str y t from rx);cases q;exact PySem.W.kia_one PySem.W.kitx_str I.mj True.intro e (fun z=>nomatch z) h
 | flt y=>obtain ⟨t,q⟩:=(show ∃ t,u=Value.float y t from rx);cases q;exact PySem.W.kia_one PySem.W.kitx_float I.mj True.intro e (fun z=>nomatch z) h
 | @lst a xs ea =>
  cases (show u=Value.ref a from rx)
  obtain ⟨_,_,n,_,h1⟩:=(show cj X.prog X.w H s.heap a (.lst xs) from I.hok a _ ea)
  exact PySem.W.kia_one PySem.W.kitx_list I.mj ⟨_,h1,rfl⟩ e (fun z=>nomatch z) h
 | @Bx a ob xs ea =>
  cases (show u=Value.ref a from rx)
  obtain ⟨_,_,_,n,_,h1⟩:=(show cj X.prog X.w H s.heap a (.Bx ob (.lst xs)) from I.hok a _ ea)
  exact PySem.W.kia_one PySem.W.kitx_list I.mj ⟨_,h1,rfl⟩ e (fun z=>nomatch z) h
 | @tup a xs ea =>
  cases (show u=Value.ref a from rx)
  obtain ⟨_,_,_,p⟩:=(show cj X.prog X.w H s.heap a (.tup xs) from I.hok a _ ea)
  obtain ⟨o,h1,h2,_⟩:=p;exact PySem.W.kia_one PySem.W.kitx_tuple I.mj ⟨o,h1,h2⟩ e (fun z=>nomatch z) h
 | @dK a kvs ea =>
  cases (show u=Value.ref a from rx)
  obtain ⟨_,_,vs,_,p⟩:=(show cj X.prog X.w H s.heap a (.dK kvs) from I.hok a _ ea)
  obtain ⟨o,es,ep,h1,h2,_⟩:=p;exact PySem.W.kia_one PySem.W.kitx_dict I.mj ⟨o,h1,h2.1⟩ e (fun z=>nomatch z) h
 | @dT a kvs ea =>
  cases (show u=Value.ref a from rx)
  obtain ⟨_,_,xs,_,o,es,ep,h1,h2,_⟩:=(show cj X.prog X.w H s.heap a (.dT kvs) from I.hok a _ ea)
  exact PySem.W.kia_one PySem.W.kitx_dict I.mj ⟨o,h1,h2.1⟩ e (fun z=>nomatch z) h
 | @ins a C dx fs ea cl ha hn htk hm =>
  cases (show u=Value.ref a from rx)
  obtain ⟨mA,O,_⟩:=qb I.hok ea;obtain ⟨od,J,_⟩:=O.look;exact PySem.W.kia_one (PySem.W.kitx_own (cl.get _) cl.hd ha hn htk hm) I.mj J e (fun z=>nomatch z) h
end
structure cI (k:Nat) (A:Around):Prop where
 hd:A.handled=none
 dp:A.depth+3 * k+5<recursionLimit
 un:A.units+16 * k+200<cLine
theorem cI.mono {k:Nat} (r:cI k A) (h:j<=k):cI j A:=⟨r.hd,by have:=r.dp;lia,by have:=r.un;lia⟩
theorem cI.deeper {k:Nat} (r:cI (k+1) A) (env:Env):cI k (A.deeper env) :=
 ⟨r.hd,by have:=r.dp;show A.depth+1+3 * k+5<_;lia,by have:=r.un;show A.units+3+16 * k+200<_;lia⟩
theorem Ce:(A.under (.builtin "type.__call__" ⟨.ref C::us,kw⟩)).depth=A.depth+1:=by
 first | rfl | simp [Around.under,Code.weight,Code.isCreation,Code.isGuard,Code.isCaller,Code.frames,Code.isFrame,guardIds]
theorem Cg:(A.under (.builtin "type.__call__" ⟨.ref C::us,kw⟩)).units=A.units+1:=by
 first | rfl | simp [Around.under,Code.cUnits,Code.frames,Code.isFrame]
theorem cI.make {k:Nat} (r:cI (k+1) A) (C:Addr) (us:List Value) (kw:List (Str×Value)):cI k (A.under (.builtin "type.__call__" ⟨.ref C::us,kw⟩)) :=
 ⟨r.hd,by have:=r.dp;rw [Ce];lia,by have:=r.un;rw [Cg];lia⟩
theorem cI.depth {k:Nat} (r:cI k A):A.depth<recursionLimit:=by have:=r.dp;lia
theorem cI.units {k:Nat} (r:cI k A):A.units+64<cLine:=by have:=r.un;lia
def oJ:TA:=fun _ H Q=>Q [] H
def fD (ta:TE) (tr:TA):TA:=fun σ H Q=>ta σ H fun x H1=>tr σ H1 fun xs H2=>Q (x::xs) H2
theorem ao:PA X [] oJ:=fun _ _ _ _ H Q I h=>Calls.spliced_nil ⟨[],H,I,.nil,h⟩
theorem aj (ha:PE X e te) (hr:PA X es t) (hs:starEach (e::es) X.env=(false,eval e X.env)::starEach es X.env:=by rfl):PA X (e::es) (fD te t):=by
 intro pos pins s σ H Q I h;rw [hs]
 show wpAny _ _ (spliced ((false,eval e X.env)::backTo pos (starEach es X.env))) _ _ s
 refine Calls.spliced_cons (cB 0x2A fun u s1 zq=>?_);obtain ⟨x,H1,I1,r1,q1⟩:=zq;exact cB (hr pos pins s1 σ H1 _ I1 q1) fun us s2 ⟨xs,H2,I2,r2,q2⟩=>⟨x::xs,H2,I2,.cons r1 r2,q2⟩
def S6 (t:TA):TE:=fun σ H Q=>t σ H fun xs H1=>xs.length<=sizeLine/\∀ p,H1 p=none->Q (.ref p) (upd H1 p (.tup xs))
def WX (t:TA):TE:=fun σ H Q=>t σ H fun xs H1=>xs.length<=sizeLine/\∀ p,H1 p=none->Q (.ref p) (upd H1 p (.lst xs))
theorem cJ {x1} (h:PA X es t):PE X (.Tuple es x1 pos) (S6 t):=by
 intro pins s σ H Q I hq;refine wpAny_Tuple_spliced (cB (h pos pins s σ H _ I hq) fun us s1 ⟨xs,H1,I1,r,z,q⟩=>⟨by rw [<- r.length];exact z,?_⟩);have hf:H1 s1.heap.objs.size=none:=I1.hok.fresh 0x6;refine ⟨.ref s1.heap.objs.size,upd H1 s1.heap.objs.size (.tup xs),I1.laid (t':=s1.toks) (fun b u e=>Heap.get?_push_of_some _ e) 0x6 ?_,rfl,q _ hf⟩;exact ⟨z,us,r,⟨_,Heap.get?_push_size _ rfl,rfl,_,rfl⟩⟩
theorem cL (h:PA X es t):PE X (.List es pos) (WX t):=by
 intro pins s σ H Q I hq;refine wpAny_List_spliced (cB (h pos pins s σ H _ I hq) fun us s1 ⟨xs,H1,I1,r,z,q⟩=>⟨by rw [<- r.length];exact z,?_⟩);have hf:H1 s1.heap.objs.size=none:=I1.hok.fresh 0x6;refine ⟨.ref s1.heap.objs.size,upd H1 s1.heap.objs.size (.lst xs),I1.laid (t':=s1.toks) (fun b u e=>Heap.get?_push_of_some _ e) 0x6 ?_,rfl,q _ hf⟩;exact ⟨z,us,0,r,Heap.get?_push_size _ rfl⟩
abbrev Sp:=List V->Hp->VK->XK->Prop
variable {sp:Sp}
abbrev Fy:=List Env->Hp->Shared->XK->Value->Shared->Prop
variable {CX:Fy}
structure Ci (P:Program) (w:World) (K:PySem.W.Frag) (mg:Str->Option Value) (base:Heap) (A:Around) (outer:List Env) (s:Shared) (H:Hp):Prop where
 frames:A.frames=some outer
 mod:Mod K mg base
 bs:∀ b o,base.get? b=some o->s.heap.get? b=some o/\H b=none
 Kf:base.objs.size<=s.heap.objs.size
 m8:s.heap.FunFrames base outer
 RV:∀ b∈frs outer,H b=none
 hok:jP P w H s.heap
 bare:AllBare s.gens
inductive CE_X (outer:List Env) (P:Program) (w:World) (H:Hp) (s:Shared) (Q:VK) (u:Value) (s':Shared):Prop
 | mk (v:V) (H':Hp) (_:s'.os=s.os) (_:AllBare s'.gens) (_:Un (frs outer) [] H H' s.heap s'.heap) (_:jP P w H' s'.heap) (_:RelV v u) (_:Q v H'):CE_X outer P w H s Q u s'
def CE (outer:List Env) (P:Program) (w:World) (H:Hp) (s:Shared) (Q:VK) (u:Value) (s':Shared):Prop :=
 CE_X outer P w H s Q u s'
def CR (CX:Fy) (outer:List Env) (P:Program) (w:World) (H:Hp) (s:Shared) (Q:VK) (E:XK) (r:Result) (s':Shared):Prop :=
 match r with
 | .ok (.ret u)=>CE outer P w H s Q u s'
 | .ok _=>False
 | .error e=>CX outer H s E e s'
structure aX (P:Program) (w:World) (K:PySem.W.Frag) (mg:Str->Option Value) (base:Heap) (CX:Fy) (k:Nat) (f:Addr) (fd:FuncData) (ps:List Str) (sp:Sp):Prop where
 len:∀ vs H Q E,sp vs H Q E->vs.length=ps.length
 run:∀ (A:Around) (outer:List Env) (s:Shared) (H:Hp) (args:Args) (us:List Value) (vs:List V) (Q:VK) (E:XK),cI k A->Ci P w K mg base A outer s H->BindsTo s fd args (ps.zip us)->Vals vs us->sp vs H Q E ->
  codeAny (model P w) A (.call (.ref f) args) (CR CX outer P w H s Q E) s
theorem Ci.make (e:Ci P w K mg base A outer s H) (C:Addr) (us:List Value) (kw:List (Str×Value)) :
  Ci P w K mg base (A.under (.builtin "type.__call__" ⟨.ref C::us,kw⟩)) outer s H:=⟨by first | exact e.frames | (simpa [Around.under,Code.envs,Code.isFrame,pushEnvs] using e.frames),e.mod,e.bs,e.Kf,e.m8,e.RV,e.hok,e.bare⟩
theorem Inv.env0 (I:Inv X pins σ H s):Ci X.prog X.w X.K X.mg X.base X.A X.stack s H :=
 ⟨I.ok.frames,I.ok.mod,I.bs,Nat.le_trans I.ok.Kf I.sz,I.stack,I.vQ,I.hok,I.bare⟩
theorem Inv.after {Q:VK} (I:Inv X pins σ H s) (h:CE X.stack X.prog X.w H s Q u s'):EP X pins σ Q u s':=by
 obtain ⟨v,H',os,bare,un,hok,r,q⟩:=h;obtain ⟨hh,g,d,t,os'⟩:=s';obtain rfl:os'=s.os:=os;exact ⟨v,H',I.call (h':=hh) (g':=g) (d':=d) (t':=t) (ch:=[]) un hok bare (fun b z=>absurd z 0x4),r,q⟩
def KR (sp:Sp) (jY:List V) (E:XK) (t:TA):TE:=fun σ H Q=>t σ H fun vs H1=>sp (vs++jY) H1 Q E
inductive Fz (C:Addr) (m:Str) (sp:Sp) (jY:List V) (E:XK) (t:TA) (σ:L2.St) (Q:VK) (x:V) (H1:Hp):Prop
 | mk (a dx:Addr) (fs:List (Prod Str V)) (_:x=.ref a) (_:H1 a=some (.ins C dx fs)) (_:fs.lookup m=none) (_:t σ H1 fun vs H2=>sp (x::(vs++jY)) H2 Q E):Fz C m sp jY E t σ Q x H1
def Vj (C:Addr) (m:Str) (sp:Sp) (jY:List V) (E:XK) (ta:TE) (t:TA):TE:=fun σ H Q=>ta σ H fun x H1=>Fz C m sp jY E t σ Q x H1
def a0k (C:Addr) (sp:Sp) (jY:List V) (E:XK) (t:TA):TE:=fun σ H Q=>t σ H fun vs H1=>∀ x dx,H1 x=none->H1 dx=none->dx≠x ->
 sp (.ref x::(vs++jY)) (upd (upd H1 dx (.own x)) x (.ins C dx [])) (fun v H2=>v=.non/\Q (.ref x) H2) E
def Binds (K:PySem.W.Frag) (fd:FuncData) (ps:List Str) (ds:List Value):Prop :=
 ∀ (s:Shared) (us:List Value),K.In s.heap->(us++ds).length=ps.length->BindsTo s fd ⟨us,[]⟩ (ps.zip (us++ds))
theorem Binds.all (h:∀ us:List Value,us.length=ps.length->bindArgs fd ⟨us,[]⟩=pure (ps.zip us)):Binds K fd ps []:=fun s us _ hl=>by
 rw [List.append_nil] at hl ⊢;exact .of_eq (h us hl)
def Passes (CX:Fy) (X:Cx) (E:XK):Prop:=∀ (pins:List 0x11) (σ:St) (H:Hp) (s:Shared) (e:Value) (s':Shared),Inv X pins σ H s->CX X.stack H s E e s'->X.xe e s'
section
variable {k:Nat}{f:Addr}{jY:List V}{ds:List Value}{E:XK}{m:Str}{o:Expr}
theorem w5 {Q:VK}{vs:List V} (F:aX X.prog X.w X.K X.mg X.base CX k f fd ps sp) (hr:cI k X.A) (hb:Binds X.K fd ps ds) (hd:Vals jY ds) (hx:Passes CX X E)
  (I:Inv X pins σ H s) (r:Vals vs us) (h:sp (vs++jY) H Q E):wpAny 0x7 X.A (call (.ref f) us) (EP X pins σ Q) X.xe s:=by
 have r2:Vals (vs++jY) (us++ds):=r.append hd;have hl:(us++ds).length=ps.length:=by rw [<- r2.length];exact F.len _ _ _ _ h
 refine wpAny_call (codeAny_mono (F.run X.A X.stack s H ⟨us,[]⟩ (us++ds) (vs++jY) Q E hr I.env0 (hb s us I.mj hl) r2 h) fun r s' hq=>?_);cases r with
 | error e=>exact hx pins σ H s e s' I hq
 | ok fl =>
  cases fl with
  | ret u=>exact I.after hq
  | next=>exact False.elim hq
  | brk=>exact False.elim hq
  | cont=>exact False.elim hq
theorem bB (F:aX X.prog X.w X.K X.mg X.base CX k f fd ps sp) (hr:cI k X.A) (hg:Gl X x) (hm:X.mg x=some (.ref f)) (hk:PySem.W.keepIn X.K (.ref f)=true) (hb:Binds X.K fd ps ds) (hd:Vals jY ds) (hx:Passes CX X E)
  (ha:PA X (e::es) t) (hdb:0x1E=false:=by decide) (he:starEach (e::es) X.env=(false,eval e X.env)::starEach es X.env:=by rfl) (hpl:(backTo pos (starEach es X.env)).any (·.1)=false:=by rfl) :
  PE X (.Call (.Name x p) (e::es) [] pos) (KR sp jY E t):=by
 intro pins s σ H Q I h;refine wpAny_Call_Name_kw (jx I hg hm ?_ hdb);refine PySem.W.callWith_K (h₀:=X.base) I.ok.mod.kin hk (cB (ha pos pins s σ H _ I h) fun us s1 ⟨vs,H1,I1,r,q⟩=>⟨I1.mj,?_⟩) he hpl;exact w5 F hr hb hd hx I1 r q
theorem nq (F:aX X.prog X.w X.K X.mg X.base CX k f fd ps sp) (hr:cI k X.A) (hg:Gl X x) (hm:X.mg x=some (.ref f)) (hk:PySem.W.keepIn X.K (.ref f)=true) (hb:Binds X.K fd ps ds) (hd:Vals jY ds) (hx:Passes CX X E)
  (hdb:0x1E=false:=by decide):PE X (.Call (.Name x p) [] [] pos) (KR sp jY E oJ):=by
 intro pins s σ H Q I h;refine wpAny_Call_Name_kw (jx I hg hm ?_ hdb);exact PySem.W.callWith_K0 I.mj hk (w5 (us:=[]) F hr hb hd hx I .nil h)
theorem fY (he:PE X o ta) (c:Cls X.K C) (hm:Meth X.K C m f) (F:aX X.prog X.w X.K X.mg X.base CX k f fd ps sp) (hr:cI k X.A) (hb:Binds X.K fd ps ds) (hd:Vals jY ds) (hx:Passes CX X E) (ha:PA X (e::es) t)
  (hst:starEach (e::es) X.env=(false,eval e X.env)::starEach es X.env:=by rfl) (hpl:(backTo pos (starEach es X.env)).any (·.1)=false:=by rfl)
  (ht:eval (.Call (.Attribute o m apos) (e::es) [] pos) X.env=(do
   let ov <- eval o X.env
   standAt apos.atName
   let (f,first) <- holding [ov] (getMethod ov m pl)
   callWith pos f first (backTo pos (starEach (e::es) X.env)) (backToKw pos (keywordEach [] X.env))):=by rfl) :
  PE X (.Call (.Attribute o m apos) (e::es) [] pos) (Vj C m sp jY E ta t):=by
 intro pins s σ H Q I h;refine PySem.W.methodCall_KW (pl:=pl) (cB (he pins s σ H _ I h) fun u s1 ⟨x,H1,I1,rx,a,dx,fs,ex,ea,l,q⟩=>?_) ht;subst ex;obtain rfl:u=Value.ref a:=rx;refine qQ I1 ea c hm l ?_;refine PySem.W.callWith_K (first:=[.ref a]) (h₀:=X.base) I.ok.mod.kin hm.kp (cB (ha pos pins s1 σ H1 _ I1 q) fun us s2 ⟨vs,H2,I2,r,q2⟩=>⟨I2.mj,?_⟩) hst hpl
 exact w5 (us:=.ref a::us) (vs:=.ref a::vs) F hr hb hd hx I2 (.cons rfl r) q2
theorem gq (he:PE X o ta) (c:Cls X.K C) (hm:Meth X.K C m f) (F:aX X.prog X.w X.K X.mg X.base CX k f fd ps sp) (hr:cI k X.A) (hb:Binds X.K fd ps ds) (hd:Vals jY ds) (hx:Passes CX X E)
  (ht:eval (.Call (.Attribute o m apos) [] [] pos) X.env=(do
   let ov <- eval o X.env
   standAt apos.atName
   let (f,first) <- holding [ov] (getMethod ov m pl)
   callWith pos f first (backTo pos (starEach [] X.env)) (backToKw pos (keywordEach [] X.env))):=by rfl) :
  PE X (.Call (.Attribute o m apos) [] [] pos) (Vj C m sp jY E ta oJ):=by
 intro pins s σ H Q I h;refine PySem.W.methodCall_KW (pl:=pl) (cB (he pins s σ H _ I h) fun u s1 ⟨x,H1,I1,rx,a,dx,fs,ex,ea,l,q⟩=>?_) ht;subst ex;obtain rfl:u=Value.ref a:=rx;refine qQ I1 ea c hm l ?_;exact PySem.W.callWith_K0 (first:=[.ref a]) I1.mj hm.kp (w5 (us:=[.ref a]) (vs:=[.ref a]) F hr hb hd hx I1 (.cons rfl .nil) q)
structure Mk (K:PySem.W.Frag) (C f:Addr):Prop where
 makes:PySem.W.makesIn K C=true
 init:PySem.W.findIn K (.ref C) "__init__"=some (some (.ref f))
 fn:PySem.W.isFn K (.ref f)=true
 kp:PySem.W.keepIn K (.ref C)=true
theorem KY {Q:VK}{vs:List V} (M:Mk X.K C f) (F:aX X.prog X.w X.K X.mg X.base CX k f fd ps sp) (hr:cI (k+1) X.A) (hb:Binds X.K fd ps ds) (hd:Vals jY ds)
  (hx:Passes CX X E) (I:Inv X pins σ H s) (r:Vals vs us)
  (h:∀ x dx,H x=none->H dx=none->dx≠x->sp (.ref x::(vs++jY)) (upd (upd H dx (.own x)) x (.ins C dx [])) (fun v H2=>v=.non/\Q (.ref x) H2) E) :
  wpAny 0x7 X.A (call (.ref C) us) (EP X pins σ Q) X.xe s:=by
 have hq:=h 0xF s.heap.objs.size (I.hok.fresh (Nat.le_succ _)) (I.hok.fresh 0x6) (Nat.ne_of_lt (Nat.lt_succ_self _));have I2:=Inv.made (C:=C) I;have r2:Vals (V.ref 0xF::(vs++jY)) (Value.ref 0xF::(us++ds)):=.cons rfl (r.append hd);have hl:(Value.ref 0xF::us++ds).length=ps.length:=by
  have e:=r2.length;rw [F.len _ _ _ _ hq] at e;exact e.symm
 refine wpAny_call (KJ (f:=f) I.mj M.makes M.init (beq_iff_eq.mp M.fn) (codeAny_mono (F.run _ X.stack _ _ ⟨Value.ref 0xF::us,[]⟩ (Value.ref 0xF::(us++ds)) _ _ E (hr.make C us [])
  (I2.env0.make C us []) (hb _ (Value.ref 0xF::us) I2.mj hl) r2 hq) fun r s' hq'=>?_))
 cases r with
 | error e=>exact hx pins σ _ _ e s' I2 hq'
 | ok fl =>
  cases fl with
  | ret u =>
   obtain ⟨v,H',I3,rv,ev,q3⟩:=I2.after hq';subst ev;exact ⟨rv,⟨V.ref 0xF,H',I3,rfl,q3⟩⟩
  | next=>exact False.elim hq'
  | brk=>exact False.elim hq'
  | cont=>exact False.elim hq'
theorem FJ (M:Mk X.K C f) (F:aX X.prog X.w X.K X.mg X.base CX k f fd ps sp) (hr:cI (k+1) X.A) (hg:Gl X x) (hm:X.mg x=some (.ref C)) (hb:Binds X.K fd ps ds) (hd:Vals jY ds) (hx:Passes CX X E)
  (ha:PA X (e::es) t) (hdb:0x1E=false:=by decide) (he:starEach (e::es) X.env=(false,eval e X.env)::starEach es X.env:=by rfl) (hpl:(backTo pos (starEach es X.env)).any (·.1)=false:=by rfl) :
  PE X (.Call (.Name x p) (e::es) [] pos) (a0k C sp jY E t):=by
 intro pins s σ H Q I h;refine wpAny_Call_Name_kw (jx I hg hm ?_ hdb);refine PySem.W.callWith_K (h₀:=X.base) I.ok.mod.kin M.kp (cB (ha pos pins s σ H _ I h) fun us s1 ⟨vs,H1,I1,r,q⟩=>⟨I1.mj,?_⟩) he hpl;exact KY M F hr hb hd hx I1 r q
end
def PK (X:Cx) (kws:List Keyword) (t:TA):Prop :=
 ∀ (pos:Pos) (pins:List 0x11) (s:Shared) (σ:St) (H:Hp) (Q:List V->Hp->Prop),Inv X pins σ H s->t σ H Q->wpAny 0x7 X.A (evalAll ((backToKw pos (keywordEach kws X.env)).map (·.2))) (AP X pins σ Q) X.xe s
section
variable {k:Nat}{f:Addr}{ks:List Str}{E:XK}{m:Str}{kpos:Pos}{o:Expr}{kws:List Keyword}{tk:TA}{nm:Option Str}
theorem WY:PK X [] oJ:=fun _ _ _ _ H Q I h=>wpAny_evalAll_nil ⟨[],H,I,.nil,h⟩
theorem S8 (ha:PE X e te) (hr:PK X kws t):PK X (⟨nm,e,kpos⟩::kws) (fD te t):=by
 intro pos pins s σ H Q I h
 show wpAny _ _ (evalAll ((do let v <- eval e X.env;standAt pos;pure v)::(backToKw pos (keywordEach kws X.env)).map (·.2))) _ _ s
 refine wpAny_evalAll_cons (wpAny_bind (cB 0x2A fun u s1 ⟨x,H1,I1,r1,q1⟩=>wpAny_bind (wpAny_standAt (wpAny_pure ?_))));exact cB (hr pos pins s1 σ H1 _ I1 q1) fun us s2 ⟨xs,H2,I2,r2,q2⟩=>⟨x::xs,H2,I2,.cons r1 r2,q2⟩
structure KBinds (K:PySem.W.Frag) (fd:FuncData) (ps ks:List Str) (g:List Value->List Value->List Value) (gV:List V->List V->List V):Prop where
 to:∀ (s:Shared) (us ws:List Value),K.In s.heap->(g us ws).length=ps.length->BindsTo s fd ⟨us,ks.zip ws⟩ (ps.zip (g us ws))
 rel:∀ {vs:List V}{us:List Value}{zs:List V}{ws:List Value},Vals vs us->Vals zs ws->Vals (gV vs zs) (g us ws)
variable {g:List Value->List Value->List Value}{gV:List V->List V->List V}
end
structure aY (N P:List Str) (sc:Scope):Prop where
 kind:sc.kind=.function
 co:sc.isCoroutine=false
 gen:sc.isGenerator=false
 nd:N.Nodup
 pre:N.take P.length=P
 par:∀ x∈P,sc.names.lookup x=some .local\/sc.names.lookup x=some .cell
 X3:∀ y∈sc.names,y.2≠.free
theorem um {kindOf:Str->Option NameKind}:∀ {binds:List (Str×Value)}{m:Str->Option Value},(∀ v,(x,v)∉binds)->bindL kindOf binds m x=m x
 | [],_,_=>rfl
 | (n,v)::r,m,h=>by
  unfold bindL;rw [um fun w hw=>h w (jw _ hw)]
  split
  ·have:x≠n:=by rintro rfl;exact h v List.mem_cons_self
   simp [this]
  ·rfl
theorem uo {kindOf:Str->Option NameKind}:∀ {binds:List (Str×Value)}{m:Str->Option Value},(∀ v,(x,v)∉binds)->bindC kindOf binds m x=m x
 | [],_,_=>rfl
 | (n,v)::r,m,h=>by
  unfold bindC;rw [uo fun w hw=>h w (jw _ hw)]
  split
  ·rfl
  ·have:x≠n:=by rintro rfl;exact h v List.mem_cons_self
   simp [this]
theorem uq {kindOf:Str->Option NameKind}{x:Str}{v:Value}:∀ {P:List Str}{vs:List Value}{i:Nat}{m:Str->Option Value},P.Nodup->P[i]?=some x->vs[i]?=some v->kindOf x=some .local ->
  bindL kindOf (P.zip vs) m x=some v
 | [],_,_,_,_,h,_,_=>by simp at h
 | _::_,[],_,_,_,_,h,_=>by simp at h
 | p::P,w::vs,0,m,nd,h1,h2,hk=>by
  simp at h1 h2;subst h1;subst h2
  show bindL kindOf ((p,w)::P.zip vs) m p=_
  unfold bindL;rw [um fun v hv=>(List.nodup_cons.mp nd).1 (List.of_mem_zip hv).1,if_pos hk];simp
 | p::P,w::vs,i+1,m,nd,h1,h2,hk=>by
  show bindL kindOf ((p,w)::P.zip vs) m x=_
  unfold bindL;exact uq (i:=i) (List.nodup_cons.mp nd).2 (by simpa using h1) (by simpa using h2) hk
theorem ur {kindOf:Str->Option NameKind}{x:Str}{v:Value}:∀ {P:List Str}{vs:List Value}{i:Nat}{m:Str->Option Value},P.Nodup->P[i]?=some x->vs[i]?=some v->kindOf x≠some .local ->
  bindC kindOf (P.zip vs) m x=some v
 | [],_,_,_,_,h,_,_=>by simp at h
 | _::_,[],_,_,_,_,h,_=>by simp at h
 | p::P,w::vs,0,m,nd,h1,h2,hk=>by
  simp at h1 h2;subst h1;subst h2
  show bindC kindOf ((p,w)::P.zip vs) m p=_
  unfold bindC;rw [uo fun v hv=>(List.nodup_cons.mp nd).1 (List.of_mem_zip hv).1,if_neg hk];simp
 | p::P,w::vs,i+1,m,nd,h1,h2,hk=>by
  show bindC kindOf ((p,w)::P.zip vs) m x=_
  unfold bindC;exact ur (i:=i) (List.nodup_cons.mp nd).2 (by simpa using h1) (by simpa using h2) hk
def start (N:List Str) (vs:List V):St:=vs.map some++List.replicate (N.length - vs.length) none
def oK (CX:Fy) (P:Program) (w:World) (K:PySem.W.Frag) (mg:Str->Option Value) (base:Heap) (N:List Str) (qual:Str) (scope:Scope) (f:Addr) (cd:Value) (A:Around) (outer:List Env) (s:Shared) (H:Hp) (E:XK):Cx where
 prog:=P
 w:=w
 K:=K
 mg:=mg
 base:=base
 A:=A.deeper (envOfC qual scope s.heap.objs.size f cd)
 N:=N
 s₀:=s
 H₀:=H
 env:=envOfC qual scope s.heap.objs.size f cd
 outer:=outer
 stack:=envOfC qual scope s.heap.objs.size f cd::outer
 ex:=[]
 calm:=true
 fn:=fun _=>true
 pn:=[]
 xe:=fun e s'=>wpAny (model P w) (A.deeper (envOfC qual scope s.heap.objs.size f cd)) (leaving (envOfC qual scope s.heap.objs.size f cd) e) (fun _ s''=>CX outer H s E e s'') (fun e' s''=>CX outer H s E e' s'') s'
theorem yQ {sc:Scope} (h:sc.names.lookup x=some .cell):∃ c,(cellsFrom n sc.names []).lookup x=some c:=by
 have q:=PySem.W.cellsFrom_some sc.names n [] (.inl h);exact Option.isSome_iff_exists.mp q
theorem J4 {N:List Str}{f:Addr}{cd:Value}{s1:Shared}{E:XK}{vs:List V}
  (S:aY N ps scope) (hd:A.handled=none) (e0:Ci P w K mg base A outer s H) (hl:vs.length=ps.length) (r:Vals vs us)
  (x:InCallC s s.heap.objs.size (bindL (envOfC qual scope s.heap.objs.size f cd).kindOf (ps.zip us) fun _=>none) (cellsFrom 0xF scope.names []) (bindC (envOfC qual scope s.heap.objs.size f cd).kindOf (ps.zip us) fun _=>none) s1) :
  Inv (oK CX P w K mg base N qual scope f cd A outer s H E) [] (start N vs) H s1:=by
 have hpl:ps.length<=N.length:=by have:=congrArg List.length S.pre;rw [List.length_take] at this;lia
 obtain ⟨h1,tk,rfl,hk⟩:=x.done;have noA:∀ b:Addr,b∉(oK CX P w K mg base N qual scope f cd A outer s H E).ex:=fun b z=>absurd (show b∈([]:List Addr) from z) 0x4
 refine ⟨⟨e0.mod,S.kind,rfl,rfl,Nat.le_refl _,fun y z c h1 h2=>?_,fun y hy=>?_,fun y c _ h=>?_,fun _=>hd,Around.frames_deeper e0.frames,.inr ⟨rfl,rfl⟩,fun b z=>absurd z (noA b),e0.bs,e0.Kf,fun b _ _=>noA b,fun b z=>absurd z (noA b),e0.m8,e0.RV⟩,
  rfl,e0.bare,Un.kept hk,⟨_,x.toInCall.ns,fun i y v h1 h2 h3=>?_⟩,fun y c h=>⟨_,x.cell y c h⟩,e0.hok.fresh 0x6,fun y c h=>?_,fun p hp=>absurd (show p∈([]:List 0x11) from hp) 0x4,e0.hok.kept hk,?_⟩
 ·exact name_of_addr x.apart (PySem.mem_of_lookup h1) (PySem.mem_of_lookup h2)
 ·have hy:scope.names.lookup y=some .cell\/scope.names.lookup y=some .free:=hy;rcases hy with hy | hy
  ·exact yQ hy
  ·exact absurd rfl (S.X3 _ (PySem.mem_of_lookup hy))
 ·exact Nat.le_of_lt (x.above y c (PySem.mem_of_lookup h))
 ·have hi:i<vs.length:=by
   unfold start at h2
   by_cases hi:i<vs.length
   ·exact hi
   ·rw [List.getElem?_append_right (by simpa using hi)] at h2;rw [List.getElem?_replicate] at h2
    split at h2 <;> cases h2
  have ha:vs[i]?=some v:=by
   unfold start at h2;rw [List.getElem?_append_left (by simpa using hi),iK] at h2;cases e:vs[i]? with
   | none=>rw [e] at h2;cases h2
   | some a=>rw [e] at h2;cases h2;rfl
  obtain ⟨u,hu,rv⟩:=r.get ha;have hp:ps[i]?=some y:=by
   rw [<- S.pre,List.getElem?_take_of_lt 0x1];exact h1
  have ndP:ps.Nodup:=by rw [<- S.pre];exact S.nd.sublist (List.take_sublist _ _)
  refine ⟨u,rv,?_⟩;rcases S.par y (jL hp) with k | k
  ·exact .inl ⟨k,uq ndP hp hu k⟩
  ·obtain ⟨c,e⟩:=yQ (n:=s.heap.objs.size+1) k;refine .inr ⟨.inl k,c,e,?_⟩;have q:=x.cell y c e;rw [ur ndP hp hu (by show scope.names.lookup y≠_;rw [k];decide)] at q
   exact q
 ·exact e0.hok.fresh (Nat.le_of_lt (x.above y c (PySem.mem_of_lookup h)))
 ·unfold start
  show _=N.length
  rw [jj,bL,List.length_replicate];lia
theorem jZ {k:Nat}{f:Addr}{params:Arguments}{dV kV doc pm cdv ct oc:Value}{an od:Option Addr}
  {osl:Array (Option Value)}{N:List Str} (lk:K.lookup f=some ⟨oc,od,.func (PySem.W.fnOf name qual params body scope dV kV doc pm an cdv ct),osl⟩) (hcd:PySem.W.codeIn K cdv qual=true) (S:aY N ps scope)
  (len:∀ vs H Q E,sp vs H Q E->vs.length=ps.length)
  (hbody:∀ (A:Around) (outer:List Env) (s:Shared) (H:Hp) (vs:List V) (Q:VK) (E:XK),cI k (A.deeper (envOfC qual scope s.heap.objs.size f cdv))->sp vs H Q E ->
   ∃ t,yD (oK CX P w K mg base N qual scope f cdv A outer s H E) body t/\t { nx:=fun _ H'=>Q .non H',rt:=Q } (start N vs) H) :
  aX P w K mg base CX (k+1) f (PySem.W.fnOf name qual params body scope dV kV doc pm an cdv ct) ps sp:=by
 refine ⟨len,fun A outer s H args us vs Q E hr e0 hb r hsp=>?_⟩;have hl:=len _ _ _ _ hsp;have KX:K.In s.heap:=e0.mod.kin.keeps fun b o e=>(e0.bs b o e).1;have lim:s.heap.NoLimit:=e0.mod.nolimit.keeps fun b o e=>(e0.bs b o e).1;have hkind:∀ y∈ps.zip us,scope.names.lookup y.1=some .local\/(scope.names.lookup y.1=some .cell/\((cellsFrom 0xF scope.names []).lookup y.1).isSome=true):=fun ⟨n,v⟩ hy=>by
  rcases S.par n (List.of_mem_zip hy).1 with q | q
  ·exact .inl q
  ·exact .inr ⟨q,PySem.W.cellsFrom_some _ _ _ (.inl q)⟩
 refine codeAny_call_function hr.depth (KX _ _ lk) rfl S.co S.gen rfl (PySem.W.codeRec_of KX hcd) (hb _ _ _ _ ?_);refine wpAny_newFunctionEnv_cells S.kind hkind fun env he s1 x=>?_;subst he;refine ⟨lim.keeps x.toInCall.keep,codeAny_func ?_⟩;obtain ⟨t,ht,hq⟩:=hbody A outer s H vs Q E (hr.deeper _) hsp;have I:Inv (oK CX P w K mg base N qual scope f cdv A outer s H E) [] (start N vs) H s1:=J4 S hr.hd e0 hl r x;refine wpAny_mono (ht [] s1 (start N vs) H _ I hq) (fun fl s' hs=>?_) fun e s' hs=>hs;have fin:∀ {σ':St}{H':Hp}{v:V}{u:Value},Inv (oK CX P w K mg base N qual scope f cdv A outer s H E) [] σ' H' s'->RelV v u->Q v H'->CE outer P w H s Q u s' :=
  fun {σ' H' v u} J rv q=>⟨v,H',J.os,J.bare,J.base,J.hok,rv,q⟩
 cases fl with
 | ret u =>
  obtain ⟨v,σ',H',J,rv,q⟩:=hs;exact fin J rv q
 | next =>
  obtain ⟨σ',H',J,q⟩:=hs;exact fin (v:=V.non) (u:=Value.none) J rfl q
 | brk =>
  obtain ⟨_,_,_,q⟩:=hs;exact False.elim q
 | cont =>
  obtain ⟨_,_,_,q⟩:=hs;exact False.elim q
section
variable {id:String}{r:List V->Hp->VK->Prop}
def tCB (r:List V->Hp->VK->Prop) (t:TA):TE:=fun σ H Q=>t σ H fun vs H1=>r vs H1 Q
theorem aP (hc:dF X (.builtin id) r) (hg:Gl X x) (hm:X.mg x=none) (hv:bootBuiltins x=some (.builtin id)) (ha:PA X (e::es) t) (hn:x≠"__name__":=by decide) (hdb:0x1E=false:=by decide)
  (he:starEach (e::es) X.env=(false,eval e X.env)::starEach es X.env:=by rfl) (hpl:(backTo pos (starEach es X.env)).any (·.1)=false:=by rfl):PE X (.Call (.Name x p) (e::es) [] pos) (tCB r t):=by
 intro pins s σ H Q I h;refine wpAny_Call_Name_kw (jy I hg hm hv ?_ hn hdb);exact PyProof.Rows.callWith_builtin1 (cB (ha pos pins s σ H _ I h) fun us s1 ⟨vs,H1,I1,r1,q1⟩=>hc pins s1 σ H1 vs us Q I1 r1 q1) he hpl
theorem bM (hc:dF X (.type T) r) (hg:Gl X x) (hm:X.mg x=none) (hv:bootBuiltins x=some (.type T)) (ha:PA X (e::es) t) (hn:x≠"__name__":=by decide) (hdb:0x1E=false:=by decide)
  (he:starEach (e::es) X.env=(false,eval e X.env)::starEach es X.env:=by rfl) (hpl:(backTo pos (starEach es X.env)).any (·.1)=false:=by rfl):PE X (.Call (.Name x p) (e::es) [] pos) (tCB r t):=by
 intro pins s σ H Q I h;refine wpAny_Call_Name_kw (jy I hg hm hv ?_ hn hdb);exact PyProof.Rows.callWith_type1 (cB (ha pos pins s σ H _ I h) fun us s1 ⟨vs,H1,I1,r1,q1⟩=>hc pins s1 σ H1 vs us Q I1 r1 q1) he hpl
end
end L2
variable {ls r rest rs xs ys:List L2.V}{H H' H1 H2 H4:L2.Hp}{X:L2.Cx}{v y:L2.V}{σ:L2.St}{t1 t2 t3 ta tb te tl to tv:L2.TE}{t:L2.TA}{wi:L2.TI}{CX:L2.Fy}{sp:L2.Sp}{tt:L2.TT}{J:L2.It}{ts:L2.TS}{kvs:List (Int×L2.V)}{K9:List (L2.TE×L2.TE)}{pool:List (List L2.V)}
namespace HT
open PySem PyProof.Rows
section
open PySem.SeqAt
open PySem.AutoSeq1 (wpAny_loadPart')
open PySem.MeetsSeq PySem.MeetsSeq2 PySem.MeetsSeq3
end
theorem Sd {t:Addr}{vs ws:List Value} (ht:IsTup s.heap t vs.toArray) (hb:IsTup s.heap b ws.toArray) (hv:vs≠[])
  (h1:ws=[]->Q (.ref t) s) (h2:ws≠[]->Q 0x23 { s with heap:=s.heap.push { cls:=.type "tuple",data:=.seq (vs++ws).toArray } })
  (hsz:vs.length+ws.length<=sizeLine):wpAny 0xB A (binaryOp .Add (.ref t) (.ref b)) Q E s:=by
 obtain ⟨⟨cls,dd,data,sl⟩,ho,hc,n,hd⟩:=id ht;obtain ⟨⟨cls2,dd2,data2,sl2⟩,ho2,hc2,n2,hd2⟩:=id hb;simp only at hc hd hc2 hd2;subst hc hd hc2 hd2;have e:vs.toArray++ws.toArray=(vs++ws).toArray:=by simp
 by_cases hw:ws=[]
 ·exact concat_meets ⟨_,ho,rfl⟩ ⟨_,ho2,rfl⟩ noFill_tuple_add seq_tuple_add PySem.F.slot_tuple_add PySem.F.entry_tuple_add (PySem.F.args_tuple_add_2 _ _)
   (tuple_addW1 t b vs.toArray ws.toArray n n2 dd dd2 sl sl2 (by simpa using hv) (by simp [hw])) ⟨ho,ho2,h1 hw⟩
 ·refine concat_meets ⟨_,ho,rfl⟩ ⟨_,ho2,rfl⟩ noFill_tuple_add seq_tuple_add PySem.F.slot_tuple_add PySem.F.entry_tuple_add (PySem.F.args_tuple_add_2 _ _)
   (tuple_addW2 t b vs.toArray ws.toArray n n2 dd dd2 sl sl2 (by simpa using hv) (by simpa using hw) (by rw [List.size_toArray,List.size_toArray];exact hsz)) ⟨ho,ho2,?_⟩
  rw [e];exact h2 hw
def cX (n d:Nat):Option Int->Nat
 | none=>d
 | some v=>if v<0 then (v+(n:Int)).toNat else min v.toNat n
theorem fG (n d k:Nat):cX n d (some (k:Int))=min k n:=by
 show (if (k:Int)<0 then ((k:Int)+(n:Int)).toNat else min (k:Int).toNat n)=min k n
 rw [if_neg 0x1,Int.toNat_natCast]
theorem KZ (n d:Nat) (hd:d<=n) (o:Option Int):cX n d o<=n:=by
 cases o with
 | none=>exact hd
 | some v =>
  show (if v<0 then (v+(n:Int)).toNat else min v.toNat n)<=n
  by_cases hv:v<0
  ·rw [if_pos hv];lia
  ·rw [if_neg hv];exact Nat.min_le_right _ _
theorem FN (v:Int) (n d:Nat):(if v<0 then max (v+(n:Int)) 0 else min v (n:Int))=((cX n d (some v):Nat):Int):=by
 show (if v<0 then max (v+(n:Int)) 0 else min v (n:Int))=(((if v<0 then (v+(n:Int)).toNat else min v.toNat n):Nat):Int)
 by_cases hv:v<0
 ·simp only [if_pos hv];lia
 ·simp only [if_neg hv];lia
theorem Cj (lo hi:Option Int) (n:Nat):Builtin.Slice.sliceAdjust lo hi 1 (n:Int)=(((cX n 0 lo:Nat):Int),((cX n n hi:Nat):Int)):=by
 have h1:¬ ((1:Int)<0):=by lia
 unfold Builtin.Slice.sliceAdjust;simp only [h1,if_false];refine Prod.ext ?_ ?_
 ·cases lo with
  | none=>rfl
  | some v=>exact FN v n 0
 ·cases hi with
  | none=>rfl
  | some v=>exact FN v n n
theorem Ck (i j:Nat):Builtin.Slice.slicePlaces (i:Int) (j:Int) 1=j - i:=by
 unfold Builtin.Slice.slicePlaces;have h1:(1:Int) > 0:=by lia
 simp only [h1,if_true,Int.ediv_one]
 split <;> lia
theorem qR {v:Value}{o:Option Int}{Q:Option Int->Shared->Prop} (p:IsPart v o) (h:Q o s):wpAny 0xB A (Builtin.Slice.slicePartIndex v) Q E s:=by
 cases p with
 | none=>exact slicePart_none h
 | int i t=>exact slicePart_int h
theorem oM {sl:Addr}{vl vu:Value}{Q:Int×Int×Nat->Shared->Prop} (hs:s.heap.IsSliceOf sl vl vu .none) (pl:IsPart vl lo) (pu:IsPart vu hi)
  (h:Q (((cX n 0 lo:Nat):Int),1,cX n n hi - cX n 0 lo) s):wpAny 0xB A (Builtin.Slice.sliceApplied (.ref sl) (pure (n:Int))) Q E s:=by
 obtain ⟨os,hos,hcs,hds⟩:=id hs;unfold Builtin.Slice.sliceApplied Builtin.Slice.sliceFields;refine wpAny_bind (wpAny_bind (wpAny_field hos hds (x:=vl) rfl (wpAny_bind (wpAny_field hos hds (x:=vu) rfl (wpAny_bind (wpAny_field hos hds (x:=.none) rfl (wpAny_pure ?_)))))));refine wpAny_bind (slicePart_none ?_)
 show wpAny _ _ (if ((1:Int)==0)=true then _ else _) _ _ s
 rw [if_neg 0x8];refine wpAny_bind (qR pl (wpAny_bind (qR pu (wpAny_bind (wpAny_pure ?_)))))
 show wpAny _ _ (match Builtin.Slice.sliceAdjust lo hi 1 (n:Int) with | (lo,hi)=>pure (lo,(1:Int),Builtin.Slice.slicePlaces lo hi 1)) _ _ s
 rw [Cj lo hi n]
 show wpAny _ _ (pure (((cX n 0 lo:Nat):Int),(1:Int),Builtin.Slice.slicePlaces ((cX n 0 lo:Nat):Int) ((cX n n hi:Nat):Int) 1)) _ _ s
 rw [Ck];exact wpAny_pure h
theorem La (xs:Array Value) (i k:Nat):((List.range k).filterMap fun (m:Nat)=>xs[((i:Int)+(m:Int) * 1).toNat]?).toArray=((xs.toList.drop i).take k).toArray:=by
 have e:(fun (m:Nat)=>xs[((i:Int)+(m:Int) * 1).toNat]?)=fun m=>xs[i+m]?:=by
  funext m
  have:((i:Int)+(m:Int) * 1).toNat=i+m:=by lia
  rw [this]
 rw [e];have:=pick_run xs i k;rw [List.filterMap_map] at this;have e2:((fun x=>xs[x]?)∘fun x=>i+x)=fun m=>xs[i+m]?:=rfl;rw [e2] at this;rw [this]
theorem nu {t sl:Addr}{items:Array Value}{vl vu:Value} (ht:IsTup s.heap t items) (hs:s.heap.IsSliceOf sl vl vu .none) (pl:IsPart vl lo) (pu:IsPart vu hi)
  (hw:¬ (cX items.size 0 lo=0/\cX items.size items.size hi=items.size))
  (h:Q 0x23 { s with heap:=s.heap.push { cls:=.type "tuple",data:=.seq ((items.toList.drop (cX items.size 0 lo)).take (cX items.size items.size hi - cX items.size 0 lo)).toArray } })
  (hsz:items.size<=sizeLine):wpAny 0xB A (getItem (.ref t) (.ref sl)) Q E s:=by
 have FP:sizeOk (.seq ((items.toList.drop (cX items.size 0 lo)).take (cX items.size items.size hi - cX items.size 0 lo)).toArray):=by
  show ((items.toList.drop (cX items.size 0 lo)).take (cX items.size items.size hi - cX items.size 0 lo)).toArray.size<=sizeLine
  rw [List.size_toArray,List.length_take,List.length_drop,Array.length_toList];lia
 have hj:cX items.size items.size hi<=items.size:=KZ _ _ 0x6 hi;obtain ⟨os,hos,hcs,hds⟩:=id hs;have hTs:s.TypeIs (.ref sl) "slice":=⟨os,hos,hcs⟩;unfold getItem
 try with_reducible refine wpAny_holding ?_
 first | refine wpAny_bind (wpAny_pure ?_) | skip
 refine wpAny_bind (wpAny_sequenceKey ht.typeIs 0x8 ?_);refine wpAny_bind (wpAny_callSpecial?_slot (name:=Str.ofString "__getitem__") ht.typeIs PyProof.Rows.slot_tuple_getitem
  (wpAny_call_entry PyProof.Rows.slot_tuple_getitem ht.typeIs entry_tuple_getitem ?_ (args_tuple_getitem _ _)))
 show wpAny _ _ (Builtin.Tuple.tupleItemsOf (.ref t) >>= _) _ _ s
 refine wpAny_bind (tupleItemsOf_ ht ?_);refine wpAny_bind (wpAny_typeOf hTs ?_);rw [if_pos 0x8];refine wpAny_bind (oM hs pl pu ?_);have hno:¬ ((((cX items.size 0 lo:Nat):Int)==0&&(1:Int)==1&&(cX items.size items.size hi - cX items.size 0 lo)==items.size)=true):=by
  intro q;rw [Bool.and_eq_true,Bool.and_eq_true] at q;have q1:((cX items.size 0 lo:Nat):Int)=0:=eq_of_beq q.1.1;have q2:cX items.size items.size hi - cX items.size 0 lo=items.size:=eq_of_beq q.2;exact hw ⟨by lia,by lia⟩
 show wpAny _ _ (if (((cX items.size 0 lo:Nat):Int)==0&&(1:Int)==1&&(cX items.size items.size hi - cX items.size 0 lo)==items.size)=true then _ else _) _ _ s
 rw [if_neg hno,La]
 first
  | exact wpAny_bind (m:=Builtin.Tuple.tupleExact _) (wpAny_newObj_type (wpAny_pure ⟨_,rfl,wpAny_pure h⟩) FP)
  | exact wpAny_bind (m:=Builtin.Tuple.tupleExact _) (wpAny_newObj_type (wpAny_bind (wpAny_pure (wpAny_pure ⟨_,rfl,wpAny_pure h⟩))) FP)
  | exact wpAny_bind (wpAny_bind (m:=Builtin.Tuple.tupleExact _) (wpAny_newObj_type (wpAny_pure (wpAny_pure ⟨_,rfl,wpAny_pure h⟩)) FP))
  | exact wpAny_bind (wpAny_bind (m:=Builtin.Tuple.tupleExact _) (wpAny_newObj_type (wpAny_pure ⟨_,rfl,wpAny_pure h⟩) FP))
end HT
namespace L2
open PySem PySem.Spec PyProof.Rows
abbrev TO:=St->Hp->(Option Int->Hp->Prop)->Prop
def PO (X:Cx) (e:Option Expr) (t:TO):Prop :=
 ∀ (pins:List 0x11) (s:Shared) (σ:St) (H:Hp) (Q:Option Int->Hp->Prop),Inv X pins σ H s->t σ H Q ->
  wpAny 0x7 X.A (evalPart e X.env) (fun u s'=>∃ o H',Inv X pins σ H' s'/\IsPart u o/\Q o H') X.xe s
def nA:TO:=fun _ H Q=>Q none H
inductive FQ (Q:Option Int->Hp->Prop) (x:V) (H1:Hp):Prop
 | mk (i:Int) (_:x=.int i) (_:Q (some i) H1):FQ Q x H1
def yR (t:TE):TO:=fun σ H Q=>t σ H fun x H1=>FQ Q x H1
section
variable {lo hi:Option Expr}{tl th:TO}
theorem fZ:PO X none nA:=by
 intro pins s σ H Q I h;rw [evalPart_none];exact wpAny_pure ⟨none,H,I,.none,h⟩
theorem cR (h:PE X e te):PO X (some e) (yR te):=by
 intro pins s σ H Q I hw;rw [evalPart_some];refine cB (h pins s σ H _ I hw) fun u s1 zq=>?_;obtain ⟨x,H1,I1,r1,q1⟩:=zq;obtain ⟨i,rfl,q⟩:=q1;obtain ⟨t,rfl⟩:=r1;exact ⟨some i,H1,I1,.int i t,q⟩
inductive Vk (X:Cx) (pins:List (Prod Addr Obj)) (s:Shared) (σ:L2.St) (v:Value) (sl:Addr) (Q:VK):Prop
 | mk (T id:String) (_:typeLookup (.type T) "__getitem__"=pure (some (.builtin id))) (_:s.TypeIs v T) (_:wpAny 0x7 X.A (getItem v (.ref sl)) (EP X pins σ Q) X.xe s):Vk X pins s σ v sl Q
def SlR (X:Cx) (r:V->Option Int->Option Int->Hp->VK->Prop):Prop :=
 ∀ (pins:List 0x11) (s:Shared) (σ:St) (H:Hp) (x:V) (v vl vu:Value) (lo hi:Option Int) (sl:Addr) (Q:VK),Inv X pins σ H s->RelV x v->s.heap.IsSliceOf sl vl vu .none->IsPart vl lo->IsPart vu hi->r x lo hi H Q ->
  Vk X pins s σ v sl Q
def tSl (r:V->Option Int->Option Int->Hp->VK->Prop) (te:TE) (tl th:TO):TE:=fun σ H Q=>te σ H fun x H1=>tl σ H1 fun l H2=>th σ H2 fun u H3=>r x l u H3 Q
theorem cT {r:V->Option Int->Option Int->Hp->VK->Prop} (hr:SlR X r) (he:PE X e te) (hl:PO X lo tl) (hu:PO X hi th):PE X (.Subscript e (.Slice lo hi none p2) pos) (tSl r te tl th):=by
 intro pins s σ H Q I h;refine Subscript_ (cB (he pins s σ H _ I h) fun v s1 zq=>?_);obtain ⟨x,H1,I1,r1,q1⟩:=zq;refine wpAny_Slice (cB (hl pins s1 σ H1 _ I1 q1) fun vl s2 ⟨l,H2,I2,pl,q2⟩=>cB (hu pins s2 σ H2 _ I2 q2) fun vu s3 zq=>?_);obtain ⟨u,H3,I3,pu,q3⟩:=zq;rw [evalPart_none];refine wpAny_pure ?_;have I4:Inv X pins σ H3 { s3 with heap:=s3.heap.push { cls:=.type "slice",data:=.fields #[vl,vu,.none] } }:=I3.kept (t':=s3.toks) fun b ob q=>Heap.get?_push_of_some _ q;obtain ⟨T,id,hT,ht,hg⟩:=hr pins { s3 with heap:=s3.heap.push { cls:=.type "slice",data:=.fields #[vl,vu,.none] } } σ H3 x v vl vu l u s3.heap.objs.size Q I4 r1 (Heap.IsSliceOf.new ..) pl pu q3
 show wpAny 0x7 X.A (subscriptTail e (.Slice lo hi none p2) v (.ref s3.heap.objs.size)) (EP X pins σ Q) X.xe { s3 with heap:=s3.heap.push { cls:=.type "slice",data:=.fields #[vl,vu,.none] } }
 exact tail_any (ops:=[.ref s3.heap.objs.size,v]) ht hT hg 0x16
def dj (xs:List V) (lo hi:Option Int):List V:=(xs.drop (HT.cX xs.length 0 lo)).take (HT.cX xs.length xs.length hi - HT.cX xs.length 0 lo)
theorem iT (xs:List V) (lo hi:Option Int):(dj xs lo hi).length<=xs.length:=by
 unfold dj;rw [List.length_take,List.length_drop];lia
inductive Lb (K:PySem.W.Frag) (x:V) (lo hi:Option Int) (H:Hp) (Q:VK):Prop
 | mk (a:Addr) (xs:List V) (_:x=.ref a) (_:bF K H a xs) (_:¬ (HT.cX xs.length 0 lo=0/\HT.cX xs.length xs.length hi=xs.length)) (_:∀ p,H p=none->Q (.ref p) (upd H p (.tup (dj xs lo hi)))):Lb K x lo hi H Q
def Sg (K:PySem.W.Frag):V->Option Int->Option Int->Hp->VK->Prop:=fun x lo hi H Q=>Lb K x lo hi H Q
theorem jd:SlR X (Sg X.K):=by
 intro pins s σ H x v vl vu lo hi sl Q I rx hs pl pu h;obtain ⟨a,xs,rfl,hx,hw,q⟩:=h;cases rx;obtain ⟨its,r,ht,hz⟩:=I.tuple hx;have hlen:its.toArray.size=xs.length:=by rw [List.size_toArray];exact r.length.symm
 refine ⟨"tuple",_,PyProof.Rows.slot_tuple_getitem.lookup,ht.typeIs,?_⟩;refine HT.nu ht hs pl pu (by rw [hlen];exact hw) ?_ (by rw [hlen];exact hz);rw [hlen];refine ⟨.ref s.heap.objs.size,_,I.laid (t':=s.toks) (o:=.tup (dj xs lo hi)) (fun b ob q=>Heap.get?_push_of_some _ q) 0x6 ?_,rfl,q _ (I.hok.fresh 0x6)⟩;exact ⟨Nat.le_trans (iT xs lo hi) hz,_,(r.drop (HT.cX xs.length 0 lo)).take (HT.cX xs.length xs.length hi - HT.cX xs.length 0 lo),IsTup.new _ _⟩
inductive FT (K:PySem.W.Frag) (x y:V) (H:Hp) (Q:VK):Prop
 | mk (a b:Addr) (xs ys:List V) (_:x=.ref a) (_:y=.ref b) (_:bF K H a xs) (_:bF K H b ys) (_:xs≠[]) (_:xs.length+ys.length<=sizeLine) (_:(ys=[]->Q (.ref a) H)) (_:(ys≠[]->∀ p,H p=none->Q (.ref p) (upd H p (.tup (xs++ys))))):FT K x y H Q
def Vl (K:PySem.W.Frag):R2:=fun x y H Q=>FT K x y H Q
theorem Vals.wg (r:Vals xs us):us=[]↔xs=[]:=by
 cases r with
 | nil=>simp
 | cons _ _=>simp
theorem jB:jM X (binaryOp .Add) (Vl X.K):=by
 intro pins s σ H x y v u Q I rx ry h;obtain ⟨a,b,xs,ys,rfl,rfl,ha,hb,hx,hz,q1,q2⟩:=h;cases rx;cases ry;obtain ⟨its,r1,p1,_⟩:=I.tuple ha;obtain ⟨its2,r2,p2,_⟩:=I.tuple hb;refine HT.Sd p1 p2 (fun z=>hx (r1.wg.mp z)) (fun z=>⟨.ref a,H,I,rfl,q1 (r2.wg.mp z)⟩) (fun z=>?_) (by rw [<- r1.length,<- r2.length];exact hz);refine ⟨.ref s.heap.objs.size,_,I.laid (t':=s.toks) (o:=.tup (xs++ys)) (fun b ob q=>Heap.get?_push_of_some _ q) 0x6 ?_,rfl,q2 (fun w=>z (r2.wg.mpr w)) _ (I.hok.fresh 0x6)⟩;exact ⟨by rw [jj];exact hz,_,r1.append r2,IsTup.new _ _⟩
end
def FW (n:Nat) (i:Int):Option Nat:=if 0<=i then (if i<n then some i.toNat else none) else if -(n:Int)<=i then some (i+n).toNat else none
def lK {α:Type} (xs:List α) (i:Int):Option α:=(FW xs.length i).bind fun j=>xs[j]?
theorem FZ {i:Int} (h:FW n i=some j):seqIndex? i n=some j/\j<n/\-(n:Int)<=i/\i<n:=by
 unfold FW at h
 by_cases h0:0<=i
 ·rw [if_pos h0] at h
  by_cases h1:i<n
  ·rw [if_pos h1] at h;have e:i.toNat=j:=Option.some.inj h;exact ⟨by rw [seqIndex_of h0 h1,e],by lia,by lia,h1⟩
  ·rw [if_neg h1] at h;cases h
 ·rw [if_neg h0] at h
  by_cases h1:-(n:Int)<=i
  ·rw [if_pos h1] at h;have e:(i+n).toNat=j:=Option.some.inj h;exact ⟨by rw [seqIndex_neg 0x1 h1,e],by lia,h1,by lia⟩
  ·rw [if_neg h1] at h;cases h
theorem wj {α:Type}{xs:List α}{i:Int}{v:α} (h:lK xs i=some v):∃ j,seqIndex? i xs.length=some j/\xs[j]?=some v/\j<xs.length/\-(xs.length:Int)<=i/\i<xs.length:=by
 unfold lK at h;cases e:FW xs.length i with
 | none=>rw [e] at h;cases h
 | some j =>
  rw [e] at h;obtain ⟨h1,h2,h3,h4⟩:=FZ e;exact ⟨j,h1,h,h2,h3,h4⟩
theorem bh {α:Type}{xs:List α}{v:α} (h:xs[j]?=some v):lK xs (j:Int)=some v:=by
 have hj:j<xs.length:=(List.getElem?_eq_some_iff.mp h).1;have e:FW xs.length (j:Int)=some j:=by
  unfold FW;rw [if_pos 0x1,if_pos 0x1];simp
 unfold lK;rw [e];exact h
theorem yS {α:Type} (xs:List α) (v:α):lK (xs++[v]) (-1)=some v:=by
 have hl:(xs++[v]).length=xs.length+1:=by simp
 have e:FW (xs++[v]).length (-1)=some xs.length:=by
  unfold FW;rw [hl,if_neg 0x8,if_pos 0x1]
  congr 1
  lia
 unfold lK;rw [e]
 show (xs++[v])[xs.length]?=some v
 simp
def qd (b:Expr):Prop:=∀ o i,subscripted b false o i=operate [o,i] (getItem o i)
def Vm (X:Cx) (r:R2):Prop :=
 ∀ (value slice:Expr) (pins:List 0x11) (s:Shared) (σ:St) (H:Hp) (x y:V) (v u:Value) (Q:VK),Inv X pins σ H s->RelV x v->RelV y u->r x y H Q ->
  subscripted slice false v u=operate [v,u] (getItem v u)->wpAny 0x7 X.A (subscriptTail value slice v u) (EP X pins σ Q) X.xe s
def MtR (X:Cx) (id:String) (r:V->List V->Hp->VK->Prop):Prop :=
 ∀ (pins:List 0x11) (s:Shared) (σ:St) (H:Hp) (x:V) (xs:List V) (v:Value) (us:List Value) (Q:VK),Inv X pins σ H s->RelV x v->Vals xs us->r x xs H Q ->
  wpAny 0x7 X.A (call (.builtin id) (v::us)) (EP X pins σ Q) X.xe s
section
variable {a b:Expr}
theorem aK {r:R2} (hr:Vm X r) (ha:PE X a ta) (hb:PE X b tb) (hs:qd b):PE X (.Subscript a b pos) (Rt r ta tb):=by
 intro pins s σ H Q I h;exact Subscript_ (WM ha hb I h fun v u s2 x y H2 I2 rx ry q=>hr a b pins s2 σ H2 x y v u Q I2 rx ry q (hs _ _))
inductive Ld (K:PySem.W.Frag) (x y:V) (H:Hp) (Q:VK):Prop
 | mk (p:Addr) (xs:List V) (i:Int) (v:V) (_:x=.ref p) (_:y=.int i) (_:bf K H p xs) (_:lK xs i=some v) (_:Q v H):Ld K x y H Q
def rIxL (K:PySem.W.Frag):R2:=fun x y H Q=>Ld K x y H Q
inductive Le (K:PySem.W.Frag) (x y:V) (H:Hp) (Q:VK):Prop
 | mk (p:Addr) (xs:List V) (i:Int) (v:V) (_:x=.ref p) (_:y=.int i) (_:bF K H p xs) (_:lK xs i=some v) (_:Q v H):Le K x y H Q
def Sh (K:PySem.W.Frag):R2:=fun x y H Q=>Le K x y H Q
inductive Lf (x y:V) (H:Hp) (Q:VK):Prop
 | mk (z:Str) (i:Int) (c:Nat) (_:x=.str z) (_:y=.int i) (_:z.length<=sizeLine) (_:lK z.cps.toList i=some c) (_:Q (.str ⟨#[c]⟩) H):Lf x y H Q
def rIxS:R2:=fun x y H Q=>Lf x y H Q
theorem aU:Vm X (rIxL X.K):=by
 intro value slice pins s σ H x y v u Q I rx ry h hs;obtain ⟨p,xs,i,z,rfl,rfl,hq,he,q⟩:=h;cases rx;obtain ⟨t,rfl⟩:=ry;obtain ⟨its,r,pl,hz⟩:=I.list hq;obtain ⟨j,h1,h2,h3,h4,h5⟩:=wj he;obtain ⟨w,ew,Ja⟩:=r.get h2;have hl:=r.length;have hn:=mO;have fin:EP X pins σ Q w s:=⟨z,H,I,Ja,q⟩
 by_cases h0:0<=i
 ·have hj:i.toNat=j:=by
   rw [seqIndex_of h0 h5] at h1;exact Option.some.inj h1
  exact item_listR pl.isList h0 0x1 (by rw [hj];simpa using ew) fin hs
 ·have hj:(i+(its.toArray.size:Int)).toNat=j:=by
   rw [seqIndex_neg 0x1 h4] at h1;rw [List.size_toArray,<- hl];exact Option.some.inj h1
  exact subscriptTail_builtinR (x:=w) pl.isList.typeIs slot_list_getitem.lookup
   (wpAny_getItem_list_neg (Q:=fun r s'=>r=w/\EP X pins σ Q r s') pl.isList 0x1 (by rw [List.size_toArray] <;> lia) 0x1 (by rw [hj];simpa using ew) ⟨rfl,fin⟩) hs
theorem bA:Vm X (Sh X.K):=by
 intro value slice pins s σ H x y v u Q I rx ry h hs;obtain ⟨p,xs,i,z,rfl,rfl,hq,he,q⟩:=h;cases rx;obtain ⟨t,rfl⟩:=ry;obtain ⟨its,r,pl,hz⟩:=I.tuple hq;obtain ⟨j,h1,h2,h3,h4,h5⟩:=wj he;obtain ⟨w,ew,Ja⟩:=r.get h2;have hl:=r.length;have hn:=mO;have fin:EP X pins σ Q w s:=⟨z,H,I,Ja,q⟩;exact subscriptTail_builtinR (x:=w) pl.typeIs slot_tuple_getitem.lookup
  (getItem_tuple (j:=j) (Q:=fun r s'=>r=w/\EP X pins σ Q r s') pl 0x1 0x1 (by rw [List.size_toArray,<- hl];exact h1) (by simpa using ew) ⟨rfl,fin⟩) hs
theorem Lg:Vm X rIxS:=by
 intro value slice pins s σ H x y v u Q I rx ry h hs;obtain ⟨z,i,c,rfl,rfl,hz,he,q⟩:=h;obtain ⟨t,rfl⟩:=rx;obtain ⟨t',rfl⟩:=ry;obtain ⟨j,h1,h2,h3,h4,h5⟩:=wj he;have hl:z.cps.toList.length=z.length:=by simp [Str.length]
 rw [hl] at h1 h4 h5;have hn:=mO;exact tail_any (typeIs_str s z t) slot_str_getitem.lookup (getItem_str (c:=c) (by
  have e1:decide (i < -(2 ^ 63:Int))=false:=decide_eq_false 0x1;have e2:decide (i>=2 ^ 63)=false:=decide_eq_false 0x1;rw [e1,e2,Bool.or_false]) (by rw [h1];simpa using h2) ⟨.str ⟨#[c]⟩,H,I.tok _,⟨_,rfl⟩,q⟩) hs
theorem Cm (its:List Value) (n j:Nat) (u:Value):Obj.mapSeq (·.setIfInBounds j u) { cls:=.type "list",data:=.seq its.toArray n }={ cls:=.type "list",data:=.seq (its.set j u).toArray n }:=by
 simp [Obj.mapSeq]
theorem Inv.lst {p:Addr} (I:Inv X pins σ H s) (h:H p=some (.lst xs)) :
  ∃ (its:List Value) (n:Nat),Vals xs its/\s.heap.get? p=some { cls:=.type "list",data:=.seq its.toArray n }/\xs.length<=sizeLine:=by
 obtain ⟨z,its,n,r,e⟩:=I.hok p _ h;exact ⟨its,n,r,e,z⟩
theorem Inv.X4 {p:Addr}{its':List Value}{n':Nat}{f:Obj->Obj} (I:Inv X pins σ H s) (h:H p=some (.lst xs))
  (ho:s.heap.get? p=some { cls:=.type "list",data:=.seq its.toArray n }) (hf:f { cls:=.type "list",data:=.seq its.toArray n }={ cls:=.type "list",data:=.seq its'.toArray n' }) (r:Vals ys its') (hz:ys.length<=sizeLine) (t:Nat) :
  Inv X pins σ (upd H p (.lst ys)) { s with heap:=s.heap.update p f,toks:=t }:=by
 have e:(s.heap.update p f).get? p=some { cls:=.type "list",data:=.seq its'.toArray n' }:=by
  rw [Heap.get?_update_self f ho (by rw [hf] <;> rfl),hf]
 refine I.write (x:=p) (e:=p) (by rw [h];trivial) (.inl rfl) (fun b u hb q=>(Heap.get?_update_other _ _ (Ne.symm hb)).trans q) ⟨_,e⟩ ?_;exact ⟨hz,its',n',r,e⟩
inductive Ga (o i v:V) (H:Hp) (Q:Hp->Prop):Prop
 | mk (p:Addr) (xs:List V) (k:Int) (j:Nat) (_:o=.ref p) (_:i=.int k) (_:H p=some (.lst xs)) (_:FW xs.length k=some j) (_:Q (upd H p (.lst (xs.set j v)))):Ga o i v H Q
def Vn:V->V->V->Hp->(Hp->Prop)->Prop:=fun o i v H Q=>Ga o i v H Q
theorem set_list:PSet X Vn:=by
 intro pins s σ H o i v ov iv u Q I ro ri rv h;obtain ⟨p,xs,k,j,rfl,rfl,hp,hj,q⟩:=h;cases ro;obtain ⟨t,rfl⟩:=ri;obtain ⟨its,n,r,ho,hz⟩:=I.lst hp;obtain ⟨h1,h2,h3,h4⟩:=FZ hj;have hl:=r.length;have hn:=mO;have I':Inv X pins σ (upd H p (.lst (xs.set j v))) { s with heap:=s.heap.update p (Obj.mapSeq (·.setIfInBounds j u)) } :=
  I.X4 hp ho (Cm its n j u) (r.set rv j) (by rw [List.length_set];exact hz) s.toks
 by_cases h0:0<=k
 ·have hk:k.toNat=j:=by
   rw [seqIndex_of h0 h4] at h1;exact Option.some.inj h1
  exact PySem.W.ki_setAt ho h0 0x1 (by rw [List.size_toArray,<- hl];exact h4) (by rw [hk];exact ⟨_,I',q⟩)
 ·have hk:(k+(its.toArray.size:Int)).toNat=j:=by
   rw [seqIndex_neg 0x1 h3] at h1;rw [List.size_toArray,<- hl];exact Option.some.inj h1
  exact PySem.W.ki_setBack ho 0x1 (by rw [List.size_toArray,<- hl];exact h3) 0x1 (by rw [hk];exact ⟨_,I',q⟩)
theorem wk (lo hi:Option Int) (n:Nat):(sliceBounds lo hi none n).1=((HT.cX n 0 lo:Nat):Int)/\(sliceBounds lo hi none n).2.1=((HT.cX n n hi:Nat):Int)/\(sliceBounds lo hi none n).2.2=1:=by
 refine ⟨?_,?_,rfl⟩
 ·cases lo with
  | none=>simp [sliceBounds,HT.cX]
  | some i =>
   simp only [sliceBounds,HT.cX,Option.getD_none,show (1:Int) > 0 by decide,if_true]
   by_cases h:i<0
   ·simp only [h,if_true] <;> lia
   ·simp only [h,if_false] <;> lia
 ·cases hi with
  | none=>simp [sliceBounds,HT.cX]
  | some i =>
   simp only [sliceBounds,HT.cX,Option.getD_none,show (1:Int) > 0 by decide,if_true]
   by_cases h:i<0
   ·simp only [h,if_true] <;> lia
   ·simp only [h,if_false] <;> lia
theorem tR (its:List Value) (lo hi:Option Int):slicePick its.toArray lo hi none=((its.drop (HT.cX its.length 0 lo)).take (HT.cX its.length its.length hi - HT.cX its.length 0 lo)).toArray:=by
 obtain ⟨h1,h2,h3⟩:=wk lo hi its.toArray.size;unfold slicePick;rw [h1,h2,h3];simp only [sliceRange_one,pick_run,List.size_toArray] <;> rfl
inductive Lh (K:PySem.W.Frag) (x:V) (lo hi:Option Int) (H:Hp) (Q:VK):Prop
 | mk (a:Addr) (xs:List V) (_:x=.ref a) (_:bf K H a xs) (_:∀ p,H p=none->Q (.ref p) (upd H p (.lst (dj xs lo hi)))):Lh K x lo hi H Q
def rSlL (K:PySem.W.Frag):V->Option Int->Option Int->Hp->VK->Prop:=fun x lo hi H Q=>Lh K x lo hi H Q
theorem nD:SlR X (rSlL X.K):=by
 intro pins s σ H x v vl vu lo hi sl Q I rx hs pl pu h;obtain ⟨a,xs,rfl,hx,q⟩:=h;cases rx;obtain ⟨its,r,ht,hz⟩:=I.list hx;have hlen:=r.length;refine ⟨"list",_,slot_list_getitem.lookup,ht.isList.typeIs,?_⟩;refine wpAny_getItem_list_slice ht.isList hs pl pu .none 0x4 ?_ (by rw [List.size_toArray] <;> lia);rw [tR,<- hlen];refine ⟨.ref s.heap.objs.size,_,I.laid (t':=s.toks) (o:=.lst (dj xs lo hi)) (fun b ob q=>Heap.get?_push_of_some _ q) 0x6 ?_,rfl,q _ (I.hok.fresh 0x6)⟩;exact ⟨Nat.le_trans (iT xs lo hi) hz,_,0,(r.drop (HT.cX xs.length 0 lo)).take (HT.cX xs.length xs.length hi - HT.cX xs.length 0 lo),Heap.get?_push_size _ rfl⟩
def mD:V->Bool
 | .non=>true
 | .bl _=>true
 | .int _=>true
 | .str _=>true
 | _=>false
def Vo:V->V->Bool
 | .non,.non=>true
 | .bl a,.bl b=>a==b
 | .bl a,.int b=>(if a then 1 else 0)==b
 | .int a,.bl b=>a==(if b then 1 else 0)
 | .int a,.int b=>a==b
 | .str a,.str b=>a==b
 | _,_=>false
theorem X5 {x:V}{v:Value} (ry:RelV y u) (rx:RelV x v) (fy:mD y=true) (fx:mD x=true):SeqAt.EqAt A s u v (Vo y x):=by
 cases y with
 | non =>
  cases ry;cases x with
  | non=>cases rx;exact SeqAt.EqAt.same _
  | bl b=>cases rx;exact SeqAt.EqAt.none_bool b
  | int b=>obtain ⟨t,rfl⟩:=rx;exact SeqAt.EqAt.none_int b t
  | str b=>obtain ⟨t,rfl⟩:=rx;exact SeqAt.EqAt.none_str b t
  | _=>exact absurd (show false=true from fx) Bool.false_ne_true
 | bl a =>
  cases ry;cases x with
  | non=>cases rx;exact SeqAt.EqAt.bool_none a
  | bl b=>cases rx;exact SeqAt.EqAt.bool_bool a b
  | int b=>obtain ⟨t,rfl⟩:=rx;exact SeqAt.EqAt.bool_int a b t
  | str b=>obtain ⟨t,rfl⟩:=rx;exact SeqAt.EqAt.bool_str a b t
  | _=>exact absurd (show false=true from fx) Bool.false_ne_true
 | int a =>
  obtain ⟨t',rfl⟩:=ry;cases x with
  | non=>cases rx;exact SeqAt.EqAt.int_none a t'
  | bl b=>cases rx;exact SeqAt.EqAt.int_bool a t' b
  | int b=>obtain ⟨t,rfl⟩:=rx;exact SeqAt.EqAt.int_int a t' b t
  | str b=>obtain ⟨t,rfl⟩:=rx;exact SeqAt.EqAt.int_str a t' b t
  | _=>exact absurd (show false=true from fx) Bool.false_ne_true
 | str a =>
  obtain ⟨t',rfl⟩:=ry;cases x with
  | non=>cases rx;exact SeqAt.EqAt.str_none a t'
  | bl b=>cases rx;exact SeqAt.EqAt.str_bool a t' b
  | int b=>obtain ⟨t,rfl⟩:=rx;exact SeqAt.EqAt.str_int a t' b t
  | str b=>obtain ⟨t,rfl⟩:=rx;exact SeqAt.EqAt.str_str a t' b t
  | _=>exact absurd (show false=true from fx) Bool.false_ne_true
 | _=>exact absurd (show false=true from fy) Bool.false_ne_true
def Cp (x:V) (u:Value):Bool:=match u with
 | .none=>Vo .non x
 | .bool b=>Vo (.bl b) x
 | .int i _=>Vo (.int i) x
 | .str z _=>Vo (.str z) x
 | _=>false
theorem Li {x:V} (r:RelV y u) (f:mD y=true):Cp x u=Vo y x:=by
 cases y with
 | non=>cases r;rfl
 | bl b=>cases r;rfl
 | int i=>obtain ⟨t,rfl⟩:=r;rfl
 | str z=>obtain ⟨t,rfl⟩:=r;rfl
 | _=>exact absurd (show false=true from f) Bool.false_ne_true
theorem nG {x:V}:∀ {xs:List V}{us:List Value},Vals xs us->xs.all mD=true->us.any (Cp x)=xs.any fun y=>Vo y x
 | _,_,.nil,_=>rfl
 | y::xs,u::us,.cons r t,f=>by
  rw [List.all_cons,Bool.and_eq_true] at f;rw [List.any_cons,List.any_cons,Li r f.1,nG t f.2]
theorem kh {x:V}{v:Value} (rx:RelV x v) (fx:mD x=true):∀ {xs:List V}{us:List Value},Vals xs us->xs.all mD=true->∀ u∈us,SeqAt.EqAt A s u v (Cp x u)
 | _,_,.nil,_=>fun u hu=>by cases hu
 | y::xs,u::us,.cons r t,f=>fun u' hu=>by
  rw [List.all_cons,Bool.and_eq_true] at f;rcases List.mem_cons.mp hu with rfl | hu
  ·rw [Li r f.1];exact X5 r rx f.1 fx
  ·exact kh rx fx t f.2 u' hu
def inV (x:V) (xs:List V):Bool:=xs.any fun y=>Vo y x
inductive Vp (K:PySem.W.Frag) (neg:Bool) (x y:V) (H:Hp) (Q:VK):Prop
 | mk (p:Addr) (xs:List V) (_:y=.ref p) (_:(bf K H p xs\/bF K H p xs)) (_:mD x=true) (_:xs.all mD=true) (_:Q (.bl (if neg then !inV x xs else inV x xs)) H):Vp K neg x y H Q
def rIn (K:PySem.W.Frag) (neg:Bool):R2:=fun x y H Q=>Vp K neg x y H Q
theorem jk:jM X (compareOp .In) (rIn X.K false):=by
 intro pins s σ H x y v u Q I rx ry h;obtain ⟨p,xs,rfl,hq,fx,fs,q⟩:=h;cases ry;rcases hq with hq | hq
 ·obtain ⟨its,r,pl,hz⟩:=I.list hq;refine SeqAt.in_listAt (Cp x) pl.isList (fun w hw=>kh rx fx r fs w (by simpa using hw)) ⟨.bl _,H,I,rfl,?_⟩;rw [show its.toArray.any (Cp x)=its.any (Cp x) by simp,nG r fs]
  exact q
 ·obtain ⟨its,r,pl,hz⟩:=I.tuple hq;refine SeqAt.in_tupleAt (Cp x) pl (fun w hw=>kh rx fx r fs w (by simpa using hw)) ⟨.bl _,H,I,rfl,?_⟩;rw [show its.toArray.any (Cp x)=its.any (Cp x) by simp,nG r fs]
  exact q
theorem jC:jM X (compareOp .NotIn) (rIn X.K true):=by
 intro pins s σ H x y v u Q I rx ry h;obtain ⟨p,xs,rfl,hq,fx,fs,q⟩:=h;cases ry;rcases hq with hq | hq
 ·obtain ⟨its,r,pl,hz⟩:=I.list hq;refine SeqAt.notIn_listAt (Cp x) pl.isList (fun w hw=>kh rx fx r fs w (by simpa using hw)) ⟨.bl _,H,I,rfl,?_⟩;rw [show its.toArray.any (Cp x)=its.any (Cp x) by simp,nG r fs]
  exact q
 ·obtain ⟨its,r,pl,hz⟩:=I.tuple hq;refine SeqAt.notIn_tupleAt (Cp x) pl (fun w hw=>kh rx fx r fs w (by simpa using hw)) ⟨.bl _,H,I,rfl,?_⟩;rw [show its.toArray.any (Cp x)=its.any (Cp x) by simp,nG r fs]
  exact q
theorem bQ:dF X (.builtin "len") (fun xs H Q=>∃ p ys,xs=[.ref p]/\(bf X.K H p ys\/bF X.K H p ys)/\Q (.int ys.length) H):=by
 intro pins s σ H xs us Q I r h;obtain ⟨p,ys,rfl,hq,q⟩:=h;obtain ⟨u,rfl,rx⟩:=vals1 r;cases rx;have hn:=mO;rcases hq with hq | hq
 ·obtain ⟨its,r',pl,hz⟩:=I.list hq;have hlen:=r'.length;exact Calls.call_len_list pl.isList (by simp only [List.size_toArray] <;> lia) ⟨.int ys.length,H,I.tok _,⟨s.toks+1,by rw [List.size_toArray,hlen]⟩,q⟩
 ·obtain ⟨its,r',pl,hz⟩:=I.tuple hq;have hlen:=r'.length;exact len_tuple pl (by simp only [List.size_toArray] <;> lia) ⟨.int ys.length,H,I.tok _,⟨s.toks+1,by rw [List.size_toArray,hlen]⟩,q⟩
theorem gO:dF X (.builtin "len") (fun xs H Q=>∃ z,xs=[.str z]/\z.length<=sizeLine/\Q (.int z.length) H):=by
 intro pins s σ H xs us Q I r h;obtain ⟨z,rfl,hz,q⟩:=h;obtain ⟨u,rfl,t,rfl⟩:=vals1 r;have hn:=mO;exact len_str 0x1 ⟨.int z.length,H,I.tok _,⟨_,rfl⟩,q⟩
theorem cN:dF X (.type "list") (fun xs H Q=>∃ p ys,xs=[.ref p]/\(bf X.K H p ys\/bF X.K H p ys)/\∀ l,H l=none->Q (.ref l) (upd H l (.lst ys))):=by
 intro pins s σ H xs us Q I r h;obtain ⟨p,ys,rfl,hq,q⟩:=h;obtain ⟨u,rfl,rx⟩:=vals1 r;cases rx;have fin:∀ (its:List Value),Vals ys its->ys.length<=sizeLine->∀ (h':Heap) (c':Nat),(∀ b o',s.heap.get? b=some o'->h'.get? b=some o') ->
   h'.get? s.heap.objs.size=some { cls:=.type "list",dict:=none,data:=.seq its.toArray c',slots:=#[] }->EP X pins σ Q 0x23 { s with heap:=h' }:=fun its r' hz h' c' kp e =>
  ⟨.ref s.heap.objs.size,_,I.laid (t':=s.toks) kp 0x6 (show cj X.prog X.w _ h' _ (.lst ys) from ⟨hz,its,c',r',e⟩),rfl,q _ (I.hok.fresh 0x6)⟩
 rcases hq with hq | hq
 ·obtain ⟨its,r',pl,hz⟩:=I.list hq;have hlen:=r'.length;obtain ⟨o,ho,hc,n,hd⟩:=pl.isList;exact call_list_seq p (.inl rfl) ho hc hd (fun h' c' kp e=>fin its r' hz h' c' kp e) (by simp only [List.size_toArray] <;> lia)
 ·obtain ⟨its,r',pl,hz⟩:=I.tuple hq;have hlen:=r'.length;obtain ⟨o,ho,hc,n,hd⟩:=pl;exact call_list_seq p (.inr rfl) ho hc hd (fun h' c' kp e=>fin its r' hz h' c' kp e) (by simp only [List.size_toArray] <;> lia)
theorem tU:dF X (.type "tuple") (fun xs H Q=>∃ p ys,xs=[.ref p]/\((bf X.K H p ys/\∀ l,H l=none->Q (.ref l) (upd H l (.tup ys)))\/(bF X.K H p ys/\Q (.ref p) H))):=by
 intro pins s σ H xs us Q I r h;obtain ⟨p,ys,rfl,h⟩:=h;obtain ⟨u,rfl,rx⟩:=vals1 r;cases rx;rcases h with ⟨hq,q⟩ | ⟨hq,q⟩
 ·obtain ⟨its,r',pl,hz⟩:=I.list hq;have hlen:=r'.length;refine call_tuple_list pl.isList (fun h' kp=>?_) (by simp only [List.size_toArray] <;> lia);have I1:Inv X pins σ H { s with heap:=h' }:=I.kept (t':=s.toks) kp;have I2:Inv X pins σ (upd H h'.objs.size (.tup ys)) { s with heap:=h'.push { cls:=.type "tuple",data:=.seq its.toArray } } :=
   I1.laid (t':=s.toks) (fun b o e=>Heap.get?_push_of_some _ e) 0x6 (show cj X.prog X.w _ _ _ (.tup ys) from ⟨hz,its,r',IsTup.new _ _⟩)
  exact ⟨.ref h'.objs.size,_,I2,rfl,q _ (I1.hok.fresh 0x6)⟩
 ·obtain ⟨its,r',pl,hz⟩:=I.tuple hq;exact call_tuple_same pl ⟨.ref p,H,I,rfl,q⟩
def tyV (K:PySem.W.Frag) (T:String) (x:V) (H:Hp):Prop:=match x with
 | .str _=>T="str"
 | .int _=>T="int"
 | .ref p=>(T="list"/\∃ xs,bf K H p xs)\/(T="tuple"/\∃ o,K.lookup p=some o/\o.cls=.type "tuple"/\o.dict=none) \/
   (T="dict"/\((∃ kvs,H p=some (.dK kvs))\/∃ kvs,H p=some (.dT kvs)))\/(T="set"/\∃ S n,H p=some (.set S n))
 | _=>False
theorem Lj {x:V}{v:Value} (I:Inv X pins σ H s) (r:RelV x v) (ty:tyV X.K T x H) :
  s.TypeIs v T/\∀ a,v=.ref a->∃ ob,s.heap.get? a=some ob/\ob.dict=none:=by
 cases x with
 | str z =>
  obtain ⟨t,rfl⟩:=r;cases (show T="str" from ty)
  exact ⟨typeIs_str s z t,fun _ e=>nomatch e⟩
 | int i =>
  obtain ⟨t,rfl⟩:=r;cases (show T="int" from ty)
  exact ⟨typeIs_int s i t,fun _ e=>nomatch e⟩
 | ref p =>
  cases r;rcases ty with ⟨rfl,xs,hq⟩ | ⟨rfl,o,hk,hc,hd⟩ | ⟨rfl,hk⟩ | ⟨rfl,S,n,hk⟩
  ·obtain ⟨its,_,pl,_⟩:=I.list hq;refine ⟨pl.isList.typeIs,fun a e=>?_⟩;cases e;obtain ⟨o,n,e,c,hd,_⟩:=pl;exact ⟨o,e,hd⟩
  ·refine ⟨⟨o,I.mj p o hk,hc⟩,fun a e=>?_⟩;cases e;exact ⟨o,I.mj _ o hk,hd⟩
  ·have z:∃ o,s.heap.get? p=some o/\o.ExactDict:=by
    rcases hk with ⟨kvs,hk⟩ | ⟨kvs,hk⟩
    ·obtain ⟨_,_,_,_,o,_,_,e,ex,_⟩:=I.hok p _ hk;exact ⟨o,e,ex⟩
    ·obtain ⟨_,_,_,_,o,_,_,e,ex,_⟩:=I.hok p _ hk;exact ⟨o,e,ex⟩
   obtain ⟨o,e,ex⟩:=z;refine ⟨⟨o,e,ex.1⟩,fun a e2=>?_⟩;cases e2;exact ⟨o,e,ex.2.1⟩
  ·obtain ⟨o,_,_,_,e,ex,_⟩:=I.hok p _ hk;refine ⟨⟨o,e,ex.1⟩,fun a e2=>?_⟩;cases e2;exact ⟨o,e,ex.2.1⟩
 | _=>exact False.elim ty
def tBM0 (K:PySem.W.Frag) (T:String) (r:V->List V->Hp->VK->Prop) (to:TE):TE:=fun σ H Q=>to σ H fun x H1=>tyV K T x H1/\r x [] H1 Q
def tBM (K:PySem.W.Frag) (T:String) (r:V->List V->Hp->VK->Prop) (to:TE) (t:TA):TE:=fun σ H Q=>to σ H fun x H1=>tyV K T x H1/\t σ H1 fun xs H2=>r x xs H2 Q
variable {o:Expr}{id:String}{r:V->List V->Hp->VK->Prop}
theorem qT (pa:PlainAttrs T) (slot:Slot T name id) (hty:typeOf (.builtin id)=pure (.type "method_descriptor")) (hm:MtR X id r) (ho:PE X o to)
  (hbase:attributeBase o name X.env (eval o X.env)=eval o X.env:=by rfl) (hline:(apos.endLine==cpos.line)=true:=by rfl):PE X (.Call (.Attribute o name apos) [] [] cpos) (tBM0 X.K T r to):=by
 intro pins s σ H Q I h;refine wpAny_Call_method0_late hbase hline (cB (ho pins s σ H _ I h) fun v s1 zq=>?_);obtain ⟨x,H1,I1,r1,ty,q1⟩:=zq;obtain ⟨h1,h2⟩:=Lj I1 r1 ty;exact ⟨T,id,pa,slot,hty,h1,h2,Calls.callWith_builtin rfl (PySem.evalArgs_none (hm pins s1 σ H1 x [] v [] Q I1 r1 .nil q1))⟩
theorem gw (pa:PlainAttrs T) (slot:Slot T name id) (hty:typeOf (.builtin id)=pure (.type "method_descriptor")) (hm:MtR X id r) (ho:PE X o to) (ha:PA X (e::es) t)
  (hbase:attributeBase o name X.env (eval o X.env)=eval o X.env:=by rfl)
  (hfew:((backTo cpos (starEach (e::es) X.env)).all (fun x=>!x.1)&&(backToKw cpos (keywordEach [] X.env)).all (fun x=>x.1.isSome)
   &&decide ((e::es).length+([]:List Keyword).length+(if ([]:List Keyword).isEmpty then 0 else 1)<30))=true:=by rfl)
  (hline:(apos.endLine==cpos.line)=true:=by rfl) (hs:starEach (e::es) X.env=(false,eval e X.env)::starEach es X.env:=by rfl) (hplain:(backTo cpos (starEach es X.env)).any (·.1)=false:=by rfl) :
  PE X (.Call (.Attribute o name apos) (e::es) [] cpos) (tBM X.K T r to t):=by
 intro pins s σ H Q I h;refine wpAny_Call_method_late hbase hfew hline rfl (cB (ho pins s σ H _ I h) fun v s1 zq=>?_);obtain ⟨x,H1,I1,r1,ty,q1⟩:=zq;obtain ⟨h1,h2⟩:=Lj I1 r1 ty;refine ⟨T,id,pa,slot,hty,h1,h2,?_⟩;have hA:=ha cpos pins s1 σ H1 _ I1 q1;rw [hs] at hA ⊢;refine Calls.callWith_builtin (by show (false||(backTo cpos (starEach es X.env)).any (·.1))=false;rw [hplain] <;> rfl) (Calls.evalArgs_plain ?_)
 exact cB hA fun us s2 ⟨vs,H2,I2,r2,q2⟩=>hm pins s2 σ H2 x vs v us Q I2 r1 r2 q2
end
def MtM (X:Cx) (id:String) (r:V->List V->Hp->VK->Prop):Prop :=
 ∀ (pins:List 0x11) (s:Shared) (σ:St) (H:Hp) (x:V) (xs:List V) (v:Value) (us:List Value) (Q:VK),Inv X pins σ H s->RelV x v->Vals xs us->r x xs H Q ->
  wpAny 0x7 X.A (call (.builtin id) (v::us)) (EP X pins σ Q) X.xe s
theorem Vals.one:∀ {x:V}{us:List Value},Vals [x] us->∃ u,us=[u]/\RelV x u
 | _,_,.cons r .nil=>⟨_,rfl,r⟩
theorem Vals.zero:∀ {us:List Value},Vals [] us->us=[]
 | _,.nil=>rfl
theorem Vals.dropLast (h:Vals xs us):Vals xs.dropLast us.dropLast:=by
 induction h with
 | nil=>exact .nil
 | cons r t ih =>
  cases t with
  | nil=>exact .nil
  | cons q t'=>exact .cons r ih
theorem Vals.rep (h:Vals xs us):∀ k:Nat,Vals (List.replicate k xs).flatten (List.replicate k us).flatten
 | 0=>.nil
 | k+1=>by
  rw [List.replicate_succ,List.replicate_succ,List.flatten_cons,List.flatten_cons];exact Vals.append h (Vals.rep h k)
theorem Cq {α:Type} (l:List α):l.eraseIdx (l.length - 1)=l.dropLast:=by
 induction l with
 | nil=>rfl
 | cons a r ih =>
  cases r with
  | nil=>rfl
  | cons b r =>
   have e:(a::b::r).length - 1=((b::r).length - 1)+1:=by
    have h1:(a::b::r).length=r.length+2:=rfl;have h2:(b::r).length=r.length+1:=rfl;lia
   rw [e,List.eraseIdx_cons_succ,ih]
   all_goals rfl
theorem foldl_rep (its:List Value):∀ (k:Nat) (acc:List Value),
  List.foldl (fun x1 x2=>x1++x2) acc.toArray (List.replicate k its.toArray)=(acc++(List.replicate k its).flatten).toArray
 | 0,acc=>by simp
 | k+1,acc=>by
  have e:acc.toArray++its.toArray=(acc++its).toArray:=by simp
  have e2:(acc++its)++(List.replicate k its).flatten=acc++(List.replicate (k+1) its).flatten:=by
   rw [List.replicate_succ,List.flatten_cons,List.append_assoc]
  rw [<- e2,<- foldl_rep its k (acc++its),<- e,List.replicate_succ,List.foldl_cons]
section
variable {zs:List V}
theorem Inv.X6 {its':List Value}{f:Array Value->Array Value} (I:Inv X pins σ H s) (hH:H l=some (.lst xs))
  (e:s.heap.get? l=some { cls:=.type "list",data:=.seq its.toArray n }) (hf:f its.toArray=its'.toArray) (hv:Vals ys its') (hz:ys.length<=sizeLine) :
  Inv X pins σ (upd H l (.lst ys)) { s with heap:=s.heap.update l (Obj.mapSeq f),toks:=t' }:=by
 have q:=PySem.IsL.update e f;rw [hf] at q;refine I.write (x:=l) (e:=l) (by rw [hH];exact trivial) (.inl rfl) (fun b' u hb hu=>(Heap.get?_update_other s.heap (Obj.mapSeq f) (Ne.symm hb)).trans hu) ⟨_,q⟩ ?_;exact ⟨hz,its',_,hv,q⟩
theorem Inv.lnew (I:Inv X pins σ H s) (hv:Vals ys its) (hz:ys.length<=sizeLine) :
  Inv X pins σ (upd H s.heap.objs.size (.lst ys)) { s with heap:=s.heap.push { cls:=.type "list",data:=.seq its.toArray },toks:=t' } :=
 I.laid (fun _ _ q=>Heap.get?_push_of_some _ q) 0x6 ⟨hz,its,0,hv,Heap.get?_push_size _ rfl⟩
theorem Inv.fresh (I:Inv X pins σ H s):H s.heap.objs.size=none:=I.hok.fresh 0x6
theorem Inv.Jb (I:Inv X pins σ H s) (hH:H l=some (.lst xs)):xs.length<=sizeLine/\∃ (its:List Value) (n:Nat),Vals xs its/\xs.length=its.length/\s.heap.get? l=some { cls:=.type "list",data:=.seq its.toArray n }:=by
 obtain ⟨z,its,n,r,e⟩:=I.hok l _ hH;exact ⟨z,its,n,r,r.length,e⟩
theorem Lk (h:n<=sizeLine):Builtin.List.listTooLong n=false:=by
 unfold Builtin.List.listTooLong;exact decide_eq_false 0x1
end
inductive uw (x:V) (vs:List V) (H:Hp) (Q:VK):Prop
 | mk (l:Addr) (xs:List V) (y:V) (_:x=.ref l) (_:vs=[y]) (_:H l=some (.lst xs)) (_:xs.length<sizeLine) (_:Q .non (upd H l (.lst (xs++[y])))):uw x vs H Q
def Sq:V->List V->Hp->VK->Prop:=fun x vs H Q=>uw x vs H Q
theorem c7:MtM X "list.append" Sq:=by
 intro pins s σ H x vs v us Q I rx rv h;obtain ⟨l,xs,y,rfl,rfl,hH,hz,q⟩:=h;cases rx;obtain ⟨u,rfl,ru⟩:=rv.one;obtain ⟨z,its,n,r,hl,e⟩:=I.Jb hH;refine call_meets F.slot_list_append ⟨_,e,rfl⟩ F.entry_list_append (F.args_list_append_2 _ _) (PySem.list_append l its.toArray n u (by rw [List.size_toArray];lia)) ⟨e,?_⟩;refine ⟨.non,_,I.X6 (its':=its++[u]) hH e 0x4 (r.append (.cons ru .nil)) ?_,rfl,q⟩;rw [jj,List.length_singleton];lia
inductive Ln (x:V) (vs:List V) (H:Hp) (Q:VK):Prop
 | mk (l:Addr) (xs:List V) (y:V) (_:x=.ref l) (_:vs=[]) (_:H l=some (.lst xs)) (_:xs[xs.length - 1]?=some y) (_:Q y (upd H l (.lst xs.dropLast))):Ln x vs H Q
def rPop:V->List V->Hp->VK->Prop:=fun x vs H Q=>Ln x vs H Q
theorem wu:MtM X "list.pop" rPop:=by
 intro pins s σ H x vs v us Q I rx rv h;obtain ⟨l,xs,y,rfl,rfl,hH,hy,q⟩:=h;cases rx;have hus:=rv.zero;subst hus;obtain ⟨z,its,n,r,hl,e⟩:=I.Jb hH;obtain ⟨u,hu,ru⟩:=r.get hy;have hy':its.toArray[its.toArray.size - 1]?=some u:=by
  show its.toArray[its.length - 1]?=some u
  rw [<- Array.getElem?_toList,<- hl];exact hu
 refine call_meets F.slot_list_pop ⟨_,e,rfl⟩ F.entry_list_pop (F.args_list_pop_1 _) (MeetsSeq.list_pop_last l its.toArray n u hy' (by rw [List.size_toArray];lia)) ⟨e,?_⟩;refine ⟨y,_,I.X6 (its':=its.dropLast) hH e ?_ r.dropLast ?_,ru,q⟩
 ·show its.toArray.eraseIdxIfInBounds (its.toArray.size - 1)=its.dropLast.toArray
  rw [List.size_toArray,List.eraseIdxIfInBounds_toArray,Cq]
 ·rw [List.length_dropLast];lia
inductive yU (x:V) (vs:List V) (H:Hp) (Q:VK):Prop
 | mk (l:Addr) (xs:List V) (_:x=.ref l) (_:vs=[]) (_:H l=some (.lst xs)) (_:Q .non (upd H l (.lst []))):yU x vs H Q
def X7:V->List V->Hp->VK->Prop:=fun x vs H Q=>yU x vs H Q
theorem Lp:MtM X "list.clear" X7:=by
 intro pins s σ H x vs v us Q I rx rv h;obtain ⟨l,xs,rfl,rfl,hH,q⟩:=h;cases rx;have hus:=rv.zero;subst hus;obtain ⟨z,its,n,r,hl,e⟩:=I.Jb hH;refine call_meets F.slot_list_clear ⟨_,e,rfl⟩ F.entry_list_clear (F.args_list_clear_1 _) (AutoSeq1.list_clear_list_0 l its.toArray n (by rw [List.size_toArray];lia)) ⟨e,?_⟩;exact ⟨.non,_,I.X6 (its':=[]) (ys:=[]) hH e rfl .nil (Nat.zero_le _),rfl,q⟩
inductive Lq (x y:V) (H:Hp) (Q:VK):Prop
 | mk (l b:Addr) (xs zs:List V) (_:x=.ref l) (_:y=.ref b) (_:H l=some (.lst xs)) (_:H b=some (.lst zs)) (_:xs.length+zs.length<=sizeLine) (_:∀ p,H p=none->Q (.ref p) (upd H p (.lst (xs++zs)))):Lq x y H Q
def rCat:R2:=fun x y H Q=>Lq x y H Q
theorem wz:jM X (binaryOp .Add) rCat:=by
 intro pins s σ H x y v u Q I rx ry h;obtain ⟨l,b,xs,zs,rfl,rfl,hH,hB,hz,q⟩:=h;cases rx;cases ry;obtain ⟨z,its,n,r,hl,e⟩:=I.Jb hH;obtain ⟨z2,its2,n2,r2,hl2,e2⟩:=I.Jb hB;refine PySem.P.add_list e e2 ?_ (by rw [List.size_toArray,List.size_toArray];lia);have ea:its.toArray++its2.toArray=(its++its2).toArray:=by simp
 rw [ea];exact ⟨.ref _,_,I.lnew (t':=s.toks) (r.append r2) (by rw [jj];lia),rfl,q _ I.fresh⟩
inductive Lr (x y:V) (H:Hp) (Q:VK):Prop
 | mk (l:Addr) (k:Int) (xs:List V) (_:x=.ref l) (_:y=.int k) (_:H l=some (.lst xs)) (_:-(2 ^ 63)<=k) (_:k<2 ^ 63) (_:xs.length * k.toNat<=sizeLine) (_:∀ p,H p=none->Q (.ref p) (upd H p (.lst (List.replicate k.toNat xs).flatten))):Lr x y H Q
def rRep:R2:=fun x y H Q=>Lr x y H Q
theorem len_rep {α:Type} (xs:List α) (k:Nat):(List.replicate k xs).flatten.length=k * xs.length:=by
 induction k with
 | zero=>simp
 | succ k ih=>rw [List.replicate_succ,List.flatten_cons,jj,ih,Nat.succ_mul,Nat.add_comm]
theorem X8:jM X (binaryOp .Mult) rRep:=by
 intro pins s σ H x y v u Q I rx ry h;obtain ⟨l,k,xs,rfl,rfl,hH,h1,h2,hz,q⟩:=h;cases rx;obtain ⟨t,rfl⟩:=ry;obtain ⟨z,its,n,r,hl,e⟩:=I.Jb hH;have hlen:its.toArray.size * k.toNat<=sizeLine:=by rw [List.size_toArray,<- hl];exact hz
 have hcap:¬ its.toArray.size * k.toNat > (2 ^ 63 - 1) / 8:=by
  have:(sizeLine:Nat)<=(2 ^ 63 - 1) / 8:=by decide
  lia
 have hfit:¬ (!Builtin.List.listFitsIndex k)=true:=by
  rw [fitsIndex_both h1 h2];exact Bool.false_ne_true
 have a0l:¬ Builtin.List.listTooLong (its.toArray.size * k.toNat)=true:=by
  rw [Lk hlen];exact Bool.false_ne_true
 have hnew:List.foldl (fun x1 x2=>x1++x2) #[] (List.replicate (if its.toArray.isEmpty=true then 0 else k.toNat) its.toArray)=(List.replicate k.toNat its).flatten.toArray:=by
  have f0:∀ m:Nat,List.foldl (fun x1 x2=>x1++x2) #[] (List.replicate m its.toArray)=(List.replicate m its).flatten.toArray:=fun m=>by
   have:=foldl_rep its m [];rw [List.nil_append] at this;exact this
  rw [f0];cases its with
  | nil=>simp
  | cons a r'=>rw [if_neg 0x4]
 refine wpAny_binaryOp_repeat_ref (T:="list") (U:="int") 0x8 ⟨_,e,rfl⟩ (fun s'=>typeIs_int s' k t) noFill_list_mul F.fills_int_mul F.slot_int_rmul repeat_list F.slot_int_index.lookup
  (call_meets F.slot_int_rmul (typeIs_int s k t) F.entry_int_rmul (F.args_int_rmul_2 _ _) (int___rmul___int_list k t l its.toArray n)
   ⟨e,rfl,⟨_,e,rfl⟩,call_meets F.slot_list_mul ⟨_,e,rfl⟩ F.entry_list_mul (F.args_list_mul_2 _ _) (AutoListH.list___mul___list_int_3 l its.toArray n k t hfit hcap a0l) ⟨e,?_⟩⟩)
 rw [hnew];exact ⟨.ref _,_,I.lnew (t':=s.toks) (r.rep k.toNat) (by rw [len_rep,Nat.mul_comm];exact hz),rfl,q _ I.fresh⟩
end L2
namespace Att
open PySem PySem.W PySem.Calls PyProof.Rows
theorem pQ {P:Params}:∀ (ns:List Int) (vs:List Value),WellAll P h vs (ns.map WData.int)->IntsAre vs ns:=by
 intro ns
 induction ns with
 | nil =>
  intro vs w;rw [List.map_nil] at w;cases w;exact .nil
 | cons n ns ih =>
  intro vs w;rw [List.map_cons] at w;cases w with
  | cons a b =>
   cases a;exact .cons _ _ (ih _ b)
theorem Jc {l:OpenLaw} (hn:l.most=some n) {P:Params}{args:List WData}{vals:List Value}
  (hpre:l.row.toRowW.claim.pre args=true) (hwl:WellAll P h vals args) :
  ∃ a vs ns,vals=[Value.ref a]/\args=[WData.list (ns.map WData.int)]/\h.get? a=some { cls:=.type "list",data:=.seq vs.toArray }/\IntsAre vs ns/\ns.length<=n:=by
 have hsh:WShape.hasAll [] args [.list .int]=true:=(pre_splitW hpre).1;have hc:l.pre.holds [] { args:=args }=true:=(pre_splitW hpre).2;obtain ⟨d,r,rfl,h1,h2⟩:=hasAllW_cons hsh;obtain rfl:=hasAllW_nil h2;obtain ⟨xs,rfl,h3⟩:=hasW_list h1;obtain ⟨ns,rfl⟩:=items_int h3;have hlen:ns.length<=n:=by
  unfold OpenLaw.pre at hc;have h4:(WTm.not (.lt (.lit (.int (n:Int))) (.len (.arg 0)))).holds [] { args:=[.list (ns.map .int)] }=true:=by
   have h4:=(holds_andW hc).1;rw [hn] at h4;exact h4
  have h5:=condW_of h4 (w_not (w_lt w_lit (w_len_list (w_arg rfl))));rw [bL] at h5;refine Nat.le_of_not_lt fun q=>?_;have q':(n:Int)<((ns.length:Nat):Int):=by lia
  first
   | (rw [decide_eq_true q'] at h5;exact absurd h5 0x8)
   | (simp at h5;lia)
 cases hwl with
 | cons w1 w2 =>
  cases w2;cases w1 with
  | list ho hall=>exact ⟨_,_,ns,rfl,rfl,ho,pQ ns _ hall,hlen⟩
theorem Jd (l:OpenLaw) (args:List WData):l.row.toRowW.claim.post args (.bool true) args=true :=
 postW_of (r:=l.row.toRowW) (X:=(true==true))
  (show WShape.has [] (.bool true) .bool=true by first | rfl | decide | simp [WShape.has,WShape.arms,WShape.armsAll])
  (show (WTm.eq .res (.lit (.bool true))).value [] { args:=args,res:=some (.bool true),after:=args }=some (.bool (true==true)) from w_eq_bool (w_res rfl) w_lit) rfl
theorem yV {l:OpenLaw}{q:Program}{d:DefRec}
  (hn:l.most=some n) (hdf:d.params.defaults=[])
  (call:∀ (w:World) (s₀ s₁:Shared) (mg mb:Str->Option Value) (fa:Addr) (o:Obj) (pm cd doc:Value) (a:Addr) (vs:List Value) (ns:List Int),
   Ground q loose [] XP w s₀ mg mb s₁.heap->YP w s₁.heap ->
   s₁.heap.get? fa=some o->o.data=.func (docDef d.name d.params d.body d.scope pm cd doc)->s₁.heap.CodeRec cd d.name->mg d.name=some (.ref fa) ->
   s₁.heap.get? a=some { cls:=.type "list",data:=.seq vs.toArray }->IntsAre vs ns->ns.length<=n->s₁.gens=#[] ->
   codeAny (model l.prog w) callerA (.call (.ref fa) ⟨[.ref a],[]⟩) (fun r s'=>r=.ok (.ret (.bool true))/\OldK s₁.heap s'.heap/\s'.os=s₁.os/\AllBare s'.gens) s₁) :
  WalkO q loose XP YP l.row.toRowW d [] (fun f vs=>PySem.call f vs):=by
 intro w s₀ s₁ mg mb G Y fa o pm cd doc dV kV ho hd hcd hD hmg hg args vals as hpre hlay hrd hwl hlo;obtain rfl:dV=.none:=Dflts.none hD hdf;obtain rfl:kV=.none:=Dflts.noKw hD;obtain ⟨a,vs,ns,rfl,rfl,hobj,hints,hlen⟩:=Jc hn hpre hwl;refine enter_call (codeAny_mono (call w s₀ s₁ mg mb fa o pm cd doc a vs ns G Y ho (fd_plain hd) hcd hmg hobj hints hlen hg) fun r s' hq=>?_);obtain ⟨rfl,h2,h3,h4⟩:=hq;exact ⟨.inl ⟨.bool true,.bool true,[],rfl,fun _=>rfl,.bool true,Jd l _,fun _=>⟨List.Pairwise.nil,fun _ hm=>(nomatch hm)⟩⟩,h2,h3,h4⟩
end Att
namespace L2
open PySem PySem.Spec PyProof.Rows
theorem uy:∀ {vs:List Value}{ns:List Int},IntsAre vs ns->Vals (ns.map V.int) vs
 | _,_,.nil=>.nil
 | _,_,.cons n t h=>.cons ⟨t,rfl⟩ (uy h)
inductive Lw (H:Hp) (b:Addr):Prop
 | mk (o:Obj) (xs:List V) (_:H b=some (.Bx o (.lst xs))):Lw H b
def Only (H:Hp):Prop:=∀ b,H b=none\/Lw H b
theorem Ly {mb:Str->Option Value}{k:Nat}{s₁:Shared}{vs:List Value}{ns:List Int}
  (KX:K.In s₁.heap) (hns:s₁.heap.Ns mainGlobals mg) (hb:s₁.heap.Ns builtinsNs mb) (hbb:∀ x:Str,x≠"__name__"->mb x=bootBuiltins x) (hlim:s₁.heap.NoLimit) (hg:s₁.gens=#[])
  (ha:s₁.heap.get? a=some { cls:=.type "list",data:=.seq vs.toArray }) (hi:IntsAre vs ns) (hl:ns.length<=sizeLine) (hr:cI k callerA)
  (F:∀ base:Heap,K.In base->base.Ns mainGlobals mg->aX P w K mg base CX k fa fd [x] sp) (hbind:∀ (s:Shared) (u:Value),BindsTo s fd ⟨[u],[]⟩ [(x,u)])
  (hsp:∀ H:Hp,Only H->bf K H a (ns.map V.int)->sp [.ref a] H (fun v _=>v=.bl true) fun _ _ _=>False)
  (hCX:∀ H e s',CX [] H s₁ (fun _ _ _=>False) e s'->False) :
  codeAny (model P w) callerA (.call (.ref fa) ⟨[.ref a],[]⟩) (fun r s'=>r=.ok (.ret (.bool true))/\OldK s₁.heap s'.heap/\s'.os=s₁.os/\AllBare s'.gens) s₁:=by
 have rv:=uy hi;have lenV:=hi.length;have core:∀ H:Hp,Only H->bf K H a (ns.map V.int)->jP P w H s₁.heap->(∀ b,H b≠none->b=a)->(H a≠none->K.lookup a=none) ->
   codeAny (model P w) callerA (.call (.ref fa) ⟨[.ref a],[]⟩) (fun r s'=>r=.ok (.ret (.bool true))/\OldK s₁.heap s'.heap/\s'.os=s₁.os/\AllBare s'.gens) s₁:=by
  intro H hO hS hok hA hK;have Gb:∀ {b:Addr}{o:Obj},s₁.heap.get? b=some o->H b=none->(vP s₁.heap H).get? b=some o:=fun e n=>Ke e n;have noA:∀ {b:Addr}{o:Obj}{es:Array DictEntry}{ep:Nat},s₁.heap.get? b=some o->o.data=.dict es ep->H b=none:=fun {b o es ep} e d=>by
   cases q:H b with
   | none=>rfl
   | some u =>
    have e':b=a:=hA b (by rw [q];simp);subst e';rw [ha] at e;cases e;have d':Data.seq vs.toArray _=Data.dict es ep:=d;cases d'
  have nsK:∀ {b:Addr}{m:Str->Option Value},s₁.heap.Ns b m->(vP s₁.heap H).Ns b m:=fun {b m} ⟨o,es,ep,e,d,r⟩=>⟨o,es,ep,Gb e (noA e d),d,r⟩;have hKb:K.In (vP s₁.heap H):=fun b o e=>Gb (KX b o e) (by
   cases q:H b with
   | none=>rfl
   | some u =>
    have e':b=a:=hA b (by rw [q];simp);subst e';rw [hK (by rw [q];simp)] at e;cases e)
  have hM:Mod K mg (vP s₁.heap H):=⟨hKb,nsK hns,⟨mb,nsK hb,hbb⟩,let ⟨mc,h1,h2⟩:=hlim;⟨mc,nsK h1,h2⟩⟩
  have e0:Ci P w K mg (vP s₁.heap H) callerA [] s₁ H:=⟨rfl,hM,fun b o e=>RT e,Nat.le_of_eq (Iz _ _),trivial,fun b hb=>absurd (show b∈([]:List Addr) from hb) 0x4,hok,.of_eq hg⟩
  refine codeAny_mono ((F _ hKb (nsK hns)).run callerA [] s₁ H ⟨[.ref a],[]⟩ [.ref a] [.ref a] _ _ hr e0 (hbind s₁ (.ref a)) (.cons rfl .nil) (hsp H hO hS)) fun r s' h=>?_;cases r with
  | error e=>exact (hCX H e s' h).elim
  | ok fl =>
   cases fl with
   | next=>exact False.elim h
   | brk=>exact False.elim h
   | cont=>exact False.elim h
   | ret u =>
    obtain ⟨v,H',os,bare,un,hok',r',q⟩:=h;have q':v=.bl true:=q;subst q';obtain rfl:u=Value.bool true:=r';refine ⟨rfl,OldK.of_keep fun b o e=>?_,os,bare⟩;cases q:H b with
    | none=>exact un.keep b o e q (by intro z;exact absurd (show b∈([]:List Addr) from z) 0x4) 0x4
    | some u =>
     rcases hO b with z | ⟨ob,xs,z⟩
     ·rw [q] at z;cases z
     ·have z2:=un.oA b ob _ z;obtain ⟨e1,_⟩:=hok b _ z;obtain ⟨e2,_⟩:=hok' b _ z2;rw [e] at e1;cases e1;exact e2
 cases hk:K.lookup a with
 | some o =>
  have e:=KX a o hk;rw [ha] at e;cases e;refine core (fun _=>none) (fun _=>.inl rfl) (.inr ⟨_,vs.toArray,_,hk,rfl,rfl,rfl,by rw [List.size_toArray,lenV];exact hl,by simpa using rv⟩) (fun b u z=>by have z':(none:Option HO)=some u:=z;cases z') (fun b z=>absurd rfl z) fun z=>absurd rfl z
 | none =>
  refine core (fun b=>if b=a then some (.Bx { cls:=.type "list",data:=.seq vs.toArray } (.lst (ns.map V.int))) else none) (fun b=>?_) (.inl (.inr ⟨{ cls:=.type "list",data:=.seq vs.toArray },if_pos rfl⟩)) (fun b u z=>?_) (fun b z=>?_) fun _=>hk
  ·by_cases hb:b=a
   ·exact .inr ⟨_,_,if_pos hb⟩
   ·exact .inl (if_neg hb)
  ·by_cases hb:b=a
   ·have z':=(if_pos hb).symm.trans z;cases z';subst hb;exact ⟨ha,by rw [bL];exact hl,vs,_,rv,ha⟩
   ·have z':=(if_neg hb).symm.trans z;cases z'
  ·by_cases hb:b=a
   ·exact hb
   ·exact absurd (if_neg hb) z
theorem Ss {l:PySem.W.OpenLaw}{k:Nat}{q:Program}{d:DefRec}{K:Params->PySem.W.Frag}{CX:World->Fy}{sp:World->Sp}
  (hn:l.most=some n) (hn2:n<=sizeLine) (hdf:d.params.defaults=[]) (hr:cI k callerA)
  (hY:∀ (w:World) (h:Heap),YP w h->(K w.params).In h)
  (F:∀ (w:World) (mg:Str->Option Value) (fa:Addr) (h:Heap),(K w.params).In h->h.Ns mainGlobals mg->mg d.name=some (.ref fa) ->
   ∃ fd:FuncData,(∀ (s:Shared) (u:Value),BindsTo s fd ⟨[u],[]⟩ [(x,u)]) /\
    ∀ base:Heap,(K w.params).In base->base.Ns mainGlobals mg->aX l.prog w (K w.params) mg base (CX w) k fa fd [x] (sp w))
  (hsp:∀ (w:World) (H:Hp) (a:Addr) (ns:List Int),ns.length<=n->Only H->bf (K w.params) H a (ns.map V.int)->sp w [.ref a] H (fun v _=>v=.bl true) fun _ _ _=>False)
  (hCX:∀ (w:World) (H:Hp) (s:Shared) (e:Value) (s':Shared),CX w [] H s (fun _ _ _=>False) e s'->False) :
  PySem.W.WalkO q loose XP YP l.row.toRowW d [] (fun f vs=>PySem.call f vs):=by
 refine Att.yV hn hdf fun w s₀ s₁ mg mb fa o pm cd doc a vs ns G Y ho hd hcd hmg hobj hints hlen hg=>?_;have KX:=hY w _ Y;obtain ⟨fd,hb,hF⟩:=F w mg fa _ KX G.T.g hmg;exact Ly KX G.T.g G.T.b G.T.builtins G.T.nolimit hg hobj hints (Nat.le_trans hlen hn2) hr hF hb (fun H hO hS=>hsp w H a ns hlen hO hS) fun H e s'=>hCX w H s₁ e s'
def inClass (s:Stmt) (j:Nat):Stmt:=match s with
 | .ClassDef _ _ _ body _ _ _ _ _ _ _=>body.getD j (.Pass ⟨0,0,0,0⟩)
 | _=>.Pass ⟨0,0,0,0⟩
def lN (s:Stmt):Arguments:=match s with
 | .FunctionDef _ a _ _ _ _ _ _ _ _=>a
 | _=>{ posonlyargs:=[],args:=[],vararg:=none,kwonlyargs:=[],kw_defaults:=[],kwarg:=none,defaults:=[] }
def gP (s:Stmt):List Stmt:=match s with
 | .FunctionDef _ _ b _ _ _ _ _ _ _=>b
 | _=>[]
def aH (s:Stmt):Scope:=match s with
 | .FunctionDef _ _ _ _ _ _ sc _ _ _=>sc
 | _=>{ kind:=.function,names:=[],isGenerator:=false,isCoroutine:=false }
abbrev cU:Fy:=fun _ _ _ _ _ _=>False
abbrev E0:XK:=fun _ _ _=>False
theorem bN:Passes cU X E0:=fun _ _ _ _ _ _ _ h=>h.elim
structure gQ (K:PySem.W.Frag) (x qual:Str) (st:Stmt) (f:Addr) (fd:FuncData):Prop where
 ex:∃ (oc:Value) (od:Option Addr) (kV doc pm:Value) (an:Option Addr) (cdv ct:Value) (osl:Array (Option Value)),
  fd=PySem.W.fnOf x qual (lN st) (gP st) (aH st) .none kV doc pm an cdv ct/\K.lookup f=some ⟨oc,od,.func fd,osl⟩/\PySem.W.codeIn K cdv qual=true
 kp:PySem.W.keepIn K (.ref f)=true
theorem gQ.ok {st:Stmt}{f:Addr}{N:List Str}{k:Nat} (F:gQ K x qual st f fd) (S:aY N ps (aH st)) (len:∀ vs H Q E,sp vs H Q E->vs.length=ps.length)
  (hbody:∀ (cdv:Value) (A:Around) (outer:List Env) (s:Shared) (H:Hp) (vs:List V) (Q:VK) (E:XK),cI k (A.deeper (envOfC qual (aH st) s.heap.objs.size f cdv))->sp vs H Q E ->
   ∃ t,yD (oK cU P w K mg base N qual (aH st) f cdv A outer s H E).nox (gP st) t/\t { nx:=fun _ H'=>Q .non H',rt:=Q } (start N vs) H):aX P w K mg base cU (k+1) f fd ps sp:=by
 obtain ⟨oc,od,kV,doc,pm,an,cdv,ct,osl,rfl,lk,hcd⟩:=F.ex;refine jZ lk hcd S len fun A outer s H vs Q E hr hsp=>?_;obtain ⟨t,h,q⟩:=hbody cdv A outer s H vs Q E hr hsp;exact ⟨t,h.nox,q⟩
theorem gQ.binds {st:Stmt}{f:Addr} (F:gQ K x qual st f fd)
  (h:∀ (kV doc pm:Value) (an:Option Addr) (cdv ct:Value) (us:List Value),us.length=ps.length->bindArgs (PySem.W.fnOf x qual (lN st) (gP st) (aH st) .none kV doc pm an cdv ct) ⟨us,[]⟩=pure (ps.zip us)):Binds K fd ps []:=by
 obtain ⟨oc,od,kV,doc,pm,an,cdv,ct,osl,rfl,lk,hcd⟩:=F.ex;exact .all (h kV doc pm an cdv ct)
theorem Lz {st:Stmt}{f:Addr}{oc:Value}{od an:Option Addr}{osl:Array (Option Value)}{kV doc pm cdv ct:Value} (l:K.lookup f=some ⟨oc,od,.func (PySem.W.fnOf x qual (lN st) (gP st) (aH st) .none kV doc pm an cdv ct),osl⟩)
  (c:PySem.W.codeIn K cdv qual=true) (k:PySem.W.keepIn K (.ref f)=true):gQ K x qual st f (PySem.W.fnOf x qual (lN st) (gP st) (aH st) .none kV doc pm an cdv ct):=⟨⟨oc,od,kV,doc,pm,an,cdv,ct,osl,rfl,l,c⟩,k⟩
theorem eZ (h:n<=1000):n<sizeLine:=Nat.lt_of_le_of_lt h 0x8
theorem pv (i:Nat)  (hN:X.N[i]?=some x:=by rfl) (hv:Vis X.env.scope x:=by first | exact Or.inl rfl | exact Or.inr 0x5 | exact Or.inr (Or.inr rfl)) (hd:0x1E=false:=by decide)
  (hcd:(x==("__classdict__" : Str))=false:=by decide):PE X (.Name x pos) (pP i):=Kl hN hv hd hcd
theorem aL {A:Prop} (h:B):if false=true then A else B:=by
 rw [if_neg Bool.false_ne_true];exact h
theorem bR {A:Prop} (h:A):if true=true then A else B:=by
 rw [if_pos rfl];exact h
theorem je {c A:Prop} [Decidable c] (h1:c->A) (h2:¬ c->B):if c then A else B:=by
 by_cases h:c
 ·rw [if_pos h];exact h1 h
 ·rw [if_neg h];exact h2 h
theorem uz {c A:Prop} [Decidable c] (hc:c) (h:B):if (!decide c)=true then A else B:=by
 rw [decide_eq_true hc];exact aL h
def Same (H H':Hp):Prop:=∀ b o,H b=some o->H' b=some o
theorem Same.refl (H:Hp):Same H H:=fun _ _ h=>h
theorem Same.trans (a:Same H H1) (b:Same H1 H2):Same H H2:=fun c o h=>b c o (a c o h)
theorem Same.free (e:Same H H')  (h:H' l=Option.none):H l=Option.none:=by
 cases q:H l with
 | none=>rfl
 | some o =>
  rw [e l o q] at h;cases h
theorem Same.seq (e:Same H H') (h:bf K H a xs):bf K H' a xs:=by
 rcases h with (h | ⟨o,h⟩) | h
 ·exact .inl (.inl (e _ _ h))
 ·exact .inl (.inr ⟨o,e _ _ h⟩)
 ·exact .inr h
def gC (env:Env):List (Str×NameKind)->List (Str×Addr)->List (Str×Addr)
 | [],cs=>cs
 | (n,k)::r,cs=>gC env r (if k==.free then (n,(env.cells.lookup n).getD 0)::cs else cs)
theorem uD:∀ (l:List (Str×NameKind)) (cs:List (Str×Addr)) (p:Str×Addr),p∈gC env l cs->p∈cs\/((p.1,NameKind.free)∈l/\p.2=(env.cells.lookup p.1).getD 0)
 | [],_,_,h=>.inl h
 | (n,k)::r,cs,p,h=>by
  rcases uD r _ p h with q | ⟨q,e⟩
  ·by_cases hk:k=.free
   ·subst hk;rw [if_pos (by rfl)] at q;rcases List.mem_cons.mp q with z | z
    ·subst z;exact .inr ⟨List.mem_cons_self,rfl⟩
    ·exact .inl z
   ·rw [if_neg (by simpa using hk)] at q;exact .inl q
  ·exact .inr ⟨jw _ q,e⟩
theorem uE:∀ (l:List (Str×NameKind)) (cs:List (Str×Addr)) (p:Str×Addr),p∈cs->p∈gC env l cs
 | [],_,_,h=>h
 | (n,k)::r,cs,p,h=>by
  refine uE r _ p ?_
  split
  ·exact jw _ h
  ·exact h
theorem uF:∀ (l:List (Str×NameKind)) (cs:List (Str×Addr)),(x,NameKind.free)∈l->∃ c,(x,c)∈gC env l cs
 | [],_,h=>nomatch h
 | (n,k)::r,cs,h=>by
  rcases List.mem_cons.mp h with z | z
  ·cases z;exact ⟨_,uE r _ _ (by rw [if_pos (by rfl)];exact List.mem_cons_self)⟩
  ·exact uF r _ z
theorem mG {α:Type}:∀ {l:List (Str×α)}{c:α},(x,c)∈l->∃ c',l.lookup x=some c'
 | [],_,h=>nomatch h
 | (n,d)::r,c,h=>by
  by_cases e:x=n
  ·subst e;exact ⟨d,by simp [List.lookup_cons]⟩
  ·have:(x==n)=false:=by simpa using e
   simp only [List.lookup_cons,this];rcases List.mem_cons.mp h with z | z
   ·cases z;exact absurd rfl e
   ·exact mG z
theorem qU:∀ (l:List (Str×NameKind)) (cs:List (Str×Addr)),(∀ x∈l,x.2=.free->(env.cells.lookup x.1).isSome=true) ->
  (forIn l cs fun (x:Str×NameKind) (r:List (Str×Addr))=>(match x with
   | (name,kind)=>if (kind==NameKind.free)=true then do let a <- cellOf env name;pure (ForInStep.yield ((name,a)::r)) else pure (ForInStep.yield r):Sem (ForInStep (List (Str×Addr)))))=pure (gC env l cs)
 | [],cs,_=>rfl
 | (n,k)::r,cs,h=>by
  rw [List.forIn_cons];have ih:=fun cs'=>qU r cs' fun x hx=>h x (jw _ hx)
  by_cases hk:k=.free
  ·subst hk;obtain ⟨a,ha⟩:=Option.isSome_iff_exists.mp (h (n,.free) List.mem_cons_self rfl);have hca:cellOf env n=pure a:=by unfold cellOf;rw [ha]
   have hn:gC env ((n,.free)::r) cs=gC env r ((n,a)::cs):=by
    show gC env r (if (NameKind.free==NameKind.free)=true then (n,(env.cells.lookup n).getD 0)::cs else cs)=_
    rw [if_pos (by rfl),ha];rfl
   rw [hn];simp only [beq_self_eq_true,if_true,hca,pure_bind];exact ih _
  ·have hb:(k==NameKind.free)=false:=by simpa using hk
   have hn:gC env ((n,k)::r) cs=gC env r cs:=by
    show gC env r (if (k==NameKind.free)=true then (n,(env.cells.lookup n).getD 0)::cs else cs)=_
    rw [if_neg (by simp [hb])]
   rw [hn];simp only [hb,Bool.false_eq_true,if_false,pure_bind];exact ih _
theorem pR (h:∀ x∈scope.names,x.2=.free->(env.cells.lookup x.1).isSome=true):closureFor scope env=pure (gC env scope.names []):=by
 simp only [closureFor];have:=qU (env:=env) scope.names [] h
 first
  | (rw [this];rfl)
  | (erw [this];rfl)
  | (exact (congrArg (· >>= pure) this))
theorem cY {l:List (Str×NameKind)} (h:∀ x∈l,x.2=.free->(env.cells.lookup x.1).isSome=true) {c:Addr} (e:(gC env l []).lookup x=some c):env.cells.lookup x=some c:=by
 rcases uD l [] (x,c) (PySem.mem_of_lookup e) with q | ⟨q,e'⟩
 ·exact nomatch q
 ·obtain ⟨a,ha⟩:=Option.isSome_iff_exists.mp (h _ q rfl);have ha':env.cells.lookup x=some a:=ha;have e2:c=(env.cells.lookup x).getD 0:=e';rw [ha'] at e2;rw [ha',e2];rfl
theorem kE {k':NameKind} (h:(relabel scope env).names.lookup x=some k'):∃ k,scope.names.lookup x=some k/\(k'=k\/(k=.free/\k'=.cell)):=by
 unfold relabel at h;dsimp only at h;generalize scope.names=l at h ⊢
 induction l with
 | nil=>simp at h
 | cons p r ih =>
  obtain ⟨n,k⟩:=p;rw [List.map_cons] at h
  by_cases e:x=n
  ·subst e;refine ⟨k,by simp [List.lookup_cons],?_⟩
   by_cases hc:(k==NameKind.free&&env.scope.kind==.function&&env.kindOf x==some .cell)=true
   ·simp only [hc,if_true,List.lookup_cons,beq_self_eq_true] at h;have hk:k=.free:=by
     have:=(Bool.and_eq_true_iff.mp (Bool.and_eq_true_iff.mp hc).1).1
     simpa using this
    exact .inr ⟨hk,(Option.some.inj h).symm⟩
   ·simp only [hc,if_false,List.lookup_cons,beq_self_eq_true,Bool.false_eq_true] at h;exact .inl (Option.some.inj h).symm
  ·have hb:(x==n)=false:=by simpa using e
   have h':List.lookup x (List.map (fun x=>match x with | (n,k)=>if (k==NameKind.free&&env.scope.kind==ScopeKind.function&&env.kindOf n==some NameKind.cell)=true then (n,NameKind.cell) else (n,k)) r)=some k':=by
    by_cases hc:(k==NameKind.free&&env.scope.kind==.function&&env.kindOf n==some .cell)=true
    ·simpa only [hc,if_true,List.lookup_cons,hb] using h
    ·simpa only [hc,if_false,List.lookup_cons,hb,Bool.false_eq_true] using h
   obtain ⟨k0,e0,q⟩:=ih h';exact ⟨k0,by simp only [List.lookup_cons,hb];exact e0,q⟩
theorem wA (h:scope.names.lookup x=some .free):(relabel scope env).names.lookup x=some .cell\/(relabel scope env).names.lookup x=some .free:=by
 unfold relabel;dsimp only;generalize scope.names=l at h ⊢
 induction l with
 | nil=>simp at h
 | cons p r ih =>
  obtain ⟨n,k⟩:=p;rw [List.map_cons]
  by_cases e:x=n
  ·subst e;simp only [List.lookup_cons,beq_self_eq_true] at h;cases h;generalize List.map _ r=r'
   show List.lookup x ((if (NameKind.free==NameKind.free&&env.scope.kind==.function&&env.kindOf x==some .cell)=true then (x,NameKind.cell) else (x,NameKind.free))::r')=_\/List.lookup x ((if (NameKind.free==NameKind.free&&env.scope.kind==.function&&env.kindOf x==some .cell)=true then (x,NameKind.cell) else (x,NameKind.free))::r')=_
   by_cases hc:(NameKind.free==NameKind.free&&env.scope.kind==.function&&env.kindOf x==some .cell)=true
   ·rw [if_pos hc];exact .inl (by simp [List.lookup_cons])
   ·rw [if_neg hc];exact .inr (by simp [List.lookup_cons])
  ·have hb:(x==n)=false:=by simpa using e
   simp only [List.lookup_cons,hb] at h
   by_cases hc:(k==NameKind.free&&env.scope.kind==.function&&env.kindOf n==some .cell)=true
   ·simp only [hc,if_true,List.lookup_cons,hb];exact ih h
   ·simp only [hc,if_false,List.lookup_cons,hb,Bool.false_eq_true];exact ih h
def K6 (X:Cx) (N':List Str) (scope:Scope) (s:Shared) (H:Hp) (fp:List Addr) (C:Addr):Cx where
 prog:=X.prog
 w:=X.w
 K:=X.K
 mg:=X.mg
 base:=X.base
 A:=X.A
 N:=N'
 s₀:=s
 H₀:=H
 env:=compEnvC scope (gC X.env scope.names []) C X.env
 outer:=X.stack
 stack:=X.stack
 ex:=fp
 fn:=fun _=>false
 calm:=X.calm
 pn:=[]
 xe:=fun _ _=>False
structure dw (N:List Str) (sc scope:Scope) (ts fr:List Str) (ix:List Nat):Prop where
 kind:scope.kind=.function
 LC:∀ y∈scope.names,y.2≠.cell
 nms:∀ y∈scope.names,y.2=.local->scope.names.lookup y.1=some .local
 frs:∀ y∈scope.names,y.2=.free->sc.names.lookup y.1=some .cell\/sc.names.lookup y.1=some .free
 cap:fr.map some=ix.map fun i=>N[i]?
 capf:∀ x∈fr,scope.names.lookup x=some .free
def pU (σ:St) (k:Nat) (ix:List Nat):St:=List.replicate k none++ix.map fun i=>(σ[i]?).join
def Kp (σ σ':St):Prop:=∀ (j:Nat) (v:V),σ[j]?=some (some v)->σ'[j]?=some (some v)
theorem Kp.refl (σ:St):Kp σ σ:=fun _ _ h=>h
theorem Kp.set {σ1:St}{x:Option V} (h:σ[i]?=some none) (q:Kp σ σ1):Kp σ (σ1.set i x):=fun j v e=>by
 by_cases hj:j=i
 ·subst hj;rw [h] at e;cases e
 ·rw [List.getElem?_set_ne (Ne.symm hj)];exact q j v e
def PTs (X:Cx) (ifs:List Expr) (t:TT):Prop :=
 ∀ (pins:List 0x11) (s:Shared) (σ:St) (H:Hp) (Q:Bool->Hp->Prop),Inv X pins σ H s->t σ H Q ->
  wpAny 0x7 X.A (forIn ifs true fun c r=>if r=true then do let ok <- isTrue c X.env (eval c X.env);pure (ForInStep.yield ok) else pure (ForInStep.yield r)) (TP X pins σ Q) X.xe s
def Gd:TT:=fun _ H Q=>Q true H
theorem dG {A B:Hp->Prop} (h:A H):Gd σ H (fun b H5=>if b=true then A H5 else B H5):=by
 show if true=true then A H else B H
 rw [if_pos rfl];exact h
theorem dN:PTs X [] Gd:=fun _ _ _ H _ I h=>wpAny_tests_nil ⟨H,I,h⟩
theorem wB {c:Expr}{t:TT} (h:PT X c t):PTs X [c] t:=fun pins s σ H Q I q=>wpAny_tests_one (h pins s σ H Q I q)
def kI (J:It) (D:Addr) (σ:St) (k:Nat) (ix:List Nat) (g:TG) (tt:TT) (te:TE) (Q:VK) (H1:Hp):Prop:=∃ W:Nat->Nat->List V->Hp->Prop,(∃ m,W 0 m [] (upd H1 D (.lst []))) /\
 ∀ i m ys H2,W i m ys H2->H2 D=some (.lst ys)/\((J.stop i H2/\Q (.ref D) H2)\/(J.go i H2/\∃ N:List V->Hp->Prop,(∀ zs H',N zs H'->∃ m',m'<m/\W (i+1) m' zs H')/\∀ x H3,J.yN i H2 x H3->g x (pU σ k ix) H3 fun σ2 H4=>Kp (pU σ k ix) σ2 /\
  tt σ2 H4 fun b H5=>if b=true then te σ2 H5 fun y H6=>H6 D=some (.lst ys)/\ys.length<sizeLine/\N (ys++[y]) (upd H6 D (.lst (ys++[y]))) else N ys H5))
def LK (k:Nat) (ix:List Nat) (wi:TI) (g:TG) (tt:TT) (te:TE):TE:=fun σ H Q=>wi σ H fun J H1=>∀ D,H1 D=none->kI J D σ k ix g tt te Q H1
section
variable {elt:Expr}{ifs:List Expr}{ts fr:List Str}{g:TG}
theorem LQ {k:Nat} (h:(pU σ k ix)[j]?=some (some v)):∃ a i,j=k+a/\ix[a]?=some i/\σ[i]?=some (some v):=by
 unfold pU at h
 by_cases hj:j<k
 ·rw [List.getElem?_append_left (by simpa using hj),List.getElem?_replicate,if_pos hj] at h;cases h
 ·rw [List.getElem?_append_right (by simpa using hj),List.length_replicate,iK] at h;cases e:ix[j - k]? with
  | none=>rw [e] at h;cases h
  | some i =>
   rw [e] at h;refine ⟨j - k,i,by lia,e,?_⟩;have h':(σ[i]?).join=some v:=Option.some.inj h;cases e2:σ[i]? with
   | none=>rw [e2] at h';cases h'
   | some o=>rw [e2] at h';exact congrArg some h'
theorem yW {k:Nat}:(pU σ k ix).length=k+ix.length:=by unfold pU;simp
theorem LR {h1:Heap}{tk:Nat} (S:dw X.N X.env.scope scope ts fr ix) (I:Inv X pins σ H s) (hf:∀ b∈fp,jX X pins H b) (hfp:∀ b∈fp,b<s.heap.objs.size)
  (hD:s.heap.objs.size<=D) (hC:s.heap.objs.size<=C) (hDC:D≠C) (hk:∀ b o,s.heap.get? b=some o->h1.get? b=some o) (ho:h1.get? D=some { cls:=.type "list",data:=.seq #[] }) {m0:Str->Option Value} (hn:h1.Ns C m0) :
  Inv 0x29 [] (pU σ ts.length ix) (upd H D (.lst [])) { s with heap:=h1,toks:=tk }:=by
 have hcl:∀ x∈scope.names,x.2=.free->(X.env.cells.lookup x.1).isSome=true:=fun x hx hfx=>by
  obtain ⟨c,hc⟩:=I.ok.has x.1 (S.frs x hx hfx);rw [hc];rfl
 have a0m:∀ b,s.heap.objs.size<=b->∀ x c,X.env.cells.lookup x=some c->c≠b:=fun b hb x c e z=>by
  obtain ⟨v,q⟩:=I.cell x c e;exact absurd (Nat.lt_of_lt_of_le q.lt (by rw [z];exact hb)) (Nat.lt_irrefl _)
 have hasC:∀ x,scope.names.lookup x=some .free->∃ c,(gC X.env scope.names []).lookup x=some c/\X.env.cells.lookup x=some c:=fun x hx=>by
  obtain ⟨c,hc⟩:=uF (env:=X.env) scope.names [] (PySem.mem_of_lookup hx);obtain ⟨c',hc'⟩:=mG hc;exact ⟨c',hc',cY hcl hc'⟩
 have hfrs:∀ b∈fp,b∉frs X.stack:=fun b hb z=>by
  obtain ⟨_,f1,f2,_⟩:=hf b hb;rcases List.mem_cons.mp (I.qH b z) with e | e
  ·exact f1 e
  ·exact f2 e
 have hCn:H C=none:=I.hok.fresh hC;have hDn:H D=none:=I.hok.fresh hD;refine ⟨⟨I.ok.mod,?_,I.ok.glob,I.ok.blt,hC,fun x y c h1 h2=>?_,fun x hx=>?_,fun x c hfx=>?_,I.ok.hd,I.ok.frames,.inl rfl,fun b hb=>⟨?_,fun x c e=>?_⟩,I.bs,Nat.le_trans I.ok.Kf I.sz,fun b o e hb=>?_,hfrs,I.stack,I.vQ⟩,
  rfl,I.bare,Un.laid hk hD hDn,⟨m0,hn,fun i x v e1 e2 e3=>?_⟩,fun x c e=>?_,?_,fun x c e=>?_,fun p hp=>?_,I.hok.laid hk hD ⟨?_,[],0,.nil,ho⟩,?_⟩
 ·show (relabel scope X.env).kind=_
  exact S.kind
 ·exact I.ok.inj x y c (cY hcl h1) (cY hcl h2)
 ·have hx':(relabel scope X.env).names.lookup x=some .cell\/(relabel scope X.env).names.lookup x=some .free:=hx;have hfree:scope.names.lookup x=some .free:=by
   rcases hx' with q | q
   ·obtain ⟨k,e,z⟩:=kE q;rcases z with z | ⟨z,_⟩
    ·subst z;exact absurd rfl (S.LC _ (PySem.mem_of_lookup e))
    ·rw [e,z]
   ·obtain ⟨k,e,z⟩:=kE q;rcases z with z | ⟨_,z⟩
    ·rw [e,<- z]
    ·cases z
  obtain ⟨c,hc,_⟩:=hasC x hfree;exact ⟨c,hc⟩
 ·exact absurd (show false=true from hfx) 0x8
 ·exact Nat.ne_of_lt (Nat.lt_of_lt_of_le (hfp b hb) hC)
 ·exact (hf b hb).2.2.2.2.1 x c (cY hcl e)
 ·have f:=hf b hb;rcases f.2.2.2.1 with z | z
  ·exact I.ok.yK b o e z
  ·exact absurd (Nat.lt_of_lt_of_le (Heap.lt_size (I.ok.bs b o e).1) z) (Nat.lt_irrefl _)
 ·obtain ⟨a,i',hj,hi,hσ⟩:=LQ e2;subst hj;have e1':(ts++fr)[ts.length+a]?=some x:=e1;rw [List.getElem?_append_right 0x1,Nat.add_sub_cancel_left] at e1';have hN:X.N[i']?=some x:=by
   have q:=congrArg (fun l=>l[a]?) S.cap;simp only [iK,e1',hi] at q;exact (Option.some.inj q).symm
  have hfree:=S.capf x (jL e1');have hk':=S.frs (x,.free) (PySem.mem_of_lookup hfree) rfl;obtain ⟨m,hnm,hl⟩:=I.loc;obtain ⟨u,r,lk⟩:=hl i' x v hN hσ (.inr hk');refine ⟨u,r,?_⟩;obtain ⟨c,hc,hc'⟩:=hasC x hfree;rcases lk with ⟨z,_⟩ | ⟨_,c2,e4,z⟩
  ·have z':X.env.scope.names.lookup x=some .local:=z;rcases hk' with y | y
   ·have y':X.env.scope.names.lookup x=some .cell:=y;rw [z'] at y';cases y'
   ·have y':X.env.scope.names.lookup x=some .free:=y;rw [z'] at y';cases y'
  ·have hcc:c2=c:=Option.some.inj (e4.symm.trans hc');rw [hcc] at z;obtain ⟨o,ho2,hd2⟩:=z;exact .inr ⟨wA hfree,c,hc,o,hk _ _ ho2,hd2⟩
 ·obtain ⟨v,o,ho2,hd2⟩:=I.cell x c (cY hcl e);exact ⟨v,o,hk _ _ ho2,hd2⟩
 ·show upd H D (.lst []) C=none
  rw [aA (Ne.symm hDC)];exact hCn
 ·show upd H D (.lst []) c=none
  rw [aA (a0m D hD x c (cY hcl e))];exact I.gM x c (cY hcl e)
 ·exact absurd (show p∈([]:List 0x11) from hp) 0x4
 ·exact Nat.zero_le _
 ·have e:=congrArg List.length S.cap;simp only [bL] at e;rw [yW]
  show _=(ts++fr).length
  rw [jj,e]
theorem uG {Q:VK}{use:Option (Value->Sem Unit)}{Qv:Value->Shared->Prop} (hc:X.calm=true) (S:dw X.N X.env.scope scope ts fr ix) (hi:PI X tg iter wi)
  (hb:∀ s H fp C,PG 0x29 tg g/\PTs 0x29 ifs tt/\PE 0x29 elt te)
  (hs:∀ x,foldedSetIterable iter X.env x=pure x) (I:Inv X pins σ H s) (h:LK ts.length ix wi g tt te σ H Q)
  (fin:∀ (D C:Addr) (H':Hp) (s':Shared),Inv X pins σ H' s'->jX X pins H' C->(∃ m,s'.heap.Ns C m)->Q (.ref D) H'->compPost 0x7 X.A X.xe use Qv (.ref D) C (.ok .next) s') :
  wpAny 0x7 X.A (comprehension 0x24 scope X.env (firstIterPos [⟨tg,iter,ifs,0⟩] pos) (newList []) false (eval iter X.env) use) Qv X.xe s:=by
 have hcl:∀ x∈scope.names,x.2=.free->(X.env.cells.lookup x.1).isSome=true:=fun x hx hfx=>by
  obtain ⟨c,hc⟩:=I.ok.has x.1 (S.frs x hx hfx);rw [hc];rfl
 refine wpAny_comprehension_free (use:=use) rfl hs (pR hcl) S.kind S.nms (cB (hi pins s σ H _ I h) fun v s1 h1=>cB h1 fun itv s2 h2=>?_);obtain ⟨it,fp,tn,J,H2,rfl,I2,T,st2,f2,hW⟩:=h2;refine wpAny_newObj_type (wpAny_newFunctionEnv S.LC (by intro y hy;simp at hy) (fun h₁ hns₁ hsb₁=>?_) S.kind);dsimp only at hns₁ hsb₁ ⊢;generalize hH2:s2.heap.push { cls:=.type "list",dict:=none,data:=.seq ([]:List Value).toArray }=G2 at hns₁ hsb₁ ⊢;have hCs:G2.objs.size=s2.heap.objs.size+1:=by rw [<- hH2,Heap.size_push]
 have hDC:s2.heap.objs.size≠G2.objs.size:=by rw [hCs];exact Nat.ne_of_lt (Nat.lt_succ_self _)
 have hCle:s2.heap.objs.size<=G2.objs.size:=by rw [hCs];exact Nat.le_succ _
 have old:∀ b o,s2.heap.get? b=some o->h₁.get? b=some o:=fun b o e=>hsb₁.extBut b o (by rw [hCs];exact Nat.ne_of_lt (Nat.lt_succ_of_lt (Heap.lt_size e))) (Heap.get?_push_of_some _ (hH2 ▸ Heap.get?_push_of_some _ e));have hacc:h₁.get? s2.heap.objs.size=some { cls:=.type "list",data:=.seq #[] }:=hsb₁.extBut _ _ hDC (Heap.get?_push_of_some _ (hH2 ▸ Heap.get?_push_size _ rfl));have hfp:∀ b∈fp,b<s2.heap.objs.size:=fun b hb'=>by
  obtain ⟨o,e,_⟩:=T.obj _ _ st2 b hb';exact Heap.lt_size e
 have IC:Inv (K6 X (ts++fr) scope s2 H2 fp G2.objs.size) [] (pU σ ts.length ix) (upd H2 s2.heap.objs.size (.lst [])) { s2 with heap:=h₁,toks:=s2.toks+([]:List (Str×Value)).length } :=
  LR S I2 f2 hfp 0x6 hCle hDC old hacc hns₁
 have st1:tn 0 h₁:=T.keep _ _ _ st2 fun b hb' o e=>old b o e;obtain ⟨W,⟨m0,w0⟩,turn⟩:=hW s2.heap.objs.size I2.fresh;obtain ⟨bg,bt,be⟩:=hb s2 H2 fp G2.objs.size;generalize hX:K6 X (ts++fr) scope s2 H2 fp G2.objs.size=Y at IC bg bt be;have eP:Y.prog=X.prog:=by rw [<- hX];rfl
 have eW:Y.w=X.w:=by rw [<- hX];rfl
 have eK:Y.K=X.K:=by rw [<- hX];rfl
 have eC:Y.calm=true:=by rw [<- hX];exact hc
 have eA:Y.A=X.A:=by rw [<- hX];rfl
 have eE:Y.env=compEnvC scope (gC X.env scope.names []) G2.objs.size X.env:=by rw [<- hX];rfl
 have eX:Y.xe=fun _ _=>False:=by rw [<- hX];rfl
 have stat:∀ {H':Hp},(∀ b∈fp,H' b=none)->∀ b∈fp,jX Y [] H' b:=fun hn b hb'=>by
  rw [<- hX];have z:=IC.ok;rw [<- hX] at z;refine ⟨hn b hb',(z.ZX b hb').1,z.BK b hb',.inl hb',(z.ZX b hb').2,fun p hp=>absurd (show p∈([]:List 0x11) from hp) 0x4⟩
 have fr0:∀ b∈fp,upd H2 s2.heap.objs.size (.lst []) b=none:=fun b hb'=>by rw [aA (Nat.ne_of_lt (hfp b hb'))];exact (f2 b hb').1
 have bot:∀ {α:Type}{t:Sem α}{R:α->Shared->Prop}{E:Value->Shared->Prop}{z:Shared},wpAny (model Y.prog Y.w) Y.A t R Y.xe z->wpAny 0x7 X.A t R E z:=fun {α t R E z} q=>by
  rw [eP,eW,eA,eX] at q;exact wpAny_mono q (fun _ _ y=>y) fun _ _ y=>y.elim
 have loop:codeAny 0x7 X.A (.compLoop 0x24 0 (.ref it) (.ref s2.heap.objs.size) (compEnvC scope (gC X.env scope.names []) G2.objs.size X.env))
   (compPost 0x7 X.A X.xe use Qv (.ref s2.heap.objs.size) G2.objs.size) { s2 with heap:=h₁,toks:=s2.toks+([]:List (Str×Value)).length }:=by
  rw [<- eE];refine codeAny_loop rfl (fun n s'=>∃ i ys H',Inv Y [] (pU σ ts.length ix) H' s'/\tn i s'.heap/\(∀ b∈fp,H' b=none)/\W i n ys H') (fun n s3 hI=>?_) m0 ⟨0,[],_,IC,st1,fr0,w0⟩;obtain ⟨i,ys,H3,I3,st3,fr3,w3⟩:=hI
  show wpAny _ _ ((compTurn 0x24 0 (.ref it) (.ref s2.heap.objs.size) Y.env).onRaise (fun x=>do noteFrame x Y.env;theTreesLotGoes x)) _ _ s3
  refine wpAny_noted ?_;rw [compTurn_list];obtain ⟨Sv,hcase⟩:=turn i n ys H3 w3;rcases hcase with ⟨stop,qn⟩ | ⟨go,N,hN,step⟩
  ·have q:=T.done Y eP eW eK eC i [] s3 _ H3 (fun _ _=>False) I3 (stat fr3) st3 stop;rw [eA] at q;refine wpAny_bind (wpAny_standAt (wpAny_bind (wpAny_mono q (fun r s4 ⟨hr,I4⟩=>?_) fun _ _ y=>y.elim)));subst hr;refine wpAny_pure ?_;have b4:Un (frs X.stack) fp H2 H3 s2.heap s4.heap:=by have z:=I4.base;rw [<- hX] at z;exact z
   have ok4:jP X.prog X.w H3 s4.heap:=by have z:=I4.hok;rw [eP,eW] at z;exact z
   have os4:s4.os=s2.os:=by have z:=I4.os;rw [<- hX] at z;exact z
   have I5:Inv X pins σ H3 s4:=I2.call' os4 b4 ok4 I4.bare fun b hb'=>⟨(f2 b hb').2.2.2.1,(f2 b hb').2.1,(f2 b hb').2.2.2.2.1,(f2 b hb').2.2.2.2.2⟩;have fC:H3 G2.objs.size=none:=by have z:=I4.free;rw [eE] at z;exact z
   have nC:∃ m,s4.heap.Ns G2.objs.size m:=by obtain ⟨m,z,_⟩:=I4.loc;rw [eE] at z;exact ⟨m,z⟩
   exact fin _ _ H3 s4 I5 (I2.tQ hCle fC) nC qn
  ·have q:=T.item Y eP eW eK eC i [] s3 _ H3 (fun _ _=>False) I3 (stat fr3) st3 go;rw [eA] at q;refine wpAny_bind (wpAny_standAt (wpAny_bind (wpAny_mono q (fun r s4 ⟨u,hr,h4⟩=>?_) fun _ _ y=>y.elim)));subst hr;refine wpAny_bind (wpAny_mono h4 (fun _ s5 ⟨x,H5,I5,r5,y5,WK,fr5⟩=>?_) fun _ _ y=>y.elim);have I5':=I5.pinned (stat fr5) (T.obj _ _ WK);refine wpAny_bind (bot (cB (bg _ s5 _ H5 x u _ I5' r5 (step x H5 y5)) fun _ s6 zq=>?_));obtain ⟨σ6,H6,I6,kp6,q6⟩:=zq;refine wpAny_bind (bot (cB (bt _ s6 σ6 H6 _ I6 q6) fun ok s7 zq=>?_));obtain ⟨H7,I7,q7⟩:=zq;have again:∀ {H8:Hp}{s8:Shared}{zs:List V}{m':Nat},Inv Y ([]++qL fp s5.heap) σ6 H8 s8->m'<n->W (i+1) m' zs H8->∃ m,m<n/\∃ i ys H',Inv Y [] (pU σ ts.length ix) H' s8/\tn i s8.heap/\(∀ b∈fp,H' b=none)/\W i m ys H':=fun {H8 s8 zs m'} I8 hm w8=>by
    refine ⟨m',hm,i+1,zs,H8,(I8.n6).weak ?_ kp6,T.keep _ _ _ WK fun b hb' o e=>(I8.pin (b,o) (List.mem_append_right _ (List.mem_append_right _ (jA hb' e)))).1,fun b hb'=>?_,w8⟩
    ·rw [I8.len,I3.len]
    ·obtain ⟨o,e,d⟩:=T.obj _ _ WK b hb';exact (I8.pin (b,o) (List.mem_append_right _ (List.mem_append_right _ (jA hb' e)))).2.1
   cases ok with
   | false =>
    rw [if_neg 0x8] at q7;obtain ⟨m',hm,w8⟩:=hN _ _ q7;exact wpAny_pure ⟨rfl,again I7 hm w8⟩
   | true =>
    rw [if_pos rfl] at q7;refine wpAny_bind (wpAny_bind (bot (cB (be _ s7 σ6 H7 _ I7 q7) fun u8 s8 zq=>?_)));obtain ⟨y8,H8,I8,r8,hD8,hz,n8⟩:=zq;obtain ⟨m',hm,w8⟩:=hN _ _ n8;refine wpAny_bind (bot (cB (c7 _ s8 σ6 H8 (.ref s2.heap.objs.size) [y8] _ [u8] (fun _ H9=>H9=upd H8 s2.heap.objs.size (.lst (ys++[y8]))) I8 rfl (.cons r8 .nil) ⟨_,ys,y8,rfl,rfl,hD8,hz,rfl⟩) fun _ s9 zq=>?_));obtain ⟨_,H9,I9,_,e9⟩:=zq;subst e9;exact wpAny_pure (wpAny_pure ⟨rfl,again I9 hm w8⟩)
 exact codeAny_compStart_list loop (T.self _ 0 _ _ _ st1 loop)
theorem eN (hc:X.calm=true) (S:dw X.N X.env.scope scope ts fr ix) (hi:PI X tg iter wi)
  (hb:∀ s H fp C,PG 0x29 tg g/\PTs 0x29 ifs tt/\PE 0x29 elt te)
  (hs:∀ x,foldedSetIterable iter X.env x=pure x:=by intro _;rfl):PE X 0x24 (LK ts.length ix wi g tt te):=by
 intro pins s σ H Q I h;rw [eval_ListComp];refine uG (use:=none) (Qv:=EP X pins σ Q) hc S hi hb hs I h fun D C H' s' I' f' n' q'=>?_;obtain ⟨m,hm⟩:=n';refine ⟨m,hm,fun h' sb=>⟨.ref D,H',?_,rfl,q'⟩⟩;exact I'.turned (t':=s'.toks) (fun b o hb' e=>(sb.2 b hb').trans e) f'.1 f'.2.1 f'.2.2.2.1 f'.2.2.2.2.1 f'.2.2.2.2.2
theorem qe {pos2:Pos} (hc:X.calm=true) (S:dw X.N X.env.scope scope ts fr ix) (hi:PI X tg iter wi)
  (hb:∀ s H fp C,PG 0x29 tg g/\PTs 0x29 ifs tt/\PE 0x29 elt te)
  (hN:X.N.Nodup) (hix:X.N[i]?=some x) (hx:Loc X.env.scope x)
  (hw:swapsWith 0x24 (some (.Name x pos')) pos2.line X.env=pure true:=by rfl)
  (hf:X.fn x=true\/X.env.scope.names.lookup x=some .local:=by first | exact .inl rfl | exact .inr rfl | assumption)
  (hs:∀ x,foldedSetIterable iter X.env x=pure x:=by intro _;rfl) :
  PS X (.Assign [.Name x pos'] 0x24 pos2) (fun D σ H=>LK ts.length ix wi g tt te σ H fun v H'=>D.nx (σ.set i (some v)) H'):=by
 intro pins s σ H D I h;rw [exec_Assign_Name_used _ _ _ _ hw];refine wpAny_bind (wpAny_standAt (wpAny_bind ?_))
 show wpAny _ X.A (do let _ <- comprehension 0x24 scope X.env _ (newList []) false (eval iter X.env) (some (assign (.Name x pos') X.env))) _ _ s
 refine wpAny_bind (wpAny_mono (uG (use:=some (assign (.Name x pos') X.env)) (Qv:=fun _ s'=>SP X pins D .next s') hc S hi hb hs I h fun D' C H' s' I' f' n' q'=>?_) (fun _ s' hq=>wpAny_pure (wpAny_pure hq)) fun _ _ e=>e);obtain ⟨m,hm⟩:=n';refine wpAny_assign_Name (uc I' hN hix hx (v:=.ref D') rfl (fun s'' I'' ⟨a,sb,ha⟩=>?_) hf);have hCa:C≠a:=by
  rcases ha with rfl | ha
  ·exact f'.2.1
  ·exact fun z=>f'.2.2.2.2.1 _ _ ha z.symm
 refine ⟨m,hm.sameBut sb hCa,fun h' sb'=>⟨_,H',?_,q'⟩⟩;exact I''.turned (t':=s''.toks) (fun b o hb' e=>(sb'.2 b hb').trans e) f'.1 f'.2.1 f'.2.2.2.1 f'.2.2.2.2.1 f'.2.2.2.2.2
end
abbrev qW (D:Addr) (σ:St) (k:Nat) (ix:List Nat) (g:TG) (tt:TT) (te:TE) (x:V) (ys:List V) (H:Hp) (N:List V->Hp->Prop):Prop :=
 g x (pU σ k ix) H fun σ2 H4=>Kp (pU σ k ix) σ2/\tt σ2 H4 fun b H5=>if b=true then te σ2 H5 fun y H6=>H6 D=some (.lst ys)/\ys.length<sizeLine/\N (ys++[y]) (upd H6 D (.lst (ys++[y]))) else N ys H5
theorem qg {item:Nat->V}{k:Nat}{g:TG}{Q:VK} (Pv:Nat->List V->Hp->Prop)
  (hJ:∀ i ys H,Pv i ys H->(i<n->J.go i H/\∀ x H',J.yN i H x H'->H'=H/\x=item i)/\(n<=i->J.stop i H)) (h0:Pv 0 [] (upd H1 D (.lst []))) (hD:∀ i ys H,Pv i ys H->H D=some (.lst ys))
  (hs:∀ i ys H,i<n->Pv i ys H->qW D σ k ix g tt te (item i) ys H (Pv (i+1))) (hd:∀ ys H,Pv n ys H->Q (.ref D) H):kI J D σ k ix g tt te Q H1:=by
 refine ⟨fun i m ys H=>m=n - i/\i<=n/\Pv i ys H,⟨n,by simp,Nat.zero_le _,h0⟩,?_⟩;rintro i m ys H ⟨rfl,hi,p⟩;refine ⟨hD i ys H p,?_⟩;obtain ⟨h1,h2⟩:=hJ i ys H p
 by_cases hlt:i<n
 ·obtain ⟨hg,hy⟩:=h1 hlt;refine .inr ⟨hg,Pv (i+1),fun zs H' p'=>⟨n - (i+1),by lia,rfl,hlt,p'⟩,fun x H' y=>?_⟩;obtain ⟨rfl,rfl⟩:=hy x H' y;exact hs i ys H' hlt p
 ·have e:i=n:=by lia
  subst e;exact .inl ⟨h2 0x6,hd ys H p⟩
theorem jD {lo:Int}{k:Nat}{g:TG}{Q:VK} (Pv:Nat->List V->Hp->Prop) (h0:Pv 0 [] (upd H1 D (.lst []))) (hD:∀ i ys H,Pv i ys H->H D=some (.lst ys))
  (hs:∀ i ys H,i<n->Pv i ys H->qW D σ k ix g tt te (.int (lo+i)) ys H (Pv (i+1))) (hd:∀ ys H,Pv n ys H->Q (.ref D) H):kI (WD lo n) D σ k ix g tt te Q H1 :=
 qg (item:=fun i=>.int (lo+i)) Pv (fun i ys H _=>⟨fun h=>⟨h,fun x H' y=>y⟩,fun h=>h⟩) h0 hD hs hd
theorem gY {k:Nat}{g:TG}{Q:VK} (Pv:Nat->List V->Hp->Prop) (hl:∀ i ys H,Pv i ys H->bf K H a xs) (h0:Pv 0 [] (upd H1 D (.lst []))) (hD:∀ i ys H,Pv i ys H->H D=some (.lst ys))
  (hs:∀ i ys H x,xs[i]?=some x->Pv i ys H->qW D σ k ix g tt te x ys H (Pv (i+1))) (hd:∀ ys H,Pv xs.length ys H->Q (.ref D) H):kI (Vh K a) D σ k ix g tt te Q H1 :=
 qg (n:=xs.length) (item:=fun i=>xs.getD i .non) Pv (fun i ys H p=>⟨fun h=>⟨⟨xs,xs[i],hl i ys H p,by simp [h]⟩,fun x H' y=>⟨y.1,by
  have:=y.2 xs (hl i ys H p);rw [iw,this];rfl⟩⟩,fun h=>⟨xs,hl i ys H p,h⟩⟩) h0 hD (fun i ys H h p=>hs i ys H _ (by rw [iw,dB h];rfl) p) hd
theorem Ma {k:Nat}{g:TG}{Q:VK} (Pv:Nat->List V->Hp->Prop) (hl:∀ i ys H,Pv i ys H->bF K H a xs) (h0:Pv 0 [] (upd H1 D (.lst []))) (hD:∀ i ys H,Pv i ys H->H D=some (.lst ys))
  (hs:∀ i ys H x,xs[i]?=some x->Pv i ys H->qW D σ k ix g tt te x ys H (Pv (i+1))) (hd:∀ ys H,Pv xs.length ys H->Q (.ref D) H):kI (Itt K a) D σ k ix g tt te Q H1 :=
 qg (n:=xs.length) (item:=fun i=>xs.getD i .non) Pv (fun i ys H p=>⟨fun h=>⟨⟨xs,xs[i],hl i ys H p,by simp [h]⟩,fun x H' y=>⟨y.1,by
  have:=y.2 xs (hl i ys H p);rw [iw,this];rfl⟩⟩,fun h=>⟨xs,hl i ys H p,h⟩⟩) h0 hD (fun i ys H h p=>hs i ys H _ (by rw [iw,dB h];rfl) p) hd
abbrev dW (l:List Nat):Str:=⟨l.toArray⟩
theorem kJ (x:Str):dW x.cps.toList=x:=by cases x;simp [dW]
theorem gb (l:List Nat):(dW l).length=l.length:=by simp [dW,Str.length]
theorem Sw {y:Str} (h:x.cps.toList=y.cps.toList):x=y:=by
 rw [<- kJ x,<- kJ y,h]
def pW {α:Type} (xs:List α) (lo hi:Option Int):List α:=(xs.drop (HT.cX xs.length 0 lo)).take (HT.cX xs.length xs.length hi - HT.cX xs.length 0 lo)
theorem qX (lo hi:Option Int) (n:Nat):Builtin.Str.strSliceIndices lo hi 1 n=(List.range (HT.cX n n hi - HT.cX n 0 lo)).map (HT.cX n 0 lo+·):=by
 rw [<- sliceRange_one];unfold Builtin.Str.strSliceIndices;simp only [show (1:Int) > 0 by decide,if_true]
 congr 1
 ·cases lo with
  | none=>simp [HT.cX]
  | some i=>simp only [HT.cX];by_cases h:i<0 <;> simp only [h,if_true,if_false] <;> lia
 ·cases hi with
  | none=>simp [HT.cX]
  | some i=>simp only [HT.cX];by_cases h:i<0 <;> simp only [h,if_true,if_false] <;> lia
theorem Cr (x:Str) (lo hi:Option Int):Txt.slice x lo hi=dW (pW x.cps.toList lo hi):=by
 have e:(Builtin.Str.strSliceIndices lo hi 1 x.length).filterMap (x.cps[·]?)=pW x.cps.toList lo hi:=by
  rw [qX,pick_run];unfold pW;simp only [Str.length,Array.length_toList]
 unfold Txt.slice
 split
 ·rename_i h
  have hl:(Builtin.Str.strSliceIndices lo hi 1 x.length).length=x.length:=by simpa using h
  have h1:pW x.cps.toList lo hi=x.cps.toList:=by
   rw [qX,bL,List.length_range] at hl;have hn:x.length=x.cps.toList.length:=by simp [Str.length]
   rw [hn] at hl;have b1:=HT.KZ x.cps.toList.length x.cps.toList.length 0x6 hi;unfold pW
   by_cases h0:HT.cX x.cps.toList.length 0 lo=0
   ·rw [h0,List.drop_zero,List.take_of_length_le 0x1]
   ·have:x.cps.toList.length=0:=by lia
    have h2:x.cps.toList=[]:=List.length_eq_zero_iff.mp this;rw [h2];simp
  rw [h1,kJ]
 ·rw [e]
theorem Je:jM X (compareOp .Gt) (fun x y H Q=>∃ i j,x=.str i/\y=.str j/\Q (.bl (decide (j.cps.toList<i.cps.toList))) H):=by
 intro pins s σ H x y v u Q I rx ry h;obtain ⟨i,j,rfl,rfl,q⟩:=h;obtain ⟨t,rfl⟩:=rx;obtain ⟨t',rfl⟩:=ry;exact PySem.P.gt_str (bT I q rfl)
inductive Mf (x:V) (lo hi:Option Int) (H:Hp) (Q:VK):Prop
 | mk (z:Str) (_:x=.str z) (_:z.length<=sizeLine) (_:Q (.str (dW (pW z.cps.toList lo hi))) H):Mf x lo hi H Q
def rSlS:V->Option Int->Option Int->Hp->VK->Prop:=fun x lo hi H Q=>Mf x lo hi H Q
theorem Mg:SlR X rSlS:=by
 intro pins s σ H x v vl vu lo hi sl Q I rx hs pl pu h;obtain ⟨z,rfl,K7,q⟩:=h;obtain ⟨t,rfl⟩:=rx;obtain ⟨l,rfl,el⟩:∃ l:Option (Int×Tok),vl=partValue l/\l.map (·.1)=lo:=by
  cases pl with
  | none=>exact ⟨none,rfl,rfl⟩
  | int i t=>exact ⟨some (i,t),rfl,rfl⟩
 obtain ⟨u,rfl,eu⟩:∃ l:Option (Int×Tok),vu=partValue l/\l.map (·.1)=hi:=by
  cases pu with
  | none=>exact ⟨none,rfl,rfl⟩
  | int i t=>exact ⟨some (i,t),rfl,rfl⟩
 subst el eu;refine ⟨"str",_,F.slot_str_getitem.lookup,typeIs_str s z t,wpAny_getItem_str_slice (l:=l) (u:=u) (st:=none) hs rfl ?_⟩;have e:=Cr z (l.map (·.1)) (u.map (·.1));unfold Txt.slice at e;unfold sliceMade;have hp:slicePicked z l u none=Builtin.Str.strSliceIndices (l.map (·.1)) (u.map (·.1)) 1 z.length:=rfl;rw [hp];have h1:(((none:Option (Int×Tok)).map (·.1)).getD 1==1&&(Builtin.Str.strSliceIndices (l.map (·.1)) (u.map (·.1)) 1 z.length).length==z.length)=((1:Int)==1&&(Builtin.Str.strSliceIndices (l.map (·.1)) (u.map (·.1)) 1 z.length).length==z.length):=rfl;rw [h1]
 by_cases hc:((1:Int)==1&&(Builtin.Str.strSliceIndices (l.map (·.1)) (u.map (·.1)) 1 z.length).length==z.length)=true
 ·rw [if_pos hc] at e ⊢;exact ⟨.str z,H,I,⟨t,rfl⟩,by rw [<- e] at q;exact q⟩
 ·rw [if_neg hc] at e ⊢;rw [<- e] at q;refine ⟨?_,⟨.str _,H,I.tok _,⟨_,rfl⟩,q⟩⟩;have hle:=Txt.slice_le z (l.map (·.1)) (u.map (·.1));unfold Txt.slice at hle;rw [if_neg hc] at hle;exact Nat.le_trans hle K7
def Its (x:Str):It:=⟨fun i _=>i<x.cps.toList.length,fun i H v H'=>H'=H/\∃ c,x.cps.toList[i]?=some c/\v=.str (dW [c]),fun i _=>x.cps.toList.length<=i⟩
theorem yX (it:Addr) (x:Str) (t:Tok) (ty:String)
  (hn:["enumerate", "zip", "dict_itemiterator", "dict_reverseitemiterator", "odict_iterator", "itertools.zip_longest", "itertools.pairwise"].contains ty=false)
  (W:∀ A':Around,A'.handled=none->Walks P w A' it [it] [it] x.cps.size (SignAt x) (fun i h=>h.IsStrIter it ty x t i))
  (hself:∀ (A:Around) (i:Nat) (s:Shared) (Q:Value->Shared->Prop) (E:Value->Shared->Prop),s.heap.IsStrIter it ty x t i->Q (.ref it) s->wpAny (model P w) A (pyIter (.ref it)) Q E s)
  (hend:∀ (A:Around) (i:Nat) (s:Shared) (Q:Option Value->Shared->Prop) (E:Value->Shared->Prop),A.handled=none->s.heap.IsStrIter it ty x t i->x.cps[i]?=none->(∀ h',Heap.ExtBut it s.heap h'->Q none { s with heap:=h' })->wpAny (model P w) A (pyNext (.ref it)) Q E s) :
  Turn P w K tg (Its x) [it] it (fun i h=>h.IsStrIter it ty x t i) where
 mem:=by simp
 obj:=fun i h st b hb=>by
  have e:b=it:=by simpa using hb
  subst e;obtain ⟨o,e,c,d⟩:=st;exact ⟨o,e,fun v z=>by rw [d] at z;cases z⟩
 keep:=fun i h h' st k=>by
  obtain ⟨o,e,r⟩:=st;exact ⟨o,k it 0x4 o e,r⟩
 item:=by
  intro X hP hw hK hc i pins s σ H E I hf st hg;subst hP hw hK;obtain ⟨f0,f1,f2,f3,f4,f5⟩:=hf it 0x4;have hg':i<x.cps.toList.length:=hg;have hi:i<x.cps.size:=by simpa using hg'
  refine (W X.A (I.ok.hd hc)).item i s _ _ hi st fun v h' tk hv st' kk=>?_;obtain ⟨c,u,hcx,rfl⟩:=hv;have I1:Inv X pins σ H { s with heap:=h',toks:=tk }:=I.turned (fun b o hb e=>kk b o (by simpa using hb) e) f0 f1 f3 f4 f5;obtain ⟨o,e,cc,d⟩:=id st';refine ⟨_,rfl,Fo (s:={ s with heap:=h',toks:=tk }) e cc d hn ⟨.str (dW [c]),H,I1,⟨u,rfl⟩,⟨rfl,c,by simpa using hcx,rfl⟩,st',fun b hb=>(hf b hb).1⟩⟩
 done:=by
  intro X hP hw hK hc i pins s σ H E I hf st hg;subst hP hw hK;obtain ⟨f0,f1,f2,f3,f4,f5⟩:=hf it 0x4;have hg':x.cps.toList.length<=i:=hg;have hi:x.cps.size<=i:=by simpa using hg'
  have hnone:x.cps[i]?=none:=by simpa using hi
  exact hend X.A i s _ _ (I.ok.hd hc) st hnone fun h' eb=>⟨rfl,I.turned (t':=s.toks) (fun b o hb e=>eb b o hb e) f0 f1 f3 f4 f5⟩
 self:=fun A i s Q E st h=>hself A i s Q E st h
inductive Mh (R:It->Hp->Prop) (x:V) (H1:Hp):Prop
 | mk (z:Str) (_:x=.str z) (_:R (Its z) H1):Mh R x H1
def iStr (tl:TE):TI:=fun σ H R=>tl σ H fun x H1=>Mh R x H1
theorem Mi {l:Expr} (hl:PE X l tl):PI X tg l (iStr tl):=by
 intro pins s σ H R I h;refine cB (hl pins s σ H _ I h) fun v s1 zq=>?_;obtain ⟨x,H1,I1,r1,q1⟩:=zq;obtain ⟨z,rfl,q⟩:=q1;obtain ⟨t,rfl⟩:=r1;have fin:∀ ty:String,Turn X.prog X.w X.K tg (Its z) [s1.heap.objs.size] s1.heap.objs.size (fun i h=>h.IsStrIter s1.heap.objs.size ty z t i) ->
   PIE X pins σ tg R (.ref s1.heap.objs.size) { s1 with heap:=s1.heap.push { cls:=.type ty,data:=.fields #[.str z t,.int 0 0] } }:=fun ty T=>by
  refine ⟨s1.heap.objs.size,[s1.heap.objs.size],_,_,H1,rfl,I1.kept (t':=s1.toks) fun b o e=>Heap.get?_push_of_some _ e,T,0x18,fun b hb=>?_,q⟩;have e:b=s1.heap.objs.size:=by simpa using hb
  subst e;exact I1.tQ 0x6 (I1.hok.fresh 0x6)
 cases ha:z.cps.all (·<128)
 ·exact wpAny_pyIter_wide ha (fin _ (yX _ z t _ 0x8 (fun A' hA=>Walks.strWide hA _ z t) (fun A i s Q E st h=>wpAny_pyIter_striter_wide st h) fun A i s Q E hh st hx hQ=>wpAny_pyNext_wide_end hh st hx hQ))
 ·exact wpAny_pyIter_ascii ha (fin _ (yX _ z t _ 0x8 (fun A' hA=>Walks.strAscii hA _ z t) (fun A i s Q E st h=>wpAny_pyIter_striter_ascii st h) fun A i s Q E hh st hx hQ=>wpAny_pyNext_ascii_end hh st hx hQ))
theorem Sx {g:TG}{tb:TS}{D:Ends} (Pv:Nat->St->Hp->Prop) (h0:Pv 0 σ H)
  (hs:∀ i c σ H,x.cps.toList[i]?=some c->Pv i σ H->g (.str (dW [c])) σ H fun σ2 H2=>tb { D with nx:=Pv (i+1),ct:=Pv (i+1),bk:=D.nx } σ2 H2) (hd:∀ σ H,Pv x.cps.toList.length σ H->D.nx σ H) :
  ∃ W:Nat->Nat->St->Hp->Prop,(∃ m,W 0 m σ H)/\∀ i m σ H,W i m σ H ->
   ((Its x).stop i H/\D.nx σ H)\/((Its x).go i H/\∃ N:St->Hp->Prop,(∀ σ' H',N σ' H'->∃ m',m'<m/\W (i+1) m' σ' H')/\∀ v H',(Its x).yN i H v H'->g v σ H' fun σ2 H2=>tb { D with nx:=N,ct:=N,bk:=D.nx } σ2 H2):=by
 refine ⟨fun i m σ H=>m=x.cps.toList.length - i/\i<=x.cps.toList.length/\Pv i σ H,⟨_,rfl,Nat.zero_le _,h0⟩,?_⟩;rintro i m σ H ⟨rfl,hi,p⟩
 by_cases hlt:i<x.cps.toList.length
 ·refine .inr ⟨hlt,Pv (i+1),fun σ' H' p'=>⟨_,by lia,rfl,hlt,p'⟩,fun v H' y=>?_⟩;obtain ⟨rfl,c,hc,rfl⟩:=y;exact hs i c σ _ hc p
 ·have e:i=x.cps.toList.length:=by lia
  subst e;exact .inl ⟨Nat.le_refl _,hd σ H p⟩
theorem Mj {k:Nat}{g:TG}{Q:VK} (Pv:Nat->List V->Hp->Prop) (h0:Pv 0 [] (upd H1 D (.lst []))) (hD:∀ i ys H,Pv i ys H->H D=some (.lst ys))
  (hs:∀ i ys H c,x.cps.toList[i]?=some c->Pv i ys H->qW D σ k ix g tt te (.str (dW [c])) ys H (Pv (i+1))) (hd:∀ ys H,Pv x.cps.toList.length ys H->Q (.ref D) H):kI (Its x) D σ k ix g tt te Q H1 :=
 qg (n:=x.cps.toList.length) (item:=fun i=>.str (dW [x.cps.toList.getD i 0])) Pv (fun i ys H p=>⟨fun h=>⟨h,fun v H' y=>by
  obtain ⟨e,c,hc,rfl⟩:=y;exact ⟨e,by rw [iw,hc];rfl⟩⟩,fun h=>h⟩) h0 hD (fun i ys H h p=>hs i ys H _ (by rw [iw,dB h];rfl) p) hd
theorem uH:∀ {ts:List Str}{us:List Value},Vals (ts.map V.str) us->∃ l:List (Str×Tok),us=strValues l/\l.map (·.1)=ts
 | [],_,r=>by
  rw [List.map_nil] at r;cases r;exact ⟨[],rfl,rfl⟩
 | t::ts,_,r=>by
  rw [List.map_cons] at r;cases r with
  | cons r1 r2 =>
   obtain ⟨k,rfl⟩:=r1;obtain ⟨l,rfl,e⟩:=uH r2;exact ⟨(t,k)::l,rfl,by rw [List.map_cons,e]⟩
inductive Ge (K:PySem.W.Frag) (x:V) (vs:List V) (H:Hp) (Q:VK):Prop
 | mk (sep:Str) (l:Addr) (ts:List Str) (_:x=.str sep) (_:vs=[.ref l]) (_:bf K H l (ts.map V.str)) (_:JoinOk sep ts=true) (_:Q (.str (Txt.join sep ts)) H):Ge K x vs H Q
def rJoin (K:PySem.W.Frag):V->List V->Hp->VK->Prop:=fun x vs H Q=>Ge K x vs H Q
theorem Gf:MtR X "str.join" (rJoin X.K):=by
 intro pins s σ H x vs v us Q I rx rv h;obtain ⟨sep,l,ts,rfl,rfl,hq,ok,q⟩:=h;obtain ⟨t,rfl⟩:=rx;obtain ⟨u,rfl,ru⟩:=rv.one;cases ru;obtain ⟨its,r,p,hz⟩:=I.list hq;obtain ⟨l',rfl,el⟩:=uH r;exact SC.join p.isList el ok fun t' k=>⟨.str _,H,I.tok _,⟨_,rfl⟩,q⟩
theorem Cu (hc:X.calm=true) (hin:X.A.in1.handled=none):dF X (.builtin "all") (fun xs H Q=>∃ (p:Addr) (bs:List Bool),xs=[.ref p]/\bf X.K H p (bs.map V.bl)/\Q (.bl (bs.all id)) H):=by
 intro pins s σ H xs us Q I r h;obtain ⟨p,bs,rfl,hq,q⟩:=h;obtain ⟨u,rfl,ru⟩:=vals1 r;cases ru;obtain ⟨its,rv,pl,hz⟩:=I.list hq;have hlen:=rv.length;rw [bL] at hlen;have hne:p≠s.heap.objs.size:=by
  obtain ⟨o,n,e,_⟩:=pl;exact Nat.ne_of_lt (Heap.lt_size e)
 refine call_all_walk (wpAny_pyIter_list pl.isList ?_);refine ⟨s.heap.objs.size,_,_,its.toArray.size,_,_,fun i=>bs.getD i true,rfl,Walks.list hin s.heap.objs.size p hne its.toArray,⟨0x18,?_⟩,?_,?_⟩
 ·obtain ⟨o,n,e,c,d,dd⟩:=pl;exact ⟨o,Heap.get?_push_of_some _ e,c,n,dd⟩
 ·intro i v s' Q' E' hv hQ';have hv':its[i]?=some v:=by simpa using hv
  have hi:i<its.length:=(List.getElem?_eq_some_iff.mp hv').1;have hb:(bs.map V.bl)[i]?=some (V.bl (bs.getD i true)):=by
   rw [iK,dB 0x1,iw,dB 0x1];rfl
  obtain ⟨u,hu,ru⟩:=rv.get hb;rw [hv'] at hu;cases hu;cases ru;exact wpAny_truthy_bool hQ'
 ·intro h' tk kk;have e:(List.range its.toArray.size).all (fun i=>bs.getD i true)=bs.all id:=by
   rw [List.size_toArray,<- hlen,Bool.eq_iff_iff,List.all_eq_true,List.all_eq_true]
   constructor
   ·intro z b hb;obtain ⟨i,hi,rfl⟩:=List.mem_iff_getElem.mp hb;have:=z i (List.mem_range.mpr hi);rw [iw,dB hi] at this;exact this
   ·intro z i hi;have hi':=List.mem_range.mp hi;rw [iw,dB hi'];exact z _ (List.getElem_mem hi')
  rw [e];have I1:Inv X pins σ H { s with heap:=s.heap.push { cls:=.type "list_iterator",data:=.fields #[.ref p,.int 0 0] } }:=I.kept (t':=s.toks) fun b o e=>Heap.get?_push_of_some _ e;obtain ⟨f0,f1,f2,f3,f4,f5⟩:=I.tQ 0x6 (I.hok.fresh 0x6);exact ⟨.bl (bs.all id),H,I1.turned (fun b o hb e=>kk b o (by simpa using hb) e) f0 f1 f3 f4 f5,rfl,q⟩
theorem yZ:dF X (.builtin "isinstance") (fun xs H Q=>∃ x T t b,xs=[x,.ty T]/\nj X.K H x t/\PySem.W.kitOne X.K t (.type T)=some b/\Q (.bl b) H):=by
 intro pins s σ H xs us Q I r h;obtain ⟨x,T,t,b,rfl,ty,e,q⟩:=h;obtain ⟨u,u',rfl,ru,K8⟩:=vals2 r;cases K8;exact J3 I ru ty e fun tk=>⟨.bl b,H,I.tok _,rfl,q⟩
theorem iB (h:X.K=K:=by rfl):Vm X (rIxL K):=h ▸ aU
theorem gj (h:X.K=K:=by rfl):Vm X (Sh K):=h ▸ bA
theorem za (h:X.K=K:=by rfl):SlR X (rSlL K):=h ▸ nD
inductive Gg (K:PySem.W.Frag) (xs:List V) (H:Hp) (Q:VK):Prop
 | mk (p:Addr) (ys:List V) (_:xs=[.ref p]) (_:(bf K H p ys\/bF K H p ys)) (_:Q (.int ys.length) H):Gg K xs H Q
def a0n (K:PySem.W.Frag):List V->Hp->VK->Prop:=fun xs H Q=>Gg K xs H Q
theorem lO (h:X.K=K:=by rfl):dF X (.builtin "len") (a0n K):=h ▸ fun pins s σ H xs us Q I r ⟨p,ys,a,b,c⟩=>bQ pins s σ H xs us Q I r ⟨p,ys,a,b,c⟩
inductive Ml (K:PySem.W.Frag) (xs:List V) (H:Hp) (Q:VK):Prop
 | mk (x:V) (T:String) (t:Value) (b:Bool) (_:xs=[x,.ty T]) (_:nj K H x t) (_:PySem.W.kitOne K t (.type T)=some b) (_:Q (.bl b) H):Ml K xs H Q
def rIsi (K:PySem.W.Frag):List V->Hp->VK->Prop:=fun xs H Q=>Ml K xs H Q
theorem cA (h:X.K=K:=by rfl):dF X (.builtin "isinstance") (rIsi K):=h ▸ fun pins s σ H xs us Q I r ⟨p,ys,t,d,a,b,c,e⟩=>yZ pins s σ H xs us Q I r ⟨p,ys,t,d,a,b,c,e⟩
inductive Mp (K:PySem.W.Frag) (xs:List V) (H:Hp) (Q:VK):Prop
 | mk (p:Addr) (bs:List Bool) (_:xs=[.ref p]) (_:bf K H p (bs.map V.bl)) (_:Q (.bl (bs.all id)) H):Mp K xs H Q
def rAll (K:PySem.W.Frag):List V->Hp->VK->Prop:=fun xs H Q=>Mp K xs H Q
theorem jl (hc:X.calm=true) (hin:X.A.in1.handled=none) (h:X.K=K:=by rfl):dF X (.builtin "all") (rAll K):=h ▸ fun pins s σ H xs us Q I r ⟨p,ys,a,b,c⟩=>Cu hc hin pins s σ H xs us Q I r ⟨p,ys,a,b,c⟩
theorem bC:bootBuiltins "isinstance"=some (.builtin "isinstance"):=by decide +kernel
theorem qY:bootBuiltins "all"=some (.builtin "all"):=by decide +kernel
theorem Xa:bootBuiltins "max"=some (.builtin "max"):=by decide +kernel
theorem Jf:bootBuiltins "sorted"=some (.builtin "sorted"):=by decide +kernel
theorem wC:bootBuiltins "bool"=some (.type "bool"):=by decide +kernel
theorem wD:bootBuiltins "int"=some (.type "int"):=by decide +kernel
theorem Mq:bootBuiltins "str"=some (.type "str"):=by decide +kernel
theorem eO:bootBuiltins "list"=some (.type "list"):=by decide +kernel
theorem qZ:bootBuiltins "tuple"=some (.type "tuple"):=by decide +kernel
theorem Cw:bootBuiltins "zip"=some (.type "zip"):=by decide +kernel
theorem nH:bootBuiltins "enumerate"=some (.type "enumerate"):=by decide +kernel
theorem Xb {t:Addr}{its:Array Value}{x:Value} (hit:s.heap.IsTupleIter it t i) (ht:s.heap.IsTuple t its) (hx:its[i]?=some x)
  (hQ:∀ h',h'.IsTupleIter it t (i+1)->Heap.SameBut it s.heap h'->Q x { s with heap:=h' }):wpAny 0xB A (Builtin.SmallTypes.nextOf (.ref it)) Q E s:=by
 obtain ⟨o,ho,hc,hd⟩:=id hit;obtain ⟨ot,hot,_,nt,hdt⟩:=ht;unfold Builtin.SmallTypes.nextOf;refine wpAny_bind 0x30
 show wpAny _ _ (field (.ref it) 0 >>= _) _ _ s;refine wpAny_bind (wpAny_field ho hd (x:=.ref t) rfl ?_)
 show wpAny _ _ (if (Value.ref t==Value.none)=true then _ else _) _ _ s;rw [if_neg (show ¬ ((Value.ref t==Value.none)=true) from fun z=>Bool.false_ne_true z)]
 show wpAny _ _ (field (.ref it) 1 >>= _) _ _ s;refine wpAny_bind (wpAny_field ho hd (x:=.int i 0) rfl ?_)
 show wpAny _ _ (seqItems? (.ref t) >>= _) _ _ s;refine wpAny_bind (wpAny_seqItems hot hdt ?_);simp only [Int.toNat_natCast,hx]
 refine wpAny_bind (wpAny_setField ho hd 0x4 (wpAny_pure ⟨x,rfl,wpAny_pure (hQ _ ⟨_,Heap.get?_update_self _ ho (Obj.isFreed_of_fields (Obj.data_mapFields hd _)),(Obj.cls_mapFields ..).trans hc,by rw [Obj.data_mapFields hd];simp [rawInt]⟩ (Heap.SameBut.update ..))⟩))
theorem Cy {t:Addr}{its:Array Value} (hh:A.handled=none) (hit:s.heap.IsTupleIter it t i) (ht:s.heap.IsTuple t its) (hx:its[i]?=none)
  (hE:∀ h' e,Heap.ExtBut it s.heap h'->(∃ o,h'.get? e=some o/\o.cls=.type "StopIteration")->E (.ref e) { s with heap:=h' }):wpAny 0xB A (Builtin.SmallTypes.nextOf (.ref it)) Q E s:=by
 obtain ⟨o,ho,hc,hd⟩:=id hit;obtain ⟨ot,hot,_,nt,hdt⟩:=ht;unfold Builtin.SmallTypes.nextOf;refine wpAny_bind 0x30
 show wpAny _ _ (field (.ref it) 0 >>= _) _ _ s;refine wpAny_bind (wpAny_field ho hd (x:=.ref t) rfl ?_)
 show wpAny _ _ (if (Value.ref t==Value.none)=true then _ else _) _ _ s;rw [if_neg (show ¬ ((Value.ref t==Value.none)=true) from fun z=>Bool.false_ne_true z)]
 show wpAny _ _ (field (.ref it) 1 >>= _) _ _ s;refine wpAny_bind (wpAny_field ho hd (x:=.int i 0) rfl ?_)
 show wpAny _ _ (seqItems? (.ref t) >>= _) _ _ s;refine wpAny_bind (wpAny_seqItems hot hdt ?_);simp only [Int.toNat_natCast,hx]
 refine wpAny_bind (wpAny_rule (wpAny_bind (wpAny_setField ho hd 0x4 ?_)));show wpAny _ _ (newExc (.type "StopIteration") [] >>= _) _ _ _
 refine wpAny_bind ?_;simp only [newExc,newTuple];refine wpAny_bind (wpAny_newObj_type ?_ (by size_fits));refine wpAny_bind (m:=firstArgMember _ _) (wpAny_of_eq (a:=Value.none) (by first | rfl | (simp only [firstArgMember];rfl)) ?_);refine wpAny_newObj_type ?_ (by size_fits)
 simp only [raiseNew];refine wpAny_bind (wpAny_handled ?_);first | rw [show A.in1.handled=none from hh] | rw [hh]
 refine wpAny_bind (wpAny_pure (wpAny_throw (hE _ _ (((Heap.SameBut.update ..).extBut.push _).push _) ⟨_,Heap.get?_push_size _ rfl,rfl⟩)))
structure rm (P:Program) (w:World) (K:PySem.W.Frag) (it:Addr) (go stop:Nat->Hp->Prop) (yN:Nat->Hp->V->Prop) (tn:Nat->Heap->Prop):Prop where
 obj:∀ i h,tn i h->∃ o,h.get? it=some o/\∀ v,o.data≠.cell v
 keep:∀ i h h',tn i h->(∀ o,h.get? it=some o->h'.get? it=some o)->tn i h'
 item:∀ (X:Cx) (pins:List 0x11) (σ:St) (H:Hp) (s₀:Shared) (i:Nat) (fp:List Addr),X.prog=P->X.w=w->X.K=K->Inv X pins σ H s₀->(∀ b∈fp,jX X pins H b)->go i H ->
  ∃ U:Heap->Prop,U s₀.heap/\(∀ h h',U h->(∀ b o,b∉fp->h.get? b=some o->h'.get? b=some o)->U h')/\∃ x,yN i H x /\
   ∀ (A:Around) (s:Shared) (Q:Value->Shared->Prop) (E:Value->Shared->Prop),U s.heap->tn i s.heap->(∀ u h' tk,RelV x u->tn (i+1) h'->Heap.SameBut it s.heap h'->Q u { s with heap:=h',toks:=tk }) ->
    wpAny (model P w) A (Builtin.SmallTypes.nextOf (.ref it)) Q E s
 done:∀ (X:Cx) (pins:List 0x11) (σ:St) (H:Hp) (s₀:Shared) (i:Nat) (fp:List Addr),X.prog=P->X.w=w->X.K=K->Inv X pins σ H s₀->(∀ b∈fp,jX X pins H b)->stop i H ->
  ∃ U:Heap->Prop,U s₀.heap/\(∀ h h',U h->(∀ b o,b∉fp->h.get? b=some o->h'.get? b=some o)->U h') /\
   ∀ (A:Around) (s:Shared) (Q:Value->Shared->Prop) (E:Value->Shared->Prop),A.handled=none->U s.heap->tn i s.heap->(∀ h' e,Heap.ExtBut it s.heap h'->(∃ o,h'.get? e=some o/\o.cls=.type "StopIteration")->E (.ref e) { s with heap:=h' }) ->
    wpAny (model P w) A (Builtin.SmallTypes.nextOf (.ref it)) Q E s
theorem rA (I:Inv X pins σ H s) (hf:∀ b∈fp,jX X pins H b) {o:Obj} (e:X.base.get? a=some o):a∉fp:=fun hb=>by
 rcases (hf a hb).2.2.2.1 with z | z
 ·exact I.ok.yK a o e z
 ·exact absurd (Nat.lt_of_lt_of_le (Heap.lt_size (I.ok.bs a o e).1) z) (Nat.lt_irrefl _)
theorem uI (I:Inv X pins σ H s) (hf:∀ b∈fp,jX X pins H b) (h:bF X.K H a xs):a∉fp:=by
 rcases h with (h | ⟨o,h⟩) | ⟨o,its,n,hk,_⟩
 ·exact fun hb=>by rw [(hf a hb).1] at h;cases h
 ·exact fun hb=>by rw [(hf a hb).1] at h;cases h
 ·exact rA I hf (I.ok.mod.kin a o hk)
theorem lQ (I:Inv X pins σ H s) (hf:∀ b∈fp,jX X pins H b) (h:bf X.K H a xs):a∉fp:=by
 rcases h with (h | ⟨o,h⟩) | ⟨o,its,n,hk,_⟩
 ·exact fun hb=>by rw [(hf a hb).1] at h;cases h
 ·exact fun hb=>by rw [(hf a hb).1] at h;cases h
 ·exact rA I hf (I.ok.mod.kin a o hk)
theorem qj (a it:Addr):rm P w K it (fun i H=>∃ xs x,bF K H a xs/\xs[i]?=some x) (fun i H=>∃ xs,bF K H a xs/\xs.length<=i) (fun i H x=>∀ xs,bF K H a xs->xs[i]?=some x) (fun i h=>h.IsTupleIter it a i) where
 obj:=fun i h ⟨o,e,c,d⟩=>⟨o,e,fun v z=>by rw [d] at z;cases z⟩
 keep:=fun i h h' ⟨o,e,r⟩ k=>⟨o,k o e,r⟩
 item:=fun X pins σ H s₀ i fp hP hw hK I hf ⟨xs,x,hq,hx⟩=>by
  subst hP hw hK;obtain ⟨its,rv,p,_⟩:=I.tuple hq;have na:=uI I hf hq;obtain ⟨u,hu,ru⟩:=rv.get hx;refine ⟨fun h=>h.IsTuple a its.toArray,p,fun h h' ⟨o,e,r⟩ k=>⟨o,k a o na e,r⟩,x,fun ys hy=>by rw [I.uf hy hq];exact hx,fun A s Q E hU st hQ=>?_⟩;exact Xb st hU (x:=u) (by simpa using hu) fun h' st' sb=>hQ u h' s.toks ru st' sb
 done:=fun X pins σ H s₀ i fp hP hw hK I hf ⟨xs,hq,hx⟩=>by
  subst hP hw hK;obtain ⟨its,rv,p,_⟩:=I.tuple hq;have na:=uI I hf hq;have hl:=rv.length;exact ⟨fun h=>h.IsTuple a its.toArray,p,fun h h' ⟨o,e,r⟩ k=>⟨o,k a o na e,r⟩,fun A s Q E hh hU st hE=>Cy hh st hU (by simp;lia) hE⟩
theorem Gh (a it:Addr):rm P w K it (fun i H=>∃ xs x,bf K H a xs/\xs[i]?=some x) (fun i H=>∃ xs,bf K H a xs/\xs.length<=i) (fun i H x=>∀ xs,bf K H a xs->xs[i]?=some x) (fun i h=>h.IsListIter it a i) where
 obj:=fun i h ⟨o,e,c,d⟩=>⟨o,e,fun v z=>by rw [d] at z;cases z⟩
 keep:=fun i h h' ⟨o,e,r⟩ k=>⟨o,k o e,r⟩
 item:=fun X pins σ H s₀ i fp hP hw hK I hf ⟨xs,x,hq,hx⟩=>by
  subst hP hw hK;obtain ⟨its,rv,p,_⟩:=I.list hq;have na:=lQ I hf hq;obtain ⟨u,hu,ru⟩:=rv.get hx;refine ⟨fun h=>h.IsList a its.toArray,p.isList,fun h h' ⟨o,e,r⟩ k=>⟨o,k a o na e,r⟩,x,fun ys hy=>by rw [I.qK hy hq];exact hx,fun A s Q E hU st hQ=>?_⟩;exact wpAny_nextOf_list_item st hU (x:=u) (by simpa using hu) fun h' st' sb=>hQ u h' s.toks ru st' sb
 done:=fun X pins σ H s₀ i fp hP hw hK I hf ⟨xs,hq,hx⟩=>by
  subst hP hw hK;obtain ⟨its,rv,p,_⟩:=I.list hq;have na:=lQ I hf hq;have hl:=rv.length;exact ⟨fun h=>h.IsList a its.toArray,p.isList,fun h h' ⟨o,e,r⟩ k=>⟨o,k a o na e,r⟩,fun A s Q E hh hU st hE=>wpAny_nextOf_list_end hh st hU (by simp;lia) hE⟩
structure ZA (z TI TO i1 i2:Addr):Prop where
 p1:TI≠z
 p2:TO≠z
 p3:i1≠z
 p4:i2≠z
 p5:TI≠TO
 p6:TI≠i1
 p7:TI≠i2
 p8:TO≠i1
 p9:TO≠i2
 p0:i1≠i2
theorem Sy {z TI TO:Addr}{x:V}{a b:Value}{U1 U2 T1 T2 SJ T2':Heap->Prop} (D:ZA z TI TO i1 i2)
  (hz:IsZip s.heap z TI TO .none) (hTI:IsPair s.heap TI (.ref i1) (.ref i2)) (hTO:IsPair s.heap TO a b) (u1:U1 s.heap) (u2:U2 s.heap) (t1:T1 s.heap) (t2:T2 s.heap)
  (k1:∀ h h',U1 h->(∀ b o,b∉[z,TI,TO,i1,i2]->h.get? b=some o->h'.get? b=some o)->U1 h') (k2:∀ h h',U2 h->(∀ b o,b∉[z,TI,TO,i1,i2]->h.get? b=some o->h'.get? b=some o)->U2 h')
  (q1:∀ h h',T1 h->(∀ o,h.get? i1=some o->h'.get? i1=some o)->T1 h') (q2:∀ h h',T2 h->(∀ o,h.get? i2=some o->h'.get? i2=some o)->T2 h')
  (q1':∀ h h',SJ h->(∀ o,h.get? i1=some o->h'.get? i1=some o)->SJ h') (q2':∀ h h',T2' h->(∀ o,h.get? i2=some o->h'.get? i2=some o)->T2' h')
  (d1:∀ (A:Around) (s:Shared) (Q:Value->Shared->Prop) (E:Value->Shared->Prop),U1 s.heap->T1 s.heap->(∀ u h' tk,RelV x u->SJ h'->Heap.SameBut i1 s.heap h'->Q u { s with heap:=h',toks:=tk })->wpAny 0xB A (Builtin.SmallTypes.nextOf (.ref i1)) Q E s)
  (d2:∀ (A:Around) (s:Shared) (Q:Value->Shared->Prop) (E:Value->Shared->Prop),U2 s.heap->T2 s.heap->(∀ u h' tk,RelV y u->T2' h'->Heap.SameBut i2 s.heap h'->Q u { s with heap:=h',toks:=tk })->wpAny 0xB A (Builtin.SmallTypes.nextOf (.ref i2)) Q E s)
  (hQ:∀ u v h' tk,RelV x u->RelV y v->IsZip h' z TI TO (rawInt s.heap.objs.size)->IsPair h' TI (.ref i1) (.ref i2)->IsPair h' TO u v->SJ h'->T2' h'->IsPair h' s.heap.objs.size u v ->
   (∀ c o,c≠z->c≠TO->c≠i1->c≠i2->s.heap.get? c=some o->h'.get? c=some o)->Q 0x23 { s with heap:=h',toks:=tk }) :
  wpAny 0xB A (Builtin.«zip.__next__» ⟨[.ref z],[]⟩) (fun fin s'=>∃ v,fin=.done (.ret v)/\Q v s') E s:=by
 have mz:∀ {c:Addr},c∉[z,TI,TO,i1,i2]->c≠z/\c≠TO/\c≠i1/\c≠i2:=fun {c} h=>by simp at h;exact ⟨h.1,h.2.2.1,h.2.2.2.1,h.2.2.2.2⟩
 show wpAny _ _ (field (.ref z) 2 >>= _) _ _ _;refine wpAny_bind (wpAny_field hz rfl (x:=.bool false) rfl ?_)
 show wpAny _ _ (field (.ref z) 3 >>= _) _ _ _;refine wpAny_bind (wpAny_field hz rfl (x:=.ref TI) rfl (wpAny_bind (wpAny_seqItems hTI rfl ?_)))
 show wpAny _ _ (Builtin.SmallTypes.ownedTupleIsFree (.ref z) >>= _) _ _ _;refine wpAny_bind ?_;unfold Builtin.SmallTypes.ownedTupleIsFree
 refine wpAny_bind (wpAny_field hz rfl (x:=.none) rfl (wpAny_pure ?_));simp only [if_true];refine wpAny_bind (wpAny_rule (wpAny_bind (wpAny_field hz rfl (x:=.ref TO) rfl (wpAny_bind (wpAny_setField_rec hz 0x4 fun g1 hz1 hs1=>?_)))))
 replace hz1:IsZip g1 z TI TO .ellipsis:=hz1
 refine wpAny_bind ?_;simp only [List.zipIdx_cons,List.zipIdx_nil,List.forIn_cons,List.forIn_nil];refine wpAny_bind (wpAny_bind (wpAny_onRaise ?_));show wpAny _ _ (Builtin.SmallTypes.nextOf (.ref i1) >>= _) _ _ _
 refine wpAny_bind (d1 _ _ _ _ (k1 _ _ u1 fun c o hc e=>hs1.extBut _ _ (mz hc).1 e) (q1 _ _ t1 fun o e=>hs1.extBut _ _ D.p3 e) fun u g2 tk2 ru t1b hs2=>wpAny_pure ?_);have Mr:IsPair g2 TO a b:=hs2.extBut _ _ D.p8 (hs1.extBut _ _ D.p2 hTO);refine wpAny_bind (wpAny_seqItems Mr rfl (wpAny_bind (wpAny_updateSeq_pair Mr fun g3 SM hs3=>?_)))
 replace SM:IsPair g3 TO u b:=SM
 refine wpAny_bind (wpAny_letGo (wpAny_pure (wpAny_bind (wpAny_bind (wpAny_onRaise ?_)))));show wpAny _ _ (Builtin.SmallTypes.nextOf (.ref i2) >>= _) _ _ _
 refine wpAny_bind (d2 _ _ _ _ (k2 _ _ u2 fun c o hc e=>hs3.extBut _ _ (mz hc).2.1 (hs2.extBut _ _ (mz hc).2.2.1 (hs1.extBut _ _ (mz hc).1 e))) (q2 _ _ t2 fun o e=>hs3.extBut _ _ D.p9.symm (hs2.extBut _ _ D.p0.symm (hs1.extBut _ _ D.p4 e))) fun v g4 tk4 rv t2b Vq=>wpAny_pure ?_);have hTO4:IsPair g4 TO u b:=Vq.extBut _ _ D.p9 SM;refine wpAny_bind (wpAny_seqItems hTO4 rfl (wpAny_bind (wpAny_updateSeq_pair hTO4 fun g5 SN Vr=>?_)))
 replace SN:IsPair g5 TO u v:=SN
 refine wpAny_bind (wpAny_letGo (wpAny_pure (wpAny_pure (wpAny_bind (wpAny_seqItems SN rfl (wpAny_bind (wpAny_newTuple ?_)))))));have sz:g5.objs.size=s.heap.objs.size:=by rw [Vr.1,Vq.1,hs3.1,hs2.1,hs1.1]
 have all5:∀ c o,c≠z->c≠TO->c≠i1->c≠i2->s.heap.get? c=some o->g5.get? c=some o:=fun c o c1 c2 c3 c4 e=>Vr.extBut _ _ c2 (Vq.extBut _ _ c4 (hs3.extBut _ _ c2 (hs2.extBut _ _ c3 (hs1.extBut _ _ c1 e))));have hz5:IsZip g5 z TI TO .ellipsis:=Vr.extBut _ _ D.p2.symm (Vq.extBut _ _ D.p4.symm (hs3.extBut _ _ D.p2.symm (hs2.extBut _ _ D.p3.symm hz1)));have t15:SJ g5:=q1' _ _ t1b fun o e=>Vr.extBut _ _ D.p8.symm (Vq.extBut _ _ D.p0 (hs3.extBut _ _ D.p8.symm e));have t25:T2' g5:=q2' _ _ t2b fun o e=>Vr.extBut _ _ D.p9.symm e;have zlt:z<g5.objs.size:=Heap.lt_size hz5
 show wpAny _ _ (Builtin.SmallTypes.ownedTupleHandOut (.ref z) (.ref g5.objs.size) >>= _) _ _ _;refine wpAny_bind ?_;unfold Builtin.SmallTypes.ownedTupleHandOut
 have hz6:IsZip (g5.push { cls:=.type "tuple",data:=.seq #[u,v] }) z TI TO .ellipsis:=Heap.get?_push_of_some _ hz5;refine wpAny_bind (wpAny_setField_rec hz6 0x4 fun g7 hz7 hs7=>?_)
 replace hz7:IsZip g7 z TI TO (rawInt g5.objs.size):=hz7
 refine wpAny_setField_rec hz7 0x4 fun g8 hz8 hs8=>?_
 replace hz8:IsZip g8 z TI TO (rawInt g5.objs.size):=hz8
 have up8:∀ c o,c≠z->g5.get? c=some o->g8.get? c=some o:=fun c o c1 e=>hs8.extBut _ _ c1 (hs7.extBut _ _ c1 (Heap.get?_push_of_some _ e));have hT8:IsPair g8 g5.objs.size u v:=hs8.extBut _ _ (Nat.ne_of_gt zlt) (hs7.extBut _ _ (Nat.ne_of_gt zlt) (Heap.get?_push_size _ rfl));rw [sz] at hz8 hT8;refine wpAny_pure ⟨_,rfl,?_⟩
 show Q (.ref g5.objs.size) _;rw [sz]
 exact hQ u v g8 _ ru rv hz8 (up8 _ _ D.p1 (all5 _ _ D.p1 D.p5 D.p6 D.p7 hTI)) (up8 _ _ D.p2 SN) (q1' _ _ t15 fun o e=>up8 _ o D.p3 e) (q2' _ _ t25 fun o e=>up8 _ o D.p4 e) hT8 fun c o c1 c2 c3 c4 e=>up8 c o c1 (all5 c o c1 c2 c3 c4 e)
theorem zc {z TI TO:Addr}{x:V}{a b:Value}{U1 U2 T1 T2 SJ:Heap->Prop}{Q:Fin->Shared->Prop} (hh:A.handled=none) (D:ZA z TI TO i1 i2)
  (hz:IsZip s.heap z TI TO .none) (hTI:IsPair s.heap TI (.ref i1) (.ref i2)) (hTO:IsPair s.heap TO a b) (u1:U1 s.heap) (t1:T1 s.heap)
  (k1:∀ h h',U1 h->(∀ b o,b∉[z,TI,TO,i1,i2]->h.get? b=some o->h'.get? b=some o)->U1 h')
  (q1:∀ h h',T1 h->(∀ o,h.get? i1=some o->h'.get? i1=some o)->T1 h')
  (hd:(∀ (A:Around) (s:Shared) (Q:Value->Shared->Prop) (E:Value->Shared->Prop),A.handled=none->U1 s.heap->T1 s.heap->(∀ h' e,Heap.ExtBut i1 s.heap h'->(∃ o,h'.get? e=some o/\o.cls=.type "StopIteration")->E (.ref e) { s with heap:=h' })->wpAny 0xB A (Builtin.SmallTypes.nextOf (.ref i1)) Q E s) \/
   ((∀ (A:Around) (s:Shared) (Q:Value->Shared->Prop) (E:Value->Shared->Prop),U1 s.heap->T1 s.heap->(∀ u h' tk,RelV x u->SJ h'->Heap.SameBut i1 s.heap h'->Q u { s with heap:=h',toks:=tk })->wpAny 0xB A (Builtin.SmallTypes.nextOf (.ref i1)) Q E s) /\
    U2 s.heap/\T2 s.heap/\(∀ h h',U2 h->(∀ b o,b∉[z,TI,TO,i1,i2]->h.get? b=some o->h'.get? b=some o)->U2 h')/\(∀ h h',T2 h->(∀ o,h.get? i2=some o->h'.get? i2=some o)->T2 h') /\
    ∀ (A:Around) (s:Shared) (Q:Value->Shared->Prop) (E:Value->Shared->Prop),A.handled=none->U2 s.heap->T2 s.heap->(∀ h' e,Heap.ExtBut i2 s.heap h'->(∃ o,h'.get? e=some o/\o.cls=.type "StopIteration")->E (.ref e) { s with heap:=h' })->wpAny 0xB A (Builtin.SmallTypes.nextOf (.ref i2)) Q E s))
  (hE:∀ h' tk e,(∀ c o,c≠z->c≠TO->c≠i1->c≠i2->s.heap.get? c=some o->h'.get? c=some o)->(∃ o,h'.get? e=some o/\o.cls=.type "StopIteration")->E (.ref e) { s with heap:=h',toks:=tk }) :
  wpAny 0xB A (Builtin.«zip.__next__» ⟨[.ref z],[]⟩) Q E s:=by
 have mz:∀ {c:Addr},c∉[z,TI,TO,i1,i2]->c≠z/\c≠TO/\c≠i1/\c≠i2:=fun {c} h=>by simp at h;exact ⟨h.1,h.2.2.1,h.2.2.2.1,h.2.2.2.2⟩
 show wpAny _ _ (field (.ref z) 2 >>= _) _ _ _;refine wpAny_bind (wpAny_field hz rfl (x:=.bool false) rfl ?_)
 show wpAny _ _ (field (.ref z) 3 >>= _) _ _ _;refine wpAny_bind (wpAny_field hz rfl (x:=.ref TI) rfl (wpAny_bind (wpAny_seqItems hTI rfl ?_)))
 show wpAny _ _ (Builtin.SmallTypes.ownedTupleIsFree (.ref z) >>= _) _ _ _;refine wpAny_bind ?_;unfold Builtin.SmallTypes.ownedTupleIsFree
 refine wpAny_bind (wpAny_field hz rfl (x:=.none) rfl (wpAny_pure ?_));simp only [if_true];refine wpAny_bind (wpAny_rule (wpAny_bind (wpAny_field hz rfl (x:=.ref TO) rfl (wpAny_bind (wpAny_setField_rec hz 0x4 fun g1 hz1 hs1=>?_)))))
 replace hz1:IsZip g1 z TI TO .ellipsis:=hz1
 refine wpAny_bind ?_;simp only [List.zipIdx_cons,List.zipIdx_nil,List.forIn_cons,List.forIn_nil];refine wpAny_bind (wpAny_bind (wpAny_onRaise ?_));show wpAny _ _ (Builtin.SmallTypes.nextOf (.ref i1) >>= _) _ _ _
 rcases hd with e1 | ⟨d1,u2,t2,k2,q2,e2⟩
 ·refine wpAny_bind (e1 _ _ _ _ hh (k1 _ _ u1 fun c o hc e=>hs1.extBut _ _ (mz hc).1 e) (q1 _ _ t1 fun o e=>hs1.extBut _ _ D.p3 e) fun g2 e hs2 he=>?_);obtain ⟨oe,hoe,hce⟩:=he;have hz2:IsZip g2 z TI TO .ellipsis:=hs2 _ _ D.p3.symm hz1;have nez:e≠z:=fun q=>by subst q;rw [hz2] at hoe;cases hoe;simp at hce
  exact wpAny_setField_rec hz2 0x4 fun g3 _ hs3=>hE g3 _ e (fun c o c1 _ c3 _ q=>hs3.extBut _ _ c1 (hs2 _ _ c3 (hs1.extBut _ _ c1 q))) ⟨oe,hs3.extBut _ _ nez hoe,hce⟩
 ·refine wpAny_bind (d1 _ _ _ _ (k1 _ _ u1 fun c o hc e=>hs1.extBut _ _ (mz hc).1 e) (q1 _ _ t1 fun o e=>hs1.extBut _ _ D.p3 e) fun u g2 tk2 ru t1b hs2=>wpAny_pure ?_);have Mr:IsPair g2 TO a b:=hs2.extBut _ _ D.p8 (hs1.extBut _ _ D.p2 hTO);refine wpAny_bind (wpAny_seqItems Mr rfl (wpAny_bind (wpAny_updateSeq_pair Mr fun g3 SM hs3=>?_)));refine wpAny_bind (wpAny_letGo (wpAny_pure (wpAny_bind (wpAny_bind (wpAny_onRaise ?_)))));show wpAny _ _ (Builtin.SmallTypes.nextOf (.ref i2) >>= _) _ _ _
  refine wpAny_bind (e2 _ _ _ _ hh (k2 _ _ u2 fun c o hc e=>hs3.extBut _ _ (mz hc).2.1 (hs2.extBut _ _ (mz hc).2.2.1 (hs1.extBut _ _ (mz hc).1 e))) (q2 _ _ t2 fun o e=>hs3.extBut _ _ D.p9.symm (hs2.extBut _ _ D.p0.symm (hs1.extBut _ _ D.p4 e))) fun g4 e Vq he=>?_);obtain ⟨oe,hoe,hce⟩:=he;have hz4:IsZip g4 z TI TO .ellipsis:=Vq _ _ D.p4.symm (hs3.extBut _ _ D.p2.symm (hs2.extBut _ _ D.p3.symm hz1));have nez:e≠z:=fun q=>by subst q;rw [hz4] at hoe;cases hoe;simp at hce
  exact wpAny_setField_rec hz4 0x4 fun g5 _ Vr=>hE g5 _ e (fun c o c1 c2 c3 c4 q=>Vr.extBut _ _ c1 (Vq _ _ c4 (hs3.extBut _ _ c2 (hs2.extBut _ _ c3 (hs1.extBut _ _ c1 q))))) ⟨oe,Vr.extBut _ _ nez hoe,hce⟩
theorem Inv.nfp (I:Inv X pins σ H s) (hf:∀ b∈fp,jX X pins H b) {u:HO} (e:H b=some u):b∉fp:=fun hb=>by rw [(hf b hb).1] at e;cases e
theorem Inv.wF (I:Inv X pins σ H s) (hf:∀ b∈fp,jX X pins H b) (k:∀ b o,b∉fp->s.heap.get? b=some o->h'.get? b=some o):Inv X pins σ H { s with heap:=h',toks:=t' }:=by
 refine I.step (g':=s.gens) (d':=s.drawn) (ch:=fp) (fun b hb=>⟨(hf b hb).2.2.2.1,(hf b hb).2.1,(hf b hb).2.2.2.2.1,(hf b hb).2.2.2.2.2⟩) (fun b o _ _ hc e _=>k b o hc e) (fun b o _ _ hc e _=>⟨o.slots,k b o hc e⟩) (fun _ _ _ _ n=>n)
  (fun b o hc e=>⟨o,k b o hc e⟩) (fun _ _ e=>e) (fun _ _ _ e=>e) (fun b ps e=>⟨#[],by rw [e];simp⟩) (fun m hm=>?_) (fun b u e=>?_) I.bare
 ·obtain ⟨o,es,ep,ho,r⟩:=hm;exact ⟨o,es,ep,k _ o (fun z=>(hf _ z).2.1 rfl) ho,r⟩
 ·refine (I.hok b u e).stay (fun c v hc q=>k c v ?_ q) (fun _ q=>q) fun _ _ q=>q;rcases hc with z | z
  ·rw [z];exact I.nfp hf e
  ·exact I.nfp hf z
theorem Inv.wG {p:Addr}{o:HO} (I:Inv X pins σ H s) (hf:∀ b∈fp,jX X pins H b) (k:∀ b o,b∉fp->s.heap.get? b=some o->h'.get? b=some o) (hp:s.heap.objs.size<=p) (new:cj X.prog X.w (upd H p o) h' p o) :
  Inv X pins σ (upd H p o) { s with heap:=h',toks:=t' }:=by
 have hn:H p=none:=I.hok.fresh hp;refine I.step (g':=s.gens) (d':=s.drawn) (ch:=fp) (fun b hb=>⟨(hf b hb).2.2.2.1,(hf b hb).2.1,(hf b hb).2.2.2.2.1,(hf b hb).2.2.2.2.2⟩) (fun b o _ _ hc e _=>k b o hc e) (fun b o _ _ hc e _=>⟨o.slots,k b o hc e⟩)
  (fun b o _ e n=>by rw [aA (Nat.ne_of_lt (Nat.lt_of_lt_of_le (Heap.lt_size e) hp))];exact n)
  (fun b o hc e=>⟨o,k b o hc e⟩) (fun b xs e=>by rw [aA (aM e hn)];exact e) (fun b u xs e=>by rw [aA (aM e hn)];exact e) (fun b ps e=>⟨#[],by rw [aA (aM e hn),e];simp⟩) (fun m hm=>?_) (fun b u e=>?_) I.bare
 ·obtain ⟨o,es,ep,ho,r⟩:=hm;exact ⟨o,es,ep,k _ o (fun z=>(hf _ z).2.1 rfl) ho,r⟩
 ·by_cases hb:b=p
  ·subst hb;rw [ak] at e;cases e;exact new
  ·rw [aA hb] at e;refine (I.hok b u e).stay (fun c v hc q=>k c v ?_ q) (fun c q=>?_) fun c xs q=>?_
   ·rcases hc with z | z
    ·rw [z];exact I.nfp hf e
    ·exact I.nfp hf z
   ·first
     | (rw [aA (aM q hn)];exact q)
     | exact q
   ·first
     | (rw [aA (aM q hn)];exact q)
     | exact q
def Itz (g1 g2 s1 s2:Nat->Hp->Prop) (y1 y2:Nat->Hp->V->Prop):It :=
 ⟨fun i H=>g1 i H/\g2 i H,fun i H v H'=>∃ p x y,v=.ref p/\H p=none/\H'=upd H p (.tup [x,y])/\y1 i H x/\y2 i H y,fun i H=>s1 i H\/(g1 i H/\s2 i H)⟩
theorem Mt {z TI TO:Addr}{g1 g2 s1 s2:Nat->Hp->Prop}{y1 y2:Nat->Hp->V->Prop}{t1 t2:Nat->Heap->Prop} (D:ZA z TI TO i1 i2)
  (S1:rm P w K i1 g1 s1 y1 t1) (S2:rm P w K i2 g2 s2 y2 t2) :
  Turn P w K (.Tuple elts x1 tp) (Itz g1 g2 s1 s2 y1 y2) [z,TI,TO,i1,i2] z (fun i h=>IsZip h z TI TO .none/\IsPair h TI (.ref i1) (.ref i2)/\(∃ a b,IsPair h TO a b)/\t1 i h/\t2 i h) where
 mem:=by simp
 obj:=fun i h ⟨hz,hTI,⟨a,b,hTO⟩,st1,st2⟩ c hc=>by
  simp only [List.mem_cons,List.not_mem_nil,or_false] at hc;rcases hc with rfl | rfl | rfl | rfl | rfl
  ·exact ⟨_,hz,fun v e=>by cases e⟩
  ·exact ⟨_,hTI,fun v e=>by cases e⟩
  ·exact ⟨_,hTO,fun v e=>by cases e⟩
  ·exact S1.obj i h st1
  ·exact S2.obj i h st2
 keep:=fun i h h' ⟨hz,hTI,⟨a,b,hTO⟩,st1,st2⟩ k=>⟨k z 0x4 _ hz,k TI 0x4 _ hTI,⟨a,b,k TO 0x4 _ hTO⟩,S1.keep _ _ _ st1 fun o e=>k i1 0x4 o e,S2.keep _ _ _ st2 fun o e=>k i2 0x4 o e⟩
 item:=by
  intro X hP hw hK hc i pins s σ H E I hf ⟨hz,hTI,⟨a,b,hTO⟩,st1,st2⟩ ⟨hg1,hg2⟩;obtain ⟨U1,u1,k1,x,hx,d1⟩:=S1.item X pins σ H s i [z,TI,TO,i1,i2] hP hw hK I hf hg1;obtain ⟨U2,u2,k2,y,hy,d2⟩:=S2.item X pins σ H s i [z,TI,TO,i1,i2] hP hw hK I hf hg2;subst hP hw hK;have hT:s.TypeIs (.ref z) "zip":=⟨_,hz,rfl⟩;unfold pyNext;refine wpAny_bind (wpAny_attempt (wpAny_callSpecial?_slot (name:=Str.ofString "__next__") hT F.slot_zip_next (wpAny_call_entry F.slot_zip_next hT F.entry_zip_next
   (Sy (x:=x) (y:=y) D hz hTI hTO u1 u2 st1 st2 k1 k2 (S1.keep i) (S2.keep i) (S1.keep (i+1)) (S2.keep (i+1)) d1 d2 fun u v h' tk ru rv hz' hTI' hTO' st1' st2' hp kk=>wpAny_pure ⟨_,rfl,?_⟩) (F.args_zip_next_1 _))))
  refine wpAny_letOwnedTupleGo_zip hz' fun h2 hz2 sb=>?_;have lt:∀ {c o},s.heap.get? c=some o->c≠s.heap.objs.size:=fun e=>Nat.ne_of_lt (Heap.lt_size e);have nz:z≠s.heap.objs.size:=lt hz;have kk2:∀ c o,c∉[z,TI,TO,i1,i2]->s.heap.get? c=some o->h2.get? c=some o:=fun c o hc e=>by
   simp only [List.mem_cons,List.not_mem_nil,or_false,not_or] at hc;exact sb.extBut _ _ hc.1 (kk c o hc.1 hc.2.2.1 hc.2.2.2.1 hc.2.2.2.2 e)
  have hp2:IsPair h2 s.heap.objs.size u v:=sb.extBut _ _ nz.symm hp;refine ⟨.ref s.heap.objs.size,_,I.wG (o:=.tup [x,y]) hf kk2 0x6 ⟨eZ 0x4 |> Nat.le_of_lt,[u,v],.cons ru (.cons rv .nil),⟨_,hp2,rfl,_,rfl⟩⟩,rfl,⟨_,x,y,rfl,I.fresh,rfl,hx,hy⟩,⟨hz2,sb.extBut _ _ D.p1 hTI',⟨_,_,sb.extBut _ _ D.p2 hTO'⟩,S1.keep _ _ _ st1' fun o e=>sb.extBut _ _ D.p3 e,S2.keep _ _ _ st2' fun o e=>sb.extBut _ _ D.p4 e⟩,fun c hc=>?_⟩;have:∃ o,s.heap.get? c=some o:=by
   simp only [List.mem_cons,List.not_mem_nil,or_false] at hc;rcases hc with rfl | rfl | rfl | rfl | rfl
   ·exact ⟨_,hz⟩
   ·exact ⟨_,hTI⟩
   ·exact ⟨_,hTO⟩
   ·obtain ⟨o,e,_⟩:=S1.obj _ _ st1;exact ⟨o,e⟩
   ·obtain ⟨o,e,_⟩:=S2.obj _ _ st2;exact ⟨o,e⟩
  obtain ⟨o,e⟩:=this;rw [aA (lt e)];exact (hf c hc).1
 done:=by
  intro X hP hw hK hc i pins s σ H E I hf ⟨hz,hTI,⟨a,b,hTO⟩,st1,st2⟩ hs;have hT:s.TypeIs (.ref z) "zip":=⟨_,hz,rfl⟩;have fin:∀ (h':Heap) (tk:Nat),(∀ c o,c≠z->c≠TO->c≠i1->c≠i2->s.heap.get? c=some o->h'.get? c=some o)->Inv X pins σ H { s with heap:=h',toks:=tk }:=fun h' tk kk=>I.wF hf fun c o hc e=>by
   simp only [List.mem_cons,List.not_mem_nil,or_false,not_or] at hc;exact kk c o hc.1 hc.2.2.1 hc.2.2.2.1 hc.2.2.2.2 e
  have hh:=I.ok.hd hc;rcases hs with hs1 | ⟨hg1,hs2⟩
  ·obtain ⟨U1,u1,k1,d1⟩:=S1.done X pins σ H s i [z,TI,TO,i1,i2] hP hw hK I hf hs1;subst hP hw hK;unfold pyNext;refine wpAny_bind (wpAny_attempt (wpAny_callSpecial?_slot (name:=Str.ofString "__next__") hT F.slot_zip_next (wpAny_call_entry F.slot_zip_next hT F.entry_zip_next
    (zc (x:=.non) (U2:=fun _=>True) (T2:=fun _=>True) (SJ:=fun _=>True) hh D hz hTI hTO u1 st1 k1 (S1.keep i) (.inl d1) fun h' tk e kk he=>?_) (F.args_zip_next_1 _))))
   obtain ⟨o,ho,hc'⟩:=he;exact wpAny_bind (wpAny_isInstance (T:="StopIteration") (b:=true) ⟨o,ho,hc'⟩ isSubtype_stop (wpAny_pure ⟨rfl,fin _ _ kk⟩))
  ·obtain ⟨U1,u1,k1,x,hx,d1⟩:=S1.item X pins σ H s i [z,TI,TO,i1,i2] hP hw hK I hf hg1;obtain ⟨U2,u2,k2,d2⟩:=S2.done X pins σ H s i [z,TI,TO,i1,i2] hP hw hK I hf hs2;subst hP hw hK;unfold pyNext;refine wpAny_bind (wpAny_attempt (wpAny_callSpecial?_slot (name:=Str.ofString "__next__") hT F.slot_zip_next (wpAny_call_entry F.slot_zip_next hT F.entry_zip_next
    (zc (x:=x) (SJ:=t1 (i+1)) hh D hz hTI hTO u1 st1 k1 (S1.keep i) (.inr ⟨d1,u2,st2,k2,S2.keep i,d2⟩) fun h' tk e kk he=>?_) (F.args_zip_next_1 _))))
   obtain ⟨o,ho,hc'⟩:=he;exact wpAny_bind (wpAny_isInstance (T:="StopIteration") (b:=true) ⟨o,ho,hc'⟩ isSubtype_stop (wpAny_pure ⟨rfl,fin _ _ kk⟩))
 self:=fun _ _ _ _ _ st h=>wpAny_pyIter_zip st.1 h
theorem Jg (v1 v2:Value) (o1 o2:Obj) (U:Heap->Prop) (hU:∀ h o,U h->U (h.push o))
  (h1:∀ (prog:Program) (w:World) (A:Around) (Q:Value->Shared->Prop) (E:Value->Shared->Prop) (s:Shared),U s.heap->Q 0x23 { s with heap:=s.heap.push o1 }->wpAny 0xB A (pyIter v1) Q E s)
  (h2:∀ (prog:Program) (w:World) (A:Around) (Q:Value->Shared->Prop) (E:Value->Shared->Prop) (s:Shared),U s.heap->Q 0x23 { s with heap:=s.heap.push o2 }->wpAny 0xB A (pyIter v2) Q E s) :
  Meets (Builtin.«zip.__new__» ⟨[.type "zip",v1,v2],[]⟩) (fun _ R s=>U s.heap /\
   R (.ok (.ret (.ref ((((s.heap.push o1).push o2).push { cls:=.type "tuple",data:=.seq #[.ref s.heap.objs.size,.ref (s.heap.push o1).objs.size] }).push { cls:=.type "tuple",data:=.seq #[.none,.none] }).objs.size)))
    { s with heap:=((((s.heap.push o1).push o2).push { cls:=.type "tuple",data:=.seq #[.ref s.heap.objs.size,.ref (s.heap.push o1).objs.size] }).push { cls:=.type "tuple",data:=.seq #[.none,.none] }).push { cls:=.type "zip",data:=.fields #[.none,.bool false,.bool false,.ref ((s.heap.push o1).push o2).objs.size,.ref (((s.heap.push o1).push o2).push { cls:=.type "tuple",data:=.seq #[.ref s.heap.objs.size,.ref (s.heap.push o1).objs.size] }).objs.size] } }) :=
 .of_wp fun prog w A R s h=>by
  obtain ⟨hp,g,d,tk,os⟩:=s;obtain ⟨hu,h⟩:=h;have hsub:=sub_zip;have hu2:U (hp.push o1):=hU _ _ hu
  wp_walk using h1 prog w _ _ _ ⟨hp,g,d,tk,os⟩ hu,h2 prog w _ _ _ ⟨hp.push o1,g,d,tk,os⟩ hu2
  exact ⟨_,rfl,h⟩
theorem Gi (x:Str) (t:Tok) (it:Addr) (ty:String)
  (d:∀ (A:Around),A.handled=none->Draws P w A it [it] x.cps.size (fun i v=>∃ c u,x.cps[i]?=some c/\v=.str ⟨#[c]⟩ u) (fun i h=>h.IsStrIter it ty x t i))
  (d':∀ (A:Around) (i c:Nat) (s:Shared) (Q:Value->Shared->Prop) (E:Value->Shared->Prop),s.heap.IsStrIter it ty x t i->x.cps[i]?=some c->(∀ h',h'.IsStrIter it ty x t (i+1)->Heap.SameBut it s.heap h'->Q (.str ⟨#[c]⟩ s.toks) { s with heap:=h',toks:=s.toks+1 })->wpAny (model P w) A (Builtin.SmallTypes.nextOf (.ref it)) Q E s)
  (e':∀ (A:Around) (i:Nat) (s:Shared) (Q:Value->Shared->Prop) (E:Value->Shared->Prop),A.handled=none->s.heap.IsStrIter it ty x t i->x.cps[i]?=none->(∀ h' e,Heap.ExtBut it s.heap h'->(∃ o,h'.get? e=some o/\o.cls=.type "StopIteration")->E (.ref e) { s with heap:=h' })->wpAny (model P w) A (Builtin.SmallTypes.nextOf (.ref it)) Q E s) :
  rm P w K it (fun i _=>i<x.cps.toList.length) (fun i _=>x.cps.toList.length<=i) (fun i _ v=>∃ c,x.cps.toList[i]?=some c/\v=.str (dW [c])) (fun i h=>h.IsStrIter it ty x t i) where
 obj:=fun i h ⟨o,e,c,dd⟩=>⟨o,e,fun v z=>by rw [dd] at z;cases z⟩
 keep:=fun i h h' ⟨o,e,r⟩ k=>⟨o,k o e,r⟩
 item:=fun X pins σ H s₀ i fp hP hw hK I hf hg=>by
  have hi:i<x.cps.size:=by simpa using hg
  refine ⟨fun _=>True,trivial,fun _ _ _ _=>trivial,.str (dW [x.cps[i]]),⟨x.cps[i],by simp [hi],rfl⟩,fun A s Q E _ st hQ=>?_⟩;exact d' A i x.cps[i] s Q E st (by simp [hi]) fun h' st' sb=>hQ _ h' _ ⟨_,rfl⟩ st' sb
 done:=fun X pins σ H s₀ i fp hP hw hK I hf hg=>by
  have hi:x.cps.size<=i:=by simpa using hg
  exact ⟨fun _=>True,trivial,fun _ _ _ _=>trivial,fun A s Q E hh _ st hE=>e' A i s Q E hh st (by simpa using hi) hE⟩
section
theorem wH {R:It->Hp->Prop}{v1 v2:Value}{o1 o2:Obj}{U:Heap->Prop}{g1 g2 s1 s2:Nat->Hp->Prop}{y1 y2:Nat->Hp->V->Prop}{t1 t2:Nat->Heap->Prop} (I:Inv X pins σ H s)
  (hu:U s.heap) (hU:∀ h o,U h->U (h.push o))
  (h1:∀ (prog:Program) (w:World) (A:Around) (Q:Value->Shared->Prop) (E:Value->Shared->Prop) (s:Shared),U s.heap->Q 0x23 { s with heap:=s.heap.push o1 }->wpAny 0xB A (pyIter v1) Q E s)
  (h2:∀ (prog:Program) (w:World) (A:Around) (Q:Value->Shared->Prop) (E:Value->Shared->Prop) (s:Shared),U s.heap->Q 0x23 { s with heap:=s.heap.push o2 }->wpAny 0xB A (pyIter v2) Q E s)
  (S1:rm X.prog X.w X.K s.heap.objs.size g1 s1 y1 t1) (S2:rm X.prog X.w X.K 0xF g2 s2 y2 t2) (b1:∀ h:Heap,h.get? s.heap.objs.size=some o1->t1 0 h) (b2:∀ h:Heap,h.get? 0xF=some o2->t2 0 h) (f1:o1.isFreed=false) (f2:o2.isFreed=false)
  (q:R (Itz g1 g2 s1 s2 y1 y2) H):wpAny 0x7 X.A (call (.type "zip") [v1,v2]) (fun v s1=>wpAny 0x7 X.A (pyIter v) (PIE X pins σ (.Tuple elts x1 tp) R) E s1) E s:=by
 refine callType_new F.called_zip 0x8 (F.typeCall_zip_2 _ _) (F.newCall_zip_2 _ _) (fun obj=>F.args_object_init_3 obj _ _) F.entry_zip_new (Jg v1 v2 o1 o2 U hU h1 h2) ⟨hu,?_⟩;generalize hG1:s.heap.push o1=G1;have z1:G1.objs.size=s.heap.objs.size+1:=by rw [<- hG1];exact Heap.size_push ..
 generalize hG2:G1.push o2=G2;have z2:G2.objs.size=s.heap.objs.size+2:=by rw [<- hG2,Heap.size_push,z1]
 rw [z1,z2];generalize hG3:G2.push { cls:=.type "tuple",data:=.seq #[.ref s.heap.objs.size,.ref 0xF] }=G3;have z3:G3.objs.size=s.heap.objs.size+3:=by rw [<- hG3,Heap.size_push,z2]
 rw [z3];generalize hG4:G3.push { cls:=.type "tuple",data:=.seq #[.none,.none] }=G4;have z4:G4.objs.size=s.heap.objs.size+4:=by rw [<- hG4,Heap.size_push,z3]
 rw [z4];generalize hG5:G4.push { cls:=.type "zip",data:=.fields #[.none,.bool false,.bool false,.ref (s.heap.objs.size+2),.ref (s.heap.objs.size+3)] }=G5;have e5:IsZip G5 (s.heap.objs.size+4) (s.heap.objs.size+2) (s.heap.objs.size+3) .none:=by rw [<- z4,<- hG5];exact Heap.get?_push_size _ rfl
 have e4:IsPair G5 (s.heap.objs.size+3) .none .none:=by rw [<- z3,<- hG5];exact Heap.get?_push_of_some _ (by rw [<- hG4];exact Heap.get?_push_size _ rfl)
 have e3:IsPair G5 (s.heap.objs.size+2) 0x23 (.ref 0xF):=by rw [<- z2,<- hG5];exact Heap.get?_push_of_some _ (by rw [<- hG4];exact Heap.get?_push_of_some _ (by rw [<- hG3];exact Heap.get?_push_size _ rfl))
 have up2:∀ c o,G2.get? c=some o->G5.get? c=some o:=fun c o e=>by rw [<- hG5];exact Heap.get?_push_of_some _ (by rw [<- hG4];exact Heap.get?_push_of_some _ (by rw [<- hG3];exact Heap.get?_push_of_some _ e))
 have e2:G5.get? 0xF=some o2:=up2 _ _ (by rw [<- z1,<- hG2];exact Heap.get?_push_size _ f2);have e1:G5.get? s.heap.objs.size=some o1:=up2 _ _ (by rw [<- hG2];exact Heap.get?_push_of_some _ (by rw [<- hG1];exact Heap.get?_push_size _ f1));have all:∀ c o,s.heap.get? c=some o->G5.get? c=some o:=fun c o e=>up2 _ _ (by rw [<- hG2];exact Heap.get?_push_of_some _ (by rw [<- hG1];exact Heap.get?_push_of_some _ e));refine ⟨⟨_,e5,rfl⟩,wpAny_pyIter_zip e5 ?_⟩;have ne:∀ {m n:Nat},m≠n->s.heap.objs.size+m≠s.heap.objs.size+n:=fun h z=>h (Nat.add_left_cancel z);refine ⟨_,_,_,_,H,rfl,I.kept (t':=s.toks) all,Mt ⟨ne 0x8,ne 0x8,ne (m:=0) 0x8,ne 0x8,ne 0x8,ne (n:=0) 0x8,ne 0x8,ne (n:=0) 0x8,ne 0x8,ne (m:=0) 0x8⟩ S1 S2,⟨e5,e3,⟨_,_,e4⟩,b1 _ e1,b2 _ e2⟩,fun b hb=>?_,q⟩;have hle:s.heap.objs.size<=b:=by
  simp only [List.mem_cons,List.not_mem_nil,or_false] at hb;rcases hb with rfl | rfl | rfl | rfl | rfl <;> lia
 exact I.tQ hle (I.hok.fresh hle)
abbrev Gj (K:PySem.W.Frag) (a b:Addr):It:=Itz (fun i H=>∃ xs x,bF K H a xs/\xs[i]?=some x) (fun i H=>∃ xs x,bF K H b xs/\xs[i]?=some x) (fun i H=>∃ xs,bF K H a xs/\xs.length<=i) (fun i H=>∃ xs,bF K H b xs/\xs.length<=i)
 (fun i H x=>∀ xs,bF K H a xs->xs[i]?=some x) (fun i H x=>∀ xs,bF K H b xs->xs[i]?=some x)
abbrev Gk (K:PySem.W.Frag) (a b:Addr):It:=Itz (fun i H=>∃ xs x,bf K H a xs/\xs[i]?=some x) (fun i H=>∃ xs x,bf K H b xs/\xs[i]?=some x) (fun i H=>∃ xs,bf K H a xs/\xs.length<=i) (fun i H=>∃ xs,bf K H b xs/\xs.length<=i)
 (fun i H x=>∀ xs,bf K H a xs->xs[i]?=some x) (fun i H x=>∀ xs,bf K H b xs->xs[i]?=some x)
abbrev Gm (K:PySem.W.Frag) (a:Addr) (z:Str):It:=Itz (fun i H=>∃ xs x,bF K H a xs/\xs[i]?=some x) (fun i _=>i<z.cps.toList.length) (fun i H=>∃ xs,bF K H a xs/\xs.length<=i) (fun i _=>z.cps.toList.length<=i)
 (fun i H x=>∀ xs,bF K H a xs->xs[i]?=some x) (fun i _ v=>∃ c,z.cps.toList[i]?=some c/\v=.str (dW [c]))
inductive zf (K:PySem.W.Frag) (R:It->Hp->Prop) (vs:List V) (H1:Hp):Prop
 | mk (a b:Addr) (_:vs=[.ref a,.ref b]) (_:(∃ xs,bF K H1 a xs)) (_:(∃ xs,bF K H1 b xs)) (_:R (Gj K a b) H1):zf K R vs H1
def Xc (K:PySem.W.Frag) (ta:TA):TI:=fun σ H R=>ta σ H fun vs H1=>zf K R vs H1
inductive zj (K:PySem.W.Frag) (R:It->Hp->Prop) (vs:List V) (H1:Hp):Prop
 | mk (a b:Addr) (_:vs=[.ref a,.ref b]) (_:(∃ xs,bf K H1 a xs)) (_:(∃ xs,bf K H1 b xs)) (_:R (Gk K a b) H1):zj K R vs H1
def Xd (K:PySem.W.Frag) (ta:TA):TI:=fun σ H R=>ta σ H fun vs H1=>zj K R vs H1
inductive zm (K:PySem.W.Frag) (R:It->Hp->Prop) (vs:List V) (H1:Hp):Prop
 | mk (a:Addr) (z:Str) (_:vs=[.ref a,.str z]) (_:(∃ xs,bF K H1 a xs)) (_:R (Gm K a z) H1):zm K R vs H1
def Xe (K:PySem.W.Frag) (ta:TA):TI:=fun σ H R=>ta σ H fun vs H1=>zm K R vs H1
variable {a b:Expr}{ta:TA}
theorem zp (hg:Gl X "zip") (hm:X.mg "zip"=none) (ha:PA X [a,b] ta) (hs:starEach [a,b] X.env=[(false,eval a X.env),(false,eval b X.env)]:=by rfl) (hs2:starEach [b] X.env=[(false,eval b X.env)]:=by rfl) :
  PI X (.Tuple elts x1 tp) (.Call (.Name "zip" p) [a,b] [] pos) (Xc X.K ta):=by
 intro pins s σ H R I h;refine Call_ 0x1B;obtain ⟨c,d,rfl,⟨xs,hx⟩,⟨ys,hy⟩,q⟩:=q1;obtain ⟨u,u',rfl,ru,K8⟩:=vals2 r1;cases ru;cases K8;obtain ⟨its,rv,p1,_⟩:=I1.tuple hx;obtain ⟨its2,rv2,p2,_⟩:=I1.tuple hy;exact wH (U:=fun h=>h.IsTuple c its.toArray/\h.IsTuple d its2.toArray) I1 ⟨p1,p2⟩ (fun h o ⟨⟨oc,e,r⟩,⟨od,e',r'⟩⟩=>⟨⟨oc,Heap.get?_push_of_some _ e,r⟩,⟨od,Heap.get?_push_of_some _ e',r'⟩⟩)
  (fun prog w A Q E s hu hQ=>wpAny_pyIter_tuple hu.1 hQ) (fun prog w A Q E s hu hQ=>wpAny_pyIter_tuple hu.2 hQ) (qj c _) (qj d _) (fun h e=>⟨_,e,rfl,rfl⟩) (fun h e=>⟨_,e,rfl,rfl⟩) rfl rfl q
theorem rB (hg:Gl X "zip") (hm:X.mg "zip"=none) (ha:PA X [a,b] ta) (hs:starEach [a,b] X.env=[(false,eval a X.env),(false,eval b X.env)]:=by rfl) (hs2:starEach [b] X.env=[(false,eval b X.env)]:=by rfl) :
  PI X (.Tuple elts x1 tp) (.Call (.Name "zip" p) [a,b] [] pos) (Xd X.K ta):=by
 intro pins s σ H R I h;refine Call_ 0x1B;obtain ⟨c,d,rfl,⟨xs,hx⟩,⟨ys,hy⟩,q⟩:=q1;obtain ⟨u,u',rfl,ru,K8⟩:=vals2 r1;cases ru;cases K8;obtain ⟨its,rv,p1,_⟩:=I1.list hx;obtain ⟨its2,rv2,p2,_⟩:=I1.list hy;exact wH (U:=fun h=>h.IsList c its.toArray/\h.IsList d its2.toArray) I1 ⟨p1.isList,p2.isList⟩ (fun h o ⟨⟨oc,e,r⟩,⟨od,e',r'⟩⟩=>⟨⟨oc,Heap.get?_push_of_some _ e,r⟩,⟨od,Heap.get?_push_of_some _ e',r'⟩⟩)
  (fun prog w A Q E s hu hQ=>wpAny_pyIter_list hu.1 hQ) (fun prog w A Q E s hu hQ=>wpAny_pyIter_list hu.2 hQ) (Gh c _) (Gh d _) (fun h e=>⟨_,e,rfl,rfl⟩) (fun h e=>⟨_,e,rfl,rfl⟩) rfl rfl q
end
theorem rC {fx fy:Nat->V}{k:Nat}{g:TG}{Q:VK} (Pv:Nat->List V->Hp->Prop)
  (hJ:∀ i ys H,Pv i ys H->(i<n->J.go i H/\∀ v H',J.yN i H v H'->∃ p,v=.ref p/\H p=none/\H'=upd H p (.tup [fx i,fy i]))/\(n<=i->J.stop i H)) (h0:Pv 0 [] (upd H1 D (.lst []))) (hD:∀ i ys H,Pv i ys H->H D=some (.lst ys))
  (hs:∀ i ys H p,i<n->Pv i ys H->H p=none->qW D σ k ix g tt te (.ref p) ys (upd H p (.tup [fx i,fy i])) (Pv (i+1))) (hd:∀ ys H,Pv n ys H->Q (.ref D) H):kI J D σ k ix g tt te Q H1:=by
 refine ⟨fun i m ys H=>m=n - i/\i<=n/\Pv i ys H,⟨n,by simp,Nat.zero_le _,h0⟩,?_⟩;rintro i m ys H ⟨rfl,hi,p⟩;refine ⟨hD i ys H p,?_⟩;obtain ⟨h1,h2⟩:=hJ i ys H p
 by_cases hlt:i<n
 ·obtain ⟨hg,hy⟩:=h1 hlt;refine .inr ⟨hg,Pv (i+1),fun zs H' p'=>⟨n - (i+1),by lia,rfl,hlt,p'⟩,fun x H' y=>?_⟩;obtain ⟨q,rfl,hq,rfl⟩:=hy x H' y;exact hs i ys H q hlt p hq
 ·have e:i=n:=by lia
  subst e;exact .inl ⟨h2 0x6,hd ys H p⟩
theorem pF (ha:bF K H a xs) (hb:bF K H b ys) (hl:xs.length=ys.length) :
  (i<xs.length->(Gj K a b).go i H/\∀ v H',(Gj K a b).yN i H v H'->∃ p,v=.ref p/\H p=none/\H'=upd H p (.tup [xs.getD i .non,ys.getD i .non]))/\(xs.length<=i->(Gj K a b).stop i H):=by
 refine ⟨fun hi=>⟨⟨⟨xs,xs[i],ha,by simp [hi]⟩,⟨ys,ys[i]' 0x1,hb,by simp [hl ▸ hi]⟩⟩,fun v H' ⟨p,x,y,e1,e2,e3,e4,e5⟩=>⟨p,e1,e2,?_⟩⟩,fun hi=>.inl ⟨xs,ha,hi⟩⟩;rw [e3,iw,iw,e4 xs ha,e5 ys hb];rfl
theorem kO (ha:bf K H a xs) (hb:bf K H b ys) (hl:xs.length=ys.length) :
  (i<xs.length->(Gk K a b).go i H/\∀ v H',(Gk K a b).yN i H v H'->∃ p,v=.ref p/\H p=none/\H'=upd H p (.tup [xs.getD i .non,ys.getD i .non]))/\(xs.length<=i->(Gk K a b).stop i H):=by
 refine ⟨fun hi=>⟨⟨⟨xs,xs[i],ha,by simp [hi]⟩,⟨ys,ys[i]' 0x1,hb,by simp [hl ▸ hi]⟩⟩,fun v H' ⟨p,x,y,e1,e2,e3,e4,e5⟩=>⟨p,e1,e2,?_⟩⟩,fun hi=>.inl ⟨xs,ha,hi⟩⟩;rw [e3,iw,iw,e4 xs ha,e5 ys hb];rfl
theorem wI {k:Nat}{t:Rq} (hc:X.calm=true) (h:PGs X es t) (hK:X.K=K:=by rfl)
  (hn:(assignEach es X.env).length=n:=by rfl) (hst:(assignEach es X.env).findIdx? (·.1)=none:=by rfl):PG X (.Tuple es k pos) (gTup K n t):=hK ▸ fu hc h hn hst
def nJ (n:Nat) (l:List Nat):List Nat:=(List.replicate n l).flatten
theorem zu (l:Array Nat):∀ (n:Nat) (acc:Array Nat),((List.replicate n l).foldl (·++·) acc).toList=acc.toList++nJ n l.toList
 | 0,acc=>by simp [nJ]
 | n+1,acc=>by
  rw [List.replicate_succ,List.foldl_cons,zu l n];simp [nJ,List.replicate_succ]
theorem SQ (n:Nat) (l:List Nat):(nJ n l).length=n * l.length:=by
 unfold nJ
 induction n with
 | zero=>simp
 | succ n ih=>rw [List.replicate_succ,List.flatten_cons,jj,ih,Nat.succ_mul];lia
theorem Cz:jM X (binaryOp .Mult) (fun x y H Q=>∃ z n,x=.str z/\y=.int n/\0<=n/\n<=1000/\z.length<=1000/\Q (.str (dW (nJ n.toNat z.cps.toList))) H):=by
 intro pins s σ H x y v u Q I rx ry h;obtain ⟨z,n,rfl,rfl,h0,h1,hz,q⟩:=h;obtain ⟨t,rfl⟩:=rx;obtain ⟨t',rfl⟩:=ry;have hl:z.length * n.toNat<=1000000:=Nat.le_trans (Nat.mul_le_mul hz (show n.toNat<=1000 by lia)) 0x8
 have hsl:z.length * n.toNat<=sizeLine:=Nat.le_trans hl 0x8;refine PySem.P.mul_str (by rw [decide_eq_false 0x1,decide_eq_false 0x1];rfl) (fun hn _=>?_) (fun _ _=>by unfold Builtin.Str.tooLong;simp;lia) ?_
 ·have:(1000:Int)<=(2 ^ 63 - 1) / n:=Int.le_ediv_of_mul_le 0x1 0x1;lia
 ·by_cases hn:n<1
  ·rw [if_pos hn];have e:n.toNat=0:=by lia
   refine ⟨by decide,.str _,H,I.tok _,⟨_,rfl⟩,?_⟩;have e2:dW (nJ n.toNat z.cps.toList)=Str.empty:=by rw [e];rfl
   rw [<- e2];exact q
  ·rw [if_neg hn]
   by_cases hc:(n==1||z.length==0)=true
   ·rw [if_pos hc];refine ⟨.str z,H,I,⟨t,rfl⟩,?_⟩;have e2:dW (nJ n.toNat z.cps.toList)=z:=by
     rcases Bool.or_eq_true_iff.mp hc with e | e
     ·have e':n=1:=by simpa using e
      subst e';simp [nJ,kJ]
     ·have e':z.cps.toList=[]:=by
       have:z.length=0:=by simpa using e
       simp only [Str.length] at this
       simpa using this
      have:∀ k,nJ k ([]:List Nat)=[]:=fun k=>by simp [nJ]
      rw [e',this,<- e',kJ]
    rw [<- e2];exact q
   ·rw [if_neg hc];have e2:(⟨(List.replicate n.toNat z.cps).foldl (·++·) #[]⟩:Str)=dW (nJ n.toNat z.cps.toList):=Sw (by
     show ((List.replicate n.toNat z.cps).foldl (·++·) #[]).toList=_
     rw [zu];simp)
    rw [e2];refine ⟨?_,.str _,H,I.tok _,⟨_,rfl⟩,q⟩;rw [gb,SQ];have:z.cps.toList.length=z.length:=by simp [Str.length]
    rw [this,Nat.mul_comm];exact hsl
mutual
inductive eV (H:Hp):V->PyData->Prop
 | non:eV H .non .none
 | bl (b:_):eV H (.bl b) (.bool b)
 | int (i:_):eV H (.int i) (.int i)
 | str (x:_):eV H (.str x) (.str x)
 | lst {p xs ds:_}:H p=some (.lst xs)->cO H xs ds->eV H (.ref p) (.list ds)
 | tup {p xs ds:_}:H p=some (.tup xs)->cO H xs ds->eV H (.ref p) (.tuple ds)
inductive cO (H:Hp):List V->List PyData->Prop
 | nil:cO H [] []
 | cons {v vs d ds:_}:eV H v d->cO H vs ds->cO H (v::vs) (d::ds)
end
mutual
theorem eV.same {H H':Hp} (s:Same H H'):∀ {v:V}{d:PyData},eV H v d->eV H' v d
 | _,_,.non=>.non
 | _,_,.bl b=>.bl b
 | _,_,.int i=>.int i
 | _,_,.str x=>.str x
 | _,_,.lst h r=>.lst (s _ _ h) (cO.same s r)
 | _,_,.tup h r=>.tup (s _ _ h) (cO.same s r)
theorem cO.same {H H':Hp} (s:Same H H'):∀ {vs:List V}{ds:List PyData},cO H vs ds->cO H' vs ds
 | _,_,.nil=>.nil
 | _,_,.cons h r=>.cons (eV.same s h) (cO.same s r)
end
mutual
theorem eV.reads (I:Inv X pins σ H s):∀ {v:V}{d:PyData}{u:Value},eV H v d->RelV v u->∃ as,Reads s.heap u d as
 | _,_,_,.non,r=>by cases r;exact ⟨_,.none⟩
 | _,_,_,.bl b,r=>by cases r;exact ⟨_,.bool b⟩
 | _,_,_,.int i,r=>by obtain ⟨t,rfl⟩:=r;exact ⟨_,.int i t⟩
 | _,_,_,.str x,r=>by obtain ⟨t,rfl⟩:=r;exact ⟨_,.str x t⟩
 | _,_,_,.lst h q,r=>by
  cases r;obtain ⟨_,its,n,rv,e⟩:=(I.hok _ _ h);obtain ⟨as,ra⟩:=cO.reads I q rv;exact ⟨_,.list e rfl rfl (by simpa using ra)⟩
 | _,_,_,.tup h q,r=>by
  cases r;obtain ⟨_,its,rv,o,e,c,n,dd⟩:=(I.hok _ _ h);obtain ⟨as,ra⟩:=cO.reads I q rv;exact ⟨_,.tuple e c dd (by simpa using ra)⟩
theorem cO.reads (I:Inv X pins σ H s):∀ {vs:List V}{ds:List PyData}{us:List Value},cO H vs ds->Vals vs us->∃ as,ReadsAll s.heap us ds as
 | _,_,_,.nil,r=>by cases r;exact ⟨_,.nil⟩
 | _,_,_,.cons h q,r=>by
  cases r with
  | cons r1 r2 =>
   obtain ⟨as,ra⟩:=eV.reads I h r1;obtain ⟨bs,rb⟩:=cO.reads I q r2;exact ⟨_,.cons ra rb⟩
end
open PySem.W PySem.Builtin.ObjectAttr PySem.Builtin.Getset_descriptor
structure XC (K:PySem.W.Frag) (D:Addr):Prop where
 ga:findIn K (.ref D) "__getattribute__"=some (some (.builtin "BaseException.__getattribute__"))
 gh:findIn K (.ref D) "__getattr__"=some none
 cl:(clsIn K D).isSome=true
 ca:findIn K (.ref D) "__class__"=some (some 0x15)
 gs:specialIn K 0x15 "__get__"=some (some (.builtin "getset_descriptor.__get__"))
 tk:takesIn K 0x15=some true
 ob:mroIn K D (.type "object")=some true
 be:mroIn K D (.type "BaseException")=some true
inductive Vs (x D:Addr) (h:PySem.Heap):Prop
 | mk (o:Obj) (_:h.get? x=some o) (_:o.cls=.ref D):Vs x D h
def Ru (x D:Addr) (h:Heap):Prop:=Vs x D h
theorem Ru.ty {M:Model}{x:Addr} (I:Ru x D h):Looks M h (typeOf (.ref x)) (.ref D):=by
 obtain ⟨o,e,c⟩:=I;exact c ▸ (Looks.ld e).andThen .now
section
variable {x:Addr}
theorem Mv {M:Model} (C:XC K D) (X:K.In h):Looks M h (find (.ref x) (.ref D) "__class__") (.bind (.builtin "getset_descriptor.__get__") 0x15):=by
 have L1:=looks_findIn (M:=M) X C.ca;have L2:Looks M h (getOf (some 0x15)) _:=looks_specialIn X C.gs;have L3:=looks_takesIn (M:=M) X C.tk;exact L1.andThen (L2.andThen ((show Looks M h (dataDescriptor? (some _) (some _)) (some (_,_)) from L3.andThen .now).andThen (Looks.tag .now)))
theorem SX {tp:Value}{R:Result->Shared->Prop} (C:XC K D) (X:K.In s.heap) (I:Ru x D s.heap) (h:R (.ok (.ret (.ref D))) s) :
  codeAny 0xB A (.call (.builtin "getset_descriptor.__get__") ⟨[.builtin "object.__class__",.ref x,tp],[]⟩) R s:=by
 obtain ⟨hh,g,dr,t,os⟩:=s;have L0:=I.ty (M:=model prog w);have L1:=looks_mroIn (M:=model prog w) X C.ob;refine codeAny_call_builtin KF.slot_gs.plain KF.entry_gs (KF.slot_gs.check _ _ _ _ _ _ _ _ KF.type_class (KF.args_gs _ _ _) ?_);unfold Builtin.«getset_descriptor.__get__» descrGet;rw [dga_obj];refine wpAny_bind (wpAny_pure ?_);unfold descrGetter descrCheckInstance descrNameAndClass isInstance;simp only [KF.owner_class]
 repeat lk
 refine ⟨Code.quiet_builtin _ 0xE,codeAny_builtin KF.entry_class ?_⟩;unfold Builtin.«object.__class__» shownTypeOf
 repeat lk
 exact h
theorem Jh {tk:Tok}{Q:Fin->Shared->Prop} (C:XC K D) (X:K.In s.heap) (I:Ru x D s.heap) (h:Q (.done (.ret (.ref D))) s) :
  wpAny 0xB A (Builtin.«object.__getattribute__» ⟨[.ref x,.str "__class__" tk],[]⟩) Q E s:=by
 obtain ⟨hh,g,d,t,os⟩:=s;have L0:=I.ty (M:=model prog w);have L1:=Mv (M:=model prog w) (x:=x) C X;unfold Builtin.«object.__getattribute__»;refine wpAny_bind (wpAny_pure (wpAny_bind (wpAny_pure (wpAny_bind (L0.at (wpAny_bind (L1.at ?_)))))))
 show wpAny _ _ (holding [.builtin "object.__class__"] (call (.builtin "getset_descriptor.__get__") [.builtin "object.__class__",.ref x,.ref D]) >>= ret) _ _ _
 exact wpAny_bind (wpAny_holding (wpAny_call (SX (s:=⟨hh,g,d,t,os⟩) C X I (wpAny_pure h))))
theorem Ji {nameV:Value}{Q:Unit->Shared->Prop} (C:XC K D) (X:K.In s.heap) (I:Ru x D s.heap) (hq:Q () s) :
  wpAny 0xB A (checkBuiltinCall "BaseException.__getattribute__" ⟨[.ref x,nameV],[]⟩) Q E s:=by
 obtain ⟨hh,g,d,t,os⟩:=s;have hk:builtinKind "BaseException.__getattribute__"=some .slot:=by decide +kernel
 have hsplit:splitId "BaseException.__getattribute__"=some ("BaseException", "__getattribute__"):=by decide +kernel
 have L0:=I.ty (M:=model prog w);have LI:Looks 0xB hh (isInstance (.ref x) (.type "BaseException")) true:=L0.andThen (looks_mroIn X C.be);have ha:=F.args_bexc_ga (.ref x) nameV;simp only [checkBuiltinCall,hk,hsplit];refine wpAny_bind (LI.at ?_)
 repeat (any_goals (first | assumption | wp_step))
theorem Jj {Q:Option Value->Shared->Prop} (C:XC K D) (X:K.In s.heap) (I:Ru x D s.heap) (h:Q (some (.ref D)) { s with toks:=s.toks+1 }) :
  wpAny 0xB A (getAttr? (.ref x) "__class__") Q E s:=by
 obtain ⟨hh,g,d,t,os⟩:=s;have L0:=I.ty (M:=model prog w);have L1:=looks_findIn (M:=model prog w) X C.ga;have L2:=looks_findIn (M:=model prog w) X C.gh;unfold getAttr? getAttrBy? getAttrBy;refine wpAny_bind (wpAny_mkText (wpAny_bind (wpAny_attempt (wpAny_holding (wpAny_bind (L0.at (wpAny_bind (L1.at ?_))))))))
 show wpAny _ _ (getAttrByItsOwn _ _ _ _ _ _) _ _ _
 unfold getAttrByItsOwn hookBefore;have hon:onTheHeap (Value.ref D)=true:=rfl;rw [if_pos hon];refine wpAny_bind (L2.at (wpAny_bind (wpAny_attempt (wpAny_holding ?_))))
 show wpAny _ _ (boundAndCalled (.builtin "BaseException.__getattribute__") (.ref x) _) _ _ _
 unfold boundAndCalled;have f3:=PySem.F.excAttr_ValueError.ga.bind (.ref x);rw [f3];refine wpAny_bind (wpAny_pure (wpAny_call (codeAny_call_builtin PySem.F.excAttr_ValueError.ga.plain F.entry_bexc_ga (Ji (s:=⟨hh,g,d,t+1,os⟩) C X I (Jh (s:=⟨hh,g,d,t+1,os⟩) C X I ?_)))));refine handed_on rfl ?_;exact wpAny_pure h
theorem Mw (C:XC K D):KitX K (.ref x) (.ref D) (Ru x D) where
 ty:=fun _ _ _ I=>I.ty
 it:=fun _ _ X _=>by
  obtain ⟨cdD,hcD⟩:=Option.isSome_iff_exists.mp C.cl;unfold clsIn at hcD
  split at hcD
  ·rename_i c' d' cd' sl' ho
   intro A' Q' E' s' k q;unfold isType loadHead;exact wpAny_bind (wpAny_loadPart (k _ _ (X _ _ ho)) (wpAny_pure q))
  ·cases hcD
 ne:=fun h tp dd its n sl X htp=>by
  obtain ⟨cdD,hcD⟩:=Option.isSome_iff_exists.mp C.cl;refine Bool.eq_false_iff.mpr fun q=>?_;have e:D=tp:=Value.ref.inj (beq_iff_eq.mp q);subst e;unfold clsIn at hcD
  split at hcD
  ·rename_i c' d' cd' sl' ho
   have z:=(X _ _ ho).symm.trans htp;cases z
  ·cases hcD
 ca:=fun X I k=>Jj C X I k
end
def Rv (C a:Addr):HO:=.ext (Ru a C)
def cV:V->Value
 | .ty T=>.type T
 | .ref a=>.ref a
 | _=>.none
inductive Mx (K:PySem.W.Frag) (xs:List V) (H:Hp) (Q:VK):Prop
 | mk (a C:Addr) (cv:V) (b:Bool) (_:xs=[.ref a,cv]) (_:H a=some (Rv C a)) (_:XC K C) (_:((∃ T,cv=.ty T)\/∃ D,cv=.ref D)) (_:kitOne K (.ref C) (cV cv)=some b) (_:Q (.bl b) H):Mx K xs H Q
def rIsX (K:PySem.W.Frag):List V->Hp->VK->Prop:=fun xs H Q=>Mx K xs H Q
theorem Mz:dF X (.builtin "isinstance") (rIsX X.K):=by
 intro pins s σ H xs us Q I r h;obtain ⟨a,C,cv,b,rfl,ha,xc,hcv,e,q⟩:=h;obtain ⟨u,u',rfl,ru,K8⟩:=vals2 r;cases ru;have hu:u'=cV cv:=by
  rcases hcv with ⟨T,rfl⟩ | ⟨D,rfl⟩
  ·exact K8
  ·exact K8
 subst hu;obtain ⟨hO,_⟩:=(show cj X.prog X.w H s.heap a (.ext (Ru a C)) from I.hok a _ ha)
 exact kia_one (Mw xc) I.mj hO e (fun z=>nomatch z) fun tk=>⟨.bl b,H,I.tok _,rfl,q⟩
structure Fly (B h0 h:Heap) (outer:List Env) (H':Hp) (ea:Addr) (C a0:Value):Prop where
 fl:Heap.FlyingW B outer ea C a0 h
 tr:∀ b o,H' b=some o->∃ u,B.get? b=some u
 old:∀ b o,h0.get? b=some o->b∉frs outer->∃ u,B.get? b=some u
inductive Vt (P:Program) (w:World) (outer:List Env) (H:Hp) (s:Shared) (E:XK) (e:Value) (s':Shared):Prop
 | mk (ea:Addr) (C a0:Value) (B:PySem.Heap) (H':Hp) (_:e=.ref ea) (_:s'.os=s.os) (_:AllBare s'.gens) (_:Un (frs outer) [] H H' s.heap s'.heap) (_:jP P w H' s'.heap) (_:Fly B s.heap s'.heap outer H' ea C a0) (_:E C none H'):Vt P w outer H s E e s'
def iC (P:Program) (w:World):Fy:=fun outer H s E e s' =>
 Vt P w outer H s E e s'
theorem ql {B:Heap} (hok:jP P w H' h) (tr:∀ b o,H' b=some o->∃ u,B.get? b=some u) (b0:B.StaysIn h) (st:B.StaysIn h2):jP P w H' h2:=fun b u q=>by
 have key:∀ c o v,H' c=some o->h.get? c=some v->h2.get? c=some v:=fun c o v q e=>by
  obtain ⟨u,hu⟩:=tr c o q;rw [b0 c u hu] at e;cases e;exact st c _ hu
 refine (hok b u q).stay (fun c v hc e=>?_) (fun _ z=>z) fun _ _ z=>z;rcases hc with rfl | hc
 ·exact key _ _ _ q e
 ·exact key _ _ _ hc e
theorem wJ {h0 B:Heap} (un:Un (frs outer) [] H H' h0 h) (ff:h.FunFrames base outer) (old:∀ b o,h0.get? b=some o->b∉frs outer->∃ u,B.get? b=some u) (b0:B.StaysIn h) (st:B.StaysIn h2) (up:h.UpToSlots h2) :
  Un (frs outer) [] H H' h0 h2 where
 keep:=fun b o e n hb hx=>by
  obtain ⟨u,hu⟩:=old b o e hb;have e1:=un.keep b o e n hb hx;rw [b0 b u hu] at e1;cases e1;exact st b _ hu
 slot:=fun b o e n hb hx=>by
  obtain ⟨sl,e1⟩:=un.slot b o e n hb hx;obtain ⟨_,o',ho',hd⟩:=ff.mem hb;rw [e1] at ho';cases ho';obtain ⟨sl2,e2⟩:=up b _ e1 hd;exact ⟨sl2,e2⟩
 free:=un.free
 there:=fun b o e hx=>by
  by_cases hb:b∈frs outer
  ·obtain ⟨_,o',ho',hd⟩:=ff.mem hb;obtain ⟨sl2,e2⟩:=up b _ ho' hd;exact ⟨_,e2⟩
  ·obtain ⟨u,hu⟩:=old b o e hb;exact ⟨u,st b u hu⟩
 tups:=un.tups
 oA:=un.oA
 pO:=un.pO
theorem Jk {o:HO} (x:cj P w H h a o):∃ u,h.get? a=some u:=by
 cases o with
 | lst xs=>obtain ⟨_,_,_,_,e⟩:=x;exact ⟨_,e⟩
 | tup xs=>obtain ⟨_,_,_,o,e,_⟩:=x;exact ⟨_,e⟩
 | dK kvs=>obtain ⟨_,_,_,_,o,_,_,e,_⟩:=x;exact ⟨_,e⟩
 | dT kvs=>obtain ⟨_,_,_,_,o,_,_,e,_⟩:=x;exact ⟨_,e⟩
 | set S n=>obtain ⟨o,_,_,_,e,_⟩:=x;exact ⟨_,e⟩
 | ins C dx fs=>obtain ⟨_,_,_,e,_⟩:=x;exact ⟨_,e⟩
 | own y=>exact x
 | xd fs=>obtain ⟨_,⟨o,_,_,e,_⟩,_⟩:=x;exact ⟨_,e⟩
 | met f y=>exact ⟨_,x⟩
 | rng lo hi=>obtain ⟨_,_,_,e⟩:=x;exact ⟨_,e⟩
 | Bx ob u=>exact ⟨_,x.1⟩
 | RQ ps=>exact ⟨_,x⟩
 | ext φ=>exact x.2.1
section
variable {N:List Str}{f:Addr}{cd:Value}{E:XK}
theorem fH {s1:Shared}{e:Addr}{vs:List Value} (I:Inv 0x1F pins σ H1 s1) (hx:Heap.MadeExcOf s1.heap h' e (.ref C) vs) (q:E (.ref C) none H1) :
  (oK (iC P w) P w K mg base N qual scope f cd A outer s H E).xe (.ref e) { s1 with heap:=h' }:=by
 have fr:=I.ok.frames;have ff:=funFrames_hide (as:=frs (0x1F).stack) I.stack fun env he a hf=>List.mem_filterMap.mpr ⟨env,he,hf⟩;refine wpAny_leaves_madeW (h:=s1.heap) fr rfl (fun b o q=>of_hideAll _ q) ff hx fun h'' t fl tup bt up=>?_;have b0:(hideAll s1.heap (frs (0x1F).stack)).StaysIn s1.heap:=fun b o q=>of_hideAll _ q;have tr:∀ b o,H1 b=some o->∃ u,(hideAll s1.heap (frs (0x1F).stack)).get? b=some u:=fun b o e=>by
  obtain ⟨u,hu⟩:=Jk (I.hok b o e);exact ⟨u,hideAll_get _ hu fun z=>by rw [I.vQ b z] at e;cases e⟩
 have old:∀ b o,s.heap.get? b=some o->b∉frs outer->∃ u,(hideAll s1.heap (frs (0x1F).stack)).get? b=some u:=fun b o e hb=>by
  obtain ⟨u,hu⟩:=I.base.there b o e (fun z=>nomatch z)
  refine ⟨u,hideAll_get _ hu fun z=>?_⟩;rcases List.mem_cons.mp (I.qH b z) with q | q
  ·have h1:=Heap.lt_size e;have h2:s.heap.objs.size<=b:=by rw [q];exact I.ok.above
   exact absurd (Nat.lt_of_lt_of_le h1 h2) (Nat.lt_irrefl _)
  ·exact hb q
 exact ⟨e,.ref C,.ref t,_,H1,rfl,I.os,I.bare,wJ I.base I.m8 old b0 fl.1 ((Heap.UpToSlots.of_keeps hx.keeps).trans up),ql I.hok tr b0 fl.1,⟨fl,tr,old⟩,q⟩
theorem dO:Passes (iC P w) 0x1F E:=by
 rintro pins σ H1 s1 e s' I ⟨ea,C,a0,B,H',rfl,os,bare,un,hok,fly,q⟩;have J:=I.call' os un hok bare (fun b z=>nomatch z)
 refine wpAny_leaves_onW J.ok.frames rfl fly.fl fun h'' fl up=>?_;have old:∀ b o,s.heap.get? b=some o->b∉frs outer->∃ u,B.get? b=some u:=fun b o e hb=>by
  obtain ⟨o1,e1⟩:=I.base.there b o e (fun z=>nomatch z)
  refine fly.old b o1 e1 fun z=>?_;rcases List.mem_cons.mp (I.qH b z) with q | q
  ·have h1:=Heap.lt_size e;have h2:s.heap.objs.size<=b:=by rw [q];exact I.ok.above
   exact absurd (Nat.lt_of_lt_of_le h1 h2) (Nat.lt_irrefl _)
  ·exact hb q
 exact ⟨ea,C,a0,B,H',rfl,J.os,J.bare,wJ J.base J.m8 old fly.fl.1 fl.1 up,ql hok fly.tr fly.fl.1 fl.1,⟨fl,fly.tr,old⟩,q⟩
end
def wK (CX:Fy) (X:Cx) (E:St->XK):Prop:=∀ (pins:List 0x11) (σ:St) (H:Hp) (s:Shared) (e:Value) (s':Shared),Inv X pins σ H s->CX X.stack H s (E σ) e s'->X.xe e s'
def Xf (sp:Sp) (jY:List V) (E:St->XK) (t:TA):TE:=fun σ H Q=>t σ H fun vs H1=>sp (vs++jY) H1 Q (E σ)
section
variable {k:Nat}{f:Addr}{jY:List V}{ds:List Value}{E:St->XK}{m:Str}{o:Expr}
theorem T3 {Q:VK}{vs:List V} (F:aX X.prog X.w X.K X.mg X.base CX k f fd ps sp) (hr:cI k X.A) (hb:Binds X.K fd ps ds) (hd:Vals jY ds) (hx:wK CX X E)
  (I:Inv X pins σ H s) (r:Vals vs us) (h:sp (vs++jY) H Q (E σ)):wpAny 0x7 X.A (call (.ref f) us) (EP X pins σ Q) X.xe s:=by
 have r2:Vals (vs++jY) (us++ds):=r.append hd;have hl:(us++ds).length=ps.length:=by rw [<- r2.length];exact F.len _ _ _ _ h
 refine wpAny_call (codeAny_mono (F.run X.A X.stack s H ⟨us,[]⟩ (us++ds) (vs++jY) Q (E σ) hr I.env0 (hb s us I.mj hl) r2 h) fun r s' hq=>?_);cases r with
 | error e=>exact hx pins σ H s e s' I hq
 | ok fl =>
  cases fl with
  | ret u=>exact I.after hq
  | next=>exact False.elim hq
  | brk=>exact False.elim hq
  | cont=>exact False.elim hq
theorem MF (F:aX X.prog X.w X.K X.mg X.base CX k f fd ps sp) (hr:cI k X.A) (hg:Gl X x) (hm:X.mg x=some (.ref f)) (hk:PySem.W.keepIn X.K (.ref f)=true) (hb:Binds X.K fd ps ds) (hd:Vals jY ds) (hx:wK CX X E)
  (ha:PA X (e::es) t) (hdb:0x1E=false:=by decide) (he:starEach (e::es) X.env=(false,eval e X.env)::starEach es X.env:=by rfl) (hpl:(backTo pos (starEach es X.env)).any (·.1)=false:=by rfl) :
  PE X (.Call (.Name x p) (e::es) [] pos) (Xf sp jY E t):=by
 intro pins s σ H Q I h;refine wpAny_Call_Name_kw (jx I hg hm ?_ hdb);refine PySem.W.callWith_K (h₀:=X.base) I.ok.mod.kin hk (cB (ha pos pins s σ H _ I h) fun us s1 ⟨vs,H1,I1,r,q⟩=>⟨I1.mj,?_⟩) he hpl;exact T3 F hr hb hd hx I1 r q
end
def MJ (X:Cx) (E:XK):Prop:=∀ (pins:List 0x11) (σ:St) (H:Hp) (s:Shared) (h':Heap) (e C:Addr) (vs:List Value),Inv X pins σ H s->Heap.MadeExcOf s.heap h' e (.ref C) vs->E (.ref C) none H->X.xe (.ref e) { s with heap:=h' }
abbrev tV:List Value:=[.type "ValueError",.type "Exception",.type "BaseException",.type "object"]
theorem T4 {bmB:List Value}{newId:String} (X:K.In h) (q:excIn K C bmB newId=true) :
  ∃ bm N nm q bs hdct sn sub ab col dd k0 k1 k2 k3 k5 mN,h.get? C=some (excClassObj nm q C N bs bm hdct sn sub ab col dd k0 k1 k2 k3 k5 newId)/\h.Ns N mN/\mN "__init__"=none/\OwnTail h bmB bm:=by
 unfold excIn at q
 split at q
 ·rename_i dd cd sl ho
  split at q
  ·rename_i C' bm k0 k1 k2 k3 n k5 hm hs
   simp only [Bool.and_eq_true,beq_iff_eq,Bool.not_eq_true'] at q;obtain ⟨⟨⟨⟨⟨rfl,rfl⟩,hdel⟩,ht⟩,hok⟩,hni⟩:=q;obtain ⟨nm,bs,mro,ns,qn,hd,sn,sub,ab,col,del⟩:=cd;dsimp only at hm hdel hok hni;subst hm hdel;have hsl:sl=#[k0,k1,k2,k3,some (.builtin n),k5]:=by
    obtain ⟨l⟩:=sl;simp only at hs;rw [hs]
   subst hsl;exact ⟨bm,ns,nm,qn,bs,hd,sn,sub,ab,col,dd,k0,k1,k2,k3,k5,_,X _ _ ho,.of_isNs (isNs_of_in X hok),nsMap_none_of_in X hok hni,tail_of_in X ht⟩
  ·cases q
 ·cases q
def Xg (C:Addr) (E:XK) (t:TA):TS:=fun _ σ H=>t σ H fun vs H1=>vs.length<=sizeLine/\E (.ref C) none H1
theorem kW {E:XK}{np:Pos} (hc:X.calm=true) (hr:MJ X E) (hg:Gl X x) (hm:X.mg x=some (.ref C)) (hq:excIn X.K C tV "ValueError.__new__"=true)
  (ha:PA X (e::es) t) (hdb:0x1E=false:=by decide) (he:starEach (e::es) X.env=(false,eval e X.env)::starEach es X.env:=by rfl) (hpl:(backTo cpos (starEach es X.env)).any (·.1)=false:=by rfl) :
  PS X (.Raise (some (.Call (.Name x np) (e::es) [] cpos)) none pos) (Xg C E t):=by
 intro pins s σ H D I h;obtain ⟨tl,N,nm,q,bs,hdct,sn,sub,ab,col,dd,k0,k1,k2,k3,k5,mN,hC,hN,hni,T⟩:=T4 I.mod.kin hq;refine wpAny_Raise_call_subT (C:=C) (nm:=nm) (q:=q) (N:=N) (bs:=bs) (bm:=tl) (hdct:=hdct) (sn:=sn) (sub:=sub) (ab:=ab) (col:=col) (dd:=dd) (k0:=k0) (k1:=k1) (k2:=k2) (k3:=k3) (k5:=k5)
  PySem.F.excBase_ValueError (mN:=mN) (T.hasType PySem.F.excBase_ValueError.hasBase) (I.ok.hd hc) (by rw [he];show (false||(backTo cpos (starEach es X.env)).any (·.1))=false;rw [hpl];rfl) hni (jx I hg hm ⟨rfl,?_⟩ hdb)
 have h2:=ha cpos pins s σ H _ I h;rw [he] at h2 ⊢;refine Calls.evalArgs_plain (wpAny_mono h2 (fun us s2 hs=>?_) fun _ _ y=>y);obtain ⟨vs,H1,I1,r,hl,hE⟩:=hs;exact ⟨rfl,by rw [<- r.length];exact hl,I1.bk _ _ hC,hN.keeps I1.bk,T.keeps I1.bk,fun h' e' hx=>hr pins σ H1 s2 h' e' C us I1 hx hE⟩
abbrev Cx.hand (X:Cx) (ea:Addr):Cx:={ X with A:=X.A.mark (some (.ref ea)),calm:=false,xe:=fun _ _=>False }
abbrev Cx.Gn (X:Cx) (pn:List 0x11) (xe:Value->Shared->Prop):Cx:={ X with pn:=pn,xe:=xe }
section
variable {yL:List 0x11}{xe:Value->Shared->Prop}{ea:Addr}
theorem Inv.a0o (I:Inv X pins σ H s):Inv (X.Gn (X.pn++pins) xe) [] σ H s :=
 ⟨⟨I.ok.mod,I.ok.kind,I.ok.glob,I.ok.blt,I.ok.above,I.ok.inj,I.ok.has,I.ok.cab,I.ok.hd,I.ok.frames,I.ok.stk,I.ok.ZX,I.ok.bs,I.ok.Kf,I.ok.yK,I.ok.BK,I.ok.m8,I.ok.RV⟩,I.os,I.bare,I.base,I.loc,I.cell,I.free,I.gM,fun p hp=>I.pin p (by simpa using hp),I.hok,I.len⟩
theorem Inv.uJ (ok:X.Ok) (I:Inv (X.Gn (X.pn++pins) xe) yL σ H s):Inv X pins σ H s :=
 ⟨ok,I.os,I.bare,I.base,I.loc,I.cell,I.free,I.gM,fun p hp=>I.pin p (List.mem_append_left _ hp),I.hok,I.len⟩
theorem Inv.MK (I:Inv X pins σ H s):Inv (X.hand ea) pins σ H s :=
 ⟨⟨I.ok.mod,I.ok.kind,I.ok.glob,I.ok.blt,I.ok.above,I.ok.inj,I.ok.has,I.ok.cab,(fun z=>nomatch z),I.ok.frames,I.ok.stk,I.ok.ZX,I.ok.bs,I.ok.Kf,I.ok.yK,I.ok.BK,I.ok.m8,I.ok.RV⟩,I.os,I.bare,I.base,I.loc,I.cell,I.free,I.gM,I.pin,I.hok,I.len⟩
theorem Inv.wL (ok:X.Ok) (I:Inv (X.hand ea) pins σ H s):Inv X pins σ H s :=
 ⟨ok,I.os,I.bare,I.base,I.loc,I.cell,I.free,I.gM,I.pin,I.hok,I.len⟩
theorem qm {M:Model}{n:Str}{Q:Unit->Shared->Prop} (I:Inv X pins σ H s) (hN:X.N.Nodup) (hi:X.N[i]?=some n) (hk:X.env.scope.names.lookup n=some .local)
  (h:∀ s',Inv X pins (σ.set i none) H s'->Q () s'):wpAny M A (do bindName X.env n .none;unbindBehindTheSuite X.env n pos) Q E s:=by
 obtain ⟨m,hn,hl⟩:=id I.loc;have hcls:(X.env.scope.kind==.class||(X.env.scope.kind==.module&&X.env.locals != X.env.globals))=false:=by rw [I.ok.kind];rfl
 have hiσ:i<σ.length:=by rw [I.len];exact (List.getElem?_eq_some_iff.mp hi).1
 have Kg:=I.Kg;refine wpAny_nameGoes_keeps hk hn hcls fun h' v hn' hs=>?_;obtain ⟨oL,_,_,hoL,_⟩:=id hn;have tracked:jP X.prog X.w H h':=fun b ob e=>by
  refine (I.hok b ob e).stay (fun c w' hc q=>(hs.2 c ?_).trans q) (fun _ q=>q) fun _ _ q=>q;rintro rfl;rcases hc with rfl | hc
  ·rw [I.free] at e;cases e
  ·rw [I.free] at hc;cases hc
 refine h _ ⟨I.ok,I.os,I.bare,0x31,⟨_,hn',fun j y v' e1 e2 e3=>?_⟩,fun y c e=>?_,I.free,I.gM,fun p hp=>?_,tracked,by simpa using I.len⟩
 ·exact (0x14).trans (I.base.keep b o e n hb hx)
 ·obtain ⟨sl,e1⟩:=I.base.slot b o e n hb hx;exact ⟨sl,(0x14).trans e1⟩
 ·obtain ⟨o',e1⟩:=I.base.there b o e hx;exact ⟨o',(0x14).trans e1⟩
 ·by_cases hj:j=i
  ·subst hj;rw [List.getElem?_set_self hiσ] at e2;cases e2
  ·rw [List.getElem?_set_ne (Ne.symm hj)] at e2;obtain ⟨u',r',q⟩:=hl j y v' e1 e2 e3;refine ⟨u',r',?_⟩;rcases q with ⟨k,e⟩ | ⟨k,c,e,z⟩
   ·refine .inl ⟨k,?_⟩;have:y≠n:=fun e=>hj (qI hN e1 (e ▸ hi));simp [this,e]
   ·exact .inr ⟨k,c,e,z.sameBut hs (Kg y c e)⟩
 ·obtain ⟨w',z⟩:=I.cell y c e;exact ⟨w',z.sameBut hs (Kg y c e)⟩
 ·obtain ⟨e,n,ne,nf,d⟩:=I.pin p hp;exact ⟨(hs.2 p.1 ne).trans e,n,ne,nf,d⟩
end
def MN (i:Nat) (D:Ends):Ends:={ nx:=fun σ H=>D.nx (σ.set i none) H,rt:=D.rt,bk:=fun σ H=>D.bk (σ.set i none) H,ct:=fun σ H=>D.ct (σ.set i none) H }
inductive Gp (K:PySem.W.Frag) (L:Addr) (i:Nat) (ts:TS) (D:Ends) (σ1:L2.St) (Cv:Value) (H1:Hp):Prop
 | mk (C:Addr) (_:Cv=.ref C) (_:exmOne K (.ref C) (.ref L)=some true) (_:∀ ea,H1 ea=none->ts (MN i D) (σ1.set i (some (.ref ea))) (upd H1 ea (Rv C ea))):Gp K L i ts D σ1 Cv H1
def Vu (K:PySem.W.Frag) (L:Addr) (i:Nat) (ts:TS) (D:Ends):St->XK:=fun σ1 Cv _ H1=>Gp K L i ts D σ1 Cv H1
def tTry (K:PySem.W.Frag) (L:Addr) (i:Nat) (tb:(St->XK)->TS) (ts:TS):TS:=fun D σ H=>tb (Vu K L i ts D) D σ H
theorem Xh {n:Str}{np hpos:Pos}{b0:Stmt}{suite:List Stmt}{tb:(St->XK)->TS} (hstk:X.stack=X.env::X.outer) (hfr:X.env.frame=some X.env.locals)
  (hN:X.N.Nodup) (hi:X.N[i]?=some n) (hk:X.env.scope.names.lookup n=some .local) (hg:Gl X x) (hm:X.mg x=some (.ref L))
  (hb:∀ pn xe E,wK (iC X.prog X.w) (X.Gn pn xe) E->yD (X.Gn pn xe) body (tb E)) (hs:∀ ea,yD (X.hand ea) (b0::suite) ts) (hdb:0x1E=false:=by decide) :
  PS X (.Try body [.ExceptHandler (some (.Name x np)) (some n) (b0::suite) hpos] [] [] pos) (tTry X.K L i tb ts):=by
 intro pins s σ H D I h;have ok:=I.ok;refine wpAny_Try_except (wpAny_mono (hb (X.pn++pins) (fun e s₁=>wpAny 0x7 X.A (noteFrame e X.env) (fun _ s₂=>wpAny 0x7 X.A (setFlight e none) (fun _ s₃=>wpAny 0x7 X.A (handleBy e X.env [.ExceptHandler (some (.Name x np)) (some n) (b0::suite) hpos]) (SP X pins D) X.xe s₃) X.xe s₂) X.xe s₁)
  (Vu X.K L i ts D) ?_ [] s σ H D I.a0o h) (fun f s1 hq=>?_) fun e s1 he=>he)
 ·rintro yL σ1 H1 s1 e s' J ⟨ea,C,a0,B,H',rfl,os,bare,un,hok,fly,C',rfl,hex,hts⟩;have fl:=fly.fl;have ff:s'.heap.FunFrames B X.stack:=fl.2.2.1;have frm:X.A.frames=some (X.env::X.outer):=by rw [<- hstk];exact ok.frames
  have fl':Heap.FlyingW B (X.env::X.outer) ea (.ref C') a0 s'.heap:=by rw [<- hstk];exact fl
  have at_:∀ h5,Heap.FlyingW B (X.env::X.outer) ea (.ref C') a0 h5->s'.heap.UpToSlots h5->Inv X pins σ1 H' { s' with heap:=h5 }:=fun h5 f5 up =>
   Inv.uJ ok (J.call' (s':={ s' with heap:=h5 }) os (wJ un ff fly.old fl.1 f5.1 up) (ql hok fly.tr fl.1 f5.1) bare (fun b z=>nomatch z))
  have eaB:B.get? ea=none:=fl.2.1;have eaH:H' ea=none:=by
   cases q:H' ea with
   | none=>rfl
   | some o=>obtain ⟨u,hu⟩:=fly.tr ea o q;rw [eaB] at hu;cases hu
  have ea1:s1.heap.get? ea=none:=by
   cases q:s1.heap.get? ea with
   | none=>rfl
   | some o =>
    by_cases hb':ea∈frs X.stack
    ·obtain ⟨_,o',ho',hd⟩:=ff.mem hb';obtain ⟨oe,vs,_,_,_,he,_,hde,_⟩:=fl.2.2.2;rw [he] at ho';cases ho';exact absurd hde (hd vs)
    ·obtain ⟨u,hu⟩:=fly.old ea o q hb';rw [eaB] at hu;cases hu
  have at2:∀ h5,Heap.FlyingW B (X.env::X.outer) ea (.ref C') a0 h5->s'.heap.UpToSlots h5->Inv X pins σ1 (upd H' ea (Rv C' ea)) { s' with heap:=h5 }:=fun h5 f5 up=>by
   have u5:=wJ un ff fly.old fl.1 f5.1 up;have ne:∀ b o,s1.heap.get? b=some o->b≠ea:=fun b o e z=>by rw [z,ea1] at e;cases e
   have neH:∀ b o,H' b=some o->b≠ea:=fun b o e z=>by rw [z,eaH] at e;cases e
   have u6:Un (frs X.stack) [] H1 (upd H' ea (Rv C' ea)) s1.heap h5:=⟨u5.keep,u5.slot,fun b o e q hx=>by rw [aA (ne b o e)];exact u5.free b o e q hx,u5.there,
    fun b xs e=>by have z:=u5.tups b xs e;rw [aA (neH b _ z)];exact z,fun b o u e=>by have z:=u5.oA b o u e;rw [aA (neH b _ z)];exact z,
    fun b ps e=>by obtain ⟨more,z⟩:=u5.pO b ps e;exact ⟨more,by rw [aA (neH b _ z)];exact z⟩⟩
   have k5:jP X.prog X.w (upd H' ea (Rv C' ea)) h5:=fun b u e=>by
    by_cases hbe:b=ea
    ·subst hbe;rw [ak] at e;cases e;obtain ⟨ob,hob,hobc⟩:=f5.there;exact ⟨⟨ob,hob,hobc⟩,⟨ob,hob⟩,fun g1 g2 ⟨o,e1,e2⟩ kk=>⟨o,kk o e1,e2⟩⟩
    ·rw [aA hbe] at e;refine (ql hok fly.tr fl.1 f5.1 b u e).stay (fun _ _ _ q=>q) (fun c q=>by rw [aA (neH c _ q)];exact q) fun c xs q=>by rw [aA (neH c _ q)];exact q
   exact Inv.uJ ok (J.call' (s':={ s' with heap:=h5 }) os u6 k5 bare (fun b z=>nomatch z))
  refine wpAny_looks_onW frm hfr fl' fun h4 held up4=>?_;refine wpAny_landsW held fun h5 fl5 up5=>?_;have J5:Inv (X.hand ea) pins σ1 H' { s' with heap:=h5 }:=(at_ h5 fl5 (up4.trans up5)).MK;refine wpAny_handleBy_cons (codeAny_handlers_test (jx (X:=X.hand ea) J5 hg hm ?_ hdb)) (by intro q;cases q);obtain ⟨ob,hob,hobc⟩:=fl5.there;have LT:Looks 0x7 h5 (typeOf (.ref ea)) (.ref C'):=Ru.ty ⟨ob,hob,hobc⟩;refine (exm_one (K:=X.K) J5.mj LT hex).at ?_;refine codeAny_handlers_suite_as ?_;refine lands_againW fl5 fun h6 fl6 up6=>?_;have J6:Inv (X.hand ea) pins σ1 (upd H' ea (Rv C' ea)) { s' with heap:=h6 }:=(at2 h6 fl6 ((up4.trans up5).trans up6)).MK;refine qJ (X:=X.hand ea) (v:=.ref ea) J6 hN hi (.inl hk) rfl (fun s7 J7=>?_) (.inr hk);refine wpAny_mono (hs ea pins s7 _ _ (MN i D) J7 (hts ea eaH)) (fun f s8 q8=>?_) fun _ _ z=>z.elim;cases f with
  | next =>
   obtain ⟨σ2,H2,J8,q⟩:=q8;exact qm (J8.wL ok) hN hi hk fun s9 J9=>⟨_,H2,J9,q⟩
  | brk =>
   obtain ⟨σ2,H2,J8,q⟩:=q8;exact qm (J8.wL ok) hN hi hk fun s9 J9=>⟨_,H2,J9,q⟩
  | cont =>
   obtain ⟨σ2,H2,J8,q⟩:=q8;exact qm (J8.wL ok) hN hi hk fun s9 J9=>⟨_,H2,J9,q⟩
  | ret u =>
   obtain ⟨v,σ2,H2,J8,r,q⟩:=q8;exact qm (J8.wL ok) hN hi hk fun s9 J9=>⟨v,_,H2,J9,r,q⟩
 ·cases f with
  | next =>
   obtain ⟨σ2,H2,J8,q⟩:=hq;exact wpAny_execs_nil ⟨σ2,H2,Inv.uJ ok J8,q⟩
  | brk =>
   obtain ⟨σ2,H2,J8,q⟩:=hq;exact ⟨σ2,H2,Inv.uJ ok J8,q⟩
  | cont =>
   obtain ⟨σ2,H2,J8,q⟩:=hq;exact ⟨σ2,H2,Inv.uJ ok J8,q⟩
  | ret u =>
   obtain ⟨v,σ2,H2,J8,r,q⟩:=hq;exact ⟨v,σ2,H2,Inv.uJ ok J8,r,q⟩
section
variable {κ:Type} [DecidableEq κ]
def jE (kvs:List (κ×V)) (k:κ):Option V:=(kvs.find? fun kv=>decide (kv.1=k)).map (·.2)
def putK (kvs:List (κ×V)) (k:κ) (v:V):List (κ×V) :=
 if (kvs.any fun kv=>decide (kv.1=k))=true then kvs.map (fun kv=>if kv.1=k then (kv.1,v) else kv) else kvs++[(k,v)]
def rD (kvs:List (κ×V)) (k:κ):List (κ×V):=kvs.filter fun kv=>decide (kv.1≠k)
theorem kY {p:κ×V}{r:List (κ×V)}{k:κ} (e:p.1=k):jE (p::r) k=some p.2:=by simp [jE,List.find?_cons,e]
theorem kZ {p:κ×V}{r:List (κ×V)}{k:κ} (e:¬ p.1=k):jE (p::r) k=jE r k:=by simp [jE,List.find?_cons,e]
theorem zx (k:κ):∀ kvs:List (κ×V),(kvs.any fun kv=>decide (kv.1=k))=(jE kvs k).isSome
 | []=>rfl
 | p::r=>by
  rw [List.any_cons]
  by_cases e:p.1=k
  ·simp only [kY e,decide_eq_true e,Bool.true_or,Option.isSome_some]
  ·rw [kZ e,decide_eq_false e,Bool.false_or];exact zx k r
theorem lg (kvs:List (κ×V)) (k:κ) (v:V):(putK kvs k v).length<=kvs.length+1:=by
 unfold putK
 split
 ·rw [bL];lia
 ·rw [jj,jT,List.length_nil];lia
theorem jc.gZ {o:Option V}{u:Option Value} (r:jc o u):o.isSome=u.isSome:=by
 cases o with
 | none=>cases u with
  | none=>rfl
  | some _=>exact (show False from r).elim
 | some _=>cases u with
  | none=>exact (show False from r).elim
  | some _=>rfl
theorem jc.getD {o:Option V}{u:Option Value}{d:V}{d':Value} (r:jc o u) (rd:RelV d d'):RelV (o.getD d) (u.getD d'):=by
 cases o with
 | none=>cases u with
  | none=>exact rd
  | some _=>exact (show False from r).elim
 | some _=>cases u with
  | none=>exact (show False from r).elim
  | some _=>exact r
theorem KV.val {kvs:List (κ×V)}{vs:List (κ×Value)} (r:KV kvs vs) (k:κ):jc (jE kvs k) (valueAt vs k):=by
 unfold KV at r
 induction r with
 | nil=>exact True.intro
 | @cons p q ps qs h t ih =>
  obtain ⟨h1,h2⟩:=h
  by_cases e:p.1=k
  ·have e':q.1=k:=h1.symm.trans e;have b:valueAt (q::qs) k=some q.2:=by simp [valueAt,List.find?_cons,e']
   rw [kY e,b];exact h2
  ·have e':¬ q.1=k:=fun z=>e (h1.trans z);have b:valueAt (q::qs) k=valueAt qs k:=by simp [valueAt,List.find?_cons,e']
   rw [kZ e,b];exact ih
theorem KV.any {kvs:List (κ×V)}{vs:List (κ×Value)} (r:KV kvs vs) (k:κ):(kvs.any fun kv=>decide (kv.1=k))=vs.any fun kv=>decide (kv.1=k):=by
 unfold KV at r
 induction r with
 | nil=>rfl
 | cons h t ih=>rw [List.any_cons,List.any_cons,ih,h.1]
theorem KV.repl {kvs:List (κ×V)}{vs:List (κ×Value)} (r:KV kvs vs) (k:κ)  (ry:RelV y u) :
  KV (kvs.map fun kv=>if kv.1=k then (kv.1,y) else kv) (vs.map fun kv=>if kv.1=k then (kv.1,u) else kv):=by
 unfold KV at r ⊢
 induction r with
 | nil=>exact .nil
 | @cons p q ps qs h t ih =>
  rw [List.map_cons,List.map_cons];refine .cons ?_ ih;obtain ⟨h1,h2⟩:=h
  by_cases e:p.1=k
  ·rw [if_pos e,if_pos (h1.symm.trans e)];exact ⟨h1,ry⟩
  ·rw [if_neg e,if_neg (fun z=>e (h1.trans z))];exact ⟨h1,h2⟩
theorem KV.put {kvs:List (κ×V)}{vs:List (κ×Value)} (r:KV kvs vs) (k:κ)  (ry:RelV y u):KV (putK kvs k y) (stored vs k u):=by
 unfold putK stored;rw [r.any k]
 by_cases e:(vs.any fun kv=>decide (kv.1=k))=true
 ·rw [if_pos e,if_pos e];exact r.repl k ry
 ·rw [if_neg e,if_neg e];exact Paired.snoc r ⟨rfl,ry⟩
theorem KV.drop {kvs:List (κ×V)}{vs:List (κ×Value)} (r:KV kvs vs) (k:κ):KV (rD kvs k) (without vs k):=by
 unfold KV at r ⊢;unfold rD without
 induction r with
 | nil=>exact .nil
 | @cons p q ps qs h t ih =>
  obtain ⟨h1,h2⟩:=h;rw [List.filter_cons,List.filter_cons]
  by_cases e:p.1=k
  ·have a:¬ decide (p.1≠k)=true:=by simp [e]
   have b:¬ decide (q.1≠k)=true:=by simp [h1.symm.trans e]
   rw [if_neg a,if_neg b];exact ih
  ·have e':¬ q.1=k:=fun z=>e (h1.trans z);have a:decide (p.1≠k)=true:=by simp [e]
   have b:decide (q.1≠k)=true:=by simp [e']
   rw [if_pos a,if_pos b];exact .cons ⟨h1,h2⟩ ih
theorem KV.length {kvs:List (κ×V)}{vs:List (κ×Value)} (r:KV kvs vs):kvs.length=vs.length:=Paired.length r
theorem MP (kvs:List (κ×V)) (k:κ):(rD kvs k).length<=kvs.length:=List.length_filter_le _ _
end
theorem pG {k:Key} (r:RelV (kV k) u):(bJ P w).is k u=true:=by
 cases k with
 | inl i=>obtain ⟨t,e⟩:=(show ∃ t,u=Value.int i t from r);subst e;exact yI P w i t
 | inr x=>obtain ⟨t,e⟩:=(show ∃ t,u=Value.str x t from r);subst e;exact yJ P w x t
theorem uK:∀ {ks:List Key}{us:List Value},Vals (ks.map kV) us->ItemsAre (bJ P w) ks us
 | [],_,r=>by rw [List.map_nil] at r;cases r;exact .nil
 | k::ks,_,r=>by
  rw [List.map_cons] at r;cases r with
  | cons h t=>exact .cons (pG h) (uK t)
abbrev KT (H:Hp):List (List Key×V)->List (List Key×Addr×Value)->Prop:=Paired fun p q=>p.1=q.1/\H q.2.1=some (.tup (p.1.map kV))/\RelV p.2 q.2.2
theorem KT.val {kvs:List (List Key×V)}{xs:List (List Key×Addr×Value)} (r:KT H kvs xs) (k:List Key):jc (jE kvs k) ((atKey xs k).map (·.2)):=by
 induction r with
 | nil=>exact True.intro
 | @cons p q ps qs h t ih =>
  obtain ⟨h1,_,h2⟩:=h
  by_cases e:p.1=k
  ·have e':q.1=k:=h1.symm.trans e;have b:atKey (q::qs) k=some q.2:=by simp [atKey,List.find?_cons,e']
   rw [kY e,b];exact h2
  ·have e':¬ q.1=k:=fun z=>e (h1.trans z);have b:atKey (q::qs) k=atKey qs k:=by simp [atKey,List.find?_cons,e']
   rw [kZ e,b];exact ih
theorem KT.repl {kvs:List (List Key×V)}{xs:List (List Key×Addr×Value)} (r:KT H kvs xs) (k:List Key)  (ry:RelV y u) :
  KT H (kvs.map fun kv=>if kv.1=k then (kv.1,y) else kv) (xs.map (putAt k u)):=by
 induction r with
 | nil=>exact .nil
 | @cons p q ps qs h t ih =>
  rw [List.map_cons,List.map_cons];refine .cons ?_ ih;obtain ⟨h1,h2,h3⟩:=h;unfold putAt
  by_cases e:p.1=k
  ·rw [if_pos e,if_pos (h1.symm.trans e)];exact ⟨h1,h2,ry⟩
  ·rw [if_neg e,if_neg (fun z=>e (h1.trans z))];exact ⟨h1,h2,h3⟩
theorem KT.put {kvs:List (List Key×V)}{xs:List (List Key×Addr×Value)} (r:KT H kvs xs) (k:List Key)  (hb:H b=some (.tup (k.map kV))) (ry:RelV y u) :
  KT H (putK kvs k y) (storedH xs k b u):=by
 have e:(kvs.any fun kv=>decide (kv.1=k))=(atKey xs k).isSome:=by
  rw [zx,(r.val k).gZ,Option.isSome_map]
 unfold putK storedH;rw [e]
 by_cases q:(atKey xs k).isSome=true
 ·rw [if_pos q,if_pos q];exact r.repl k ry
 ·rw [if_neg q,if_neg q];exact Paired.snoc r ⟨rfl,hb,ry⟩
theorem KT.keeps {kvs:List (List Key×V)}{xs:List (List Key×Addr×Value)} (r:KT H kvs xs) (ht:∀ b ys,H b=some (.tup ys)->H' b=some (.tup ys)):KT H' kvs xs :=
 Paired.fQ r fun _ _ z=>⟨z.1,ht _ _ z.2.1,z.2.2⟩
theorem Vv {u:HO} (ok:jP P w H h) (e:Rd H a u):cj P w H h a u:=e.ok ok
theorem uL {kvs:List (Key×V)} (ok:jP P w H h) (e:Rd H a (.dK kvs)):kvs.length<=sizeLine/\(a==sysModules)=false/\∃ vs,KV kvs vs/\h.DictOf (bJ P w) a vs :=
 show cj P w H h a (.dK kvs) from Vv ok e
theorem zy {kvs:List (Key×V)} (ok:jP P w H h) (e:H a=some (.dK kvs)):kvs.length<=sizeLine/\(a==sysModules)=false/\∃ vs,KV kvs vs/\h.DictOf (bJ P w) a vs:=uL ok (.inl e)
theorem oN {ks:List Key} (ok:jP P w H h) (e:H a=some (.tup (ks.map kV))):(tupleKind (bJ P w)).is h ks a:=by
 obtain ⟨_,its,r,o,h1,h2,n,h3⟩:=(show cj P w H h a (.tup (ks.map kV)) from ok a _ e)
 exact ⟨o,its.toArray,n,h1,h2,h3,by simpa using uK r⟩
theorem uM {kvs:List (List Key×V)} (ok:jP P w H h) (e:Rd H a (.dT kvs)):kvs.length<=sizeLine/\(a==sysModules)=false /\
  ∃ xs,KT H kvs xs/\h.DictOfH (tupleKind (bJ P w)) a xs:=by
 obtain ⟨z,y,xs,r,o,es,ep,h1,h2,h3,h4,h5⟩:=(show cj P w H h a (.dT kvs) from Vv ok e)
 refine ⟨z,y,xs,r,o,es,ep,h1,h2,h3,h4,fun x hx=>?_,h5⟩;have all:∀ {l:List (List Key×V)}{m:List (List Key×Addr×Value)},KT H l m->∀ x∈m,(tupleKind (bJ P w)).is h x.1 x.2.1:=by
  intro l m q
  induction q with
  | nil=>intro x hx;exact nomatch hx
  | @cons p q ps qs hq t ih =>
   intro x hx;rcases List.mem_cons.mp hx with e | hx
   ·subst e;exact oN ok (by rw [<- hq.1];exact hq.2.1)
   ·exact ih x hx
 exact all r x hx
theorem a0p {kvs:List (List Key×V)} (ok:jP P w H h) (e:H a=some (.dT kvs)):kvs.length<=sizeLine/\(a==sysModules)=false /\
  ∃ xs,KT H kvs xs/\h.DictOfH (tupleKind (bJ P w)) a xs:=uM ok (.inl e)
def gR (H:Hp) (a:Addr) (y:V) (r:Option V):Prop :=
 (∃ kvs k,Rd H a (.dK kvs)/\y=kV k/\r=jE kvs k)\/∃ kvs k b,Rd H a (.dT kvs)/\y=.ref b/\H b=some (.tup (k.map kV))/\r=jE kvs k
def Jl (H:Hp) (a:Addr) (y v:V) (H':Hp):Prop :=
 (∃ kvs k,H a=some (.dK kvs)/\y=kV k/\kvs.length<sizeLine/\H'=upd H a (.dK (putK kvs k v))) \/
 ∃ kvs k b,H a=some (.dT kvs)/\y=.ref b/\H b=some (.tup (k.map kV))/\kvs.length<sizeLine/\H'=upd H a (.dT (putK kvs k v))
theorem gR.k {kvs:List (Key×V)}{k:Key} (e:H a=some (.dK kvs)):gR H a (kV k) (jE kvs k):=.inl ⟨kvs,k,.inl e,rfl,rfl⟩
theorem Jl.k {kvs:List (Key×V)}{k:Key} (e:H a=some (.dK kvs)) (hl:kvs.length<sizeLine):Jl H a (kV k) v (upd H a (.dK (putK kvs k v))):=.inl ⟨kvs,k,e,rfl,hl,rfl⟩
section
variable {r:Value}{o:Option V}
theorem Inv.big (I:Inv X pins σ H s):sysModules<s.heap.objs.size:=by
 have h:mainGlobals<s.heap.objs.size:=(I.mod.glob.keeps I.bk).lt;exact Nat.lt_trans 0x8 h
theorem Jm (hu:A.units+1<cLine) (I:Inv X pins σ H s) (g:gR H a y (some v)) (ry:RelV y u) (h:∀ w' s',Inv X pins σ H s'->RelV v w'->Q w' s') :
  wpAny 0x7 A (getItem (.ref a) u) Q E s:=by
 rcases g with ⟨kvs,k,e,ey,l⟩ | ⟨kvs,k,b,e,ey,eb,l⟩
 ·subst ey;obtain ⟨z,hd,vs,rel,dd⟩:=uL I.hok e;obtain ⟨w',hw,Ja⟩:=jc.some_of (v:=v) (o:=valueAt vs k) (by rw [l];exact rel.val k);exact wpAny_getItem_of (pG ry) dd.mapOf hw (h w' _ (I.tok _) Ja)
 ·subst ey;cases (show u=Value.ref b from ry)
  obtain ⟨z,hd,xs,rel,dd⟩:=uM I.hok e;obtain ⟨w',hw,Ja⟩:=jc.some_of (v:=v) (o:=(atKey xs k).map (·.2)) (by rw [l];exact rel.val k);obtain ⟨p,hp,hp2⟩:=Option.map_eq_some_iff.mp hw;refine wpAny_getItem_heap (tupleKind_room_in1 hu) (oN I.hok eb) dd hp ?_;rw [hp2];exact h w' _ (I.tok _) Ja
theorem T5 (hu:A.units+1<cLine) (I:Inv X pins σ H s) (g:gR H a y o) (ry:RelV y u) (h:∀ s',Inv X pins σ H s'->Q (.bool (!o.isSome)) s') :
  wpAny 0x7 A (compareOp .NotIn u (.ref a)) Q E s:=by
 rcases g with ⟨kvs,k,e,ey,l⟩ | ⟨kvs,k,b,e,ey,eb,l⟩
 ·subst ey;obtain ⟨z,hd,vs,rel,dd⟩:=uL I.hok e;refine wpAny_notIn_of (pG ry) hd dd.mapOf ?_;rw [<- (rel.val k).gZ,<- l];exact h _ (I.tok _)
 ·subst ey;cases (show u=Value.ref b from ry)
  obtain ⟨z,hd,xs,rel,dd⟩:=uM I.hok e;refine wpAny_notIn_heap (tupleKind_room_in1 hu) (oN I.hok eb) hd dd ?_;have q:=(rel.val k).gZ;rw [Option.isSome_map] at q;rw [<- q,<- l];exact h _ (I.tok _)
theorem qp {ob:HO} (I:Inv X pins σ H s) (mu:Mut (H a)) (hs:Heap.SameBut a s.heap h') (he:∃ q,h'.get? a=some q) (new:cj X.prog X.w (upd H a ob) h' a ob) :
  Inv X pins σ (upd H a ob) { s with heap:=h',toks:=t' } :=
 I.write (x:=a) (e:=a) mu (.inl rfl) (fun b q hb z=>(hs.2 b hb).trans z) he new
theorem CG {kvs:List (Key×V)}{vs:List (Key×Value)} (z:kvs.length<=sizeLine) (hd:(a==sysModules)=false) (rel:KV kvs vs) (dd:h'.DictOf (bJ P w) a vs) :
  cj P w H' h' a (.dK kvs):=⟨z,hd,vs,rel,dd⟩
theorem Jo {Q:Unit->Shared->Prop} (hu:A.units+1<cLine) (I:Inv X pins σ H s) (g:Jl H a y v H') (ry:RelV y u) (rv:RelV v r) (h:∀ s',Inv X pins σ H' s'->Q () s') :
  wpAny 0x7 A (setItem (.ref a) u r) Q E s:=by
 rcases g with ⟨kvs,k,e,ey,l,eH⟩ | ⟨kvs,k,b,e,ey,eb,l,eH⟩
 ·subst ey eH;obtain ⟨z,hd,vs,rel,dd⟩:=zy I.hok e;have hz:vs.length<=sizeLine:=by rw [<- rel.length];exact z
  have hl:(putK kvs k v).length<=sizeLine:=by have:=lg kvs k v;lia
  refine wpAny_setItem_pairs (hsz:=hz) (pG ry) dd fun h' Rw hs=>h _ ?_;have he:∃ q,h'.get? a=some q:=let ⟨q,_,_,hq,_⟩:=Rw;⟨q,hq⟩
  exact qp I (by rw [e];exact True.intro) hs he (CG hl hd (rel.put k rv) Rw)
 ·subst ey eH;cases (show u=Value.ref b from ry)
  obtain ⟨z,hd,xs,rel,dd⟩:=a0p I.hok e;have hz:xs.length<=sizeLine:=by rw [<- Paired.length rel];exact z
  have hl:(putK kvs k v).length<=sizeLine:=by have:=lg kvs k v;lia
  refine wpAny_setItem_heap (hsz:=hz) (tupleKind_room_in1 hu) (oN I.hok eb) dd fun h' Rw hs=>h _ ?_;obtain ⟨q,es,ep,hq,h2,h3,h4,_,h5⟩:=Rw;refine qp I (by rw [e];exact True.intro) hs ⟨q,hq⟩ ⟨hl,hd,_,(rel.put k eb rv).keeps fun c ys ec=>?_,q,es,ep,hq,h2,h3,h4,h5⟩;rw [aA (a0a ec e (fun z=>nomatch z))]
  exact ec
end
section
variable {kvs:List (Key×V)}{k:Key}
theorem Jp {Q:Unit->Shared->Prop} (I:Inv X pins σ H s) (e:H a=some (.dK kvs)) (ry:RelV (kV k) u) (l:(jE kvs k).isSome=true) (h:∀ s',Inv X pins σ (upd H a (.dK (rD kvs k))) s'->Q () s') :
  wpAny 0x7 A (delItem (.ref a) u) Q E s:=by
 obtain ⟨z,hd,vs,rel,dd⟩:=zy I.hok e;refine wpAny_delItem_slot dd.typeIs 0x8 PySem.F.slot_dict_delitem
  (call_meetsIn PySem.F.slot_dict_delitem dd.typeIs PySem.F.entry_dict_delitem (PySem.F.args_dict_delitem_2 _ _) (meets_dict_delitem_pairs (bJ X.prog X.w) a (pG ry)) ⟨vs,dd,by rw [<- rel.length];exact z,by rw [<- (rel.val k).gZ];exact l,fun h' Rw hs=>h _ ?_⟩)
 have he:∃ q,h'.get? a=some q:=let ⟨q,_,_,hq,_⟩:=Rw;⟨q,hq⟩
 exact qp I (by rw [e];exact True.intro) hs he (CG (Nat.le_trans (MP kvs k) z) hd (rel.drop k) Rw)
end
def NoSl (i:Expr):Prop:=∀ ov iv,subscripted i false ov iv=operate [ov,iv] (getItem ov iv)
theorem T6 {slice:Expr}{id:String}
  (hl:typeLookup (.type T) "__getitem__"=pure (some (.builtin id))) (hs:NoSl slice)
  (h:wpAny 0xB A (eval value env) (fun o s₁=>wpAny 0xB A (eval slice env) (fun i s₂=>s₂.TypeIs o T/\wpAny 0xB A (getItem o i) Q E s₂) E s₁) E s) :
  wpAny 0xB A (eval (.Subscript value slice pos) env) Q E s:=by
 refine Subscript_ (wpAny_mono h (fun o s₁ h₁=>wpAny_mono h₁ (fun i s₂ h₂=>?_) fun _ _ x=>x) fun _ _ x=>x);obtain ⟨hT,h₂⟩:=h₂;unfold subscriptTail;refine wpAny_bind ?_;rw [getitemInPython_of_ne hT.not_modules];refine wpAny_bind (wpAny_specialOf hT hl ?_);have fin:wpAny 0xB A (subscripted slice false o i) (fun r s₃=>wpAny 0xB A (letTemporaryGo value o r >>= fun _=>pure r) Q E s₃) E s₂:=by
  rw [hs o i];exact wpAny_operating (wpAny_mono h₂ (fun r s₃ h₃=>wpAny_bind (wpAny_letTemporaryGo (wpAny_pure h₃))) fun _ _ x=>x)
 first
  | exact wpAny_pure (wpAny_bind fin)
  | exact wpAny_bind (wpAny_pure (wpAny_bind fin))
  | exact wpAny_bind fin
theorem zA {o:Option V} (I:Inv X pins σ H s) (g:gR H a y o):s.TypeIs (.ref a) "dict":=by
 rcases g with ⟨kvs,k,e,_,_⟩ | ⟨kvs,k,b,e,_,_,_⟩
 ·obtain ⟨_,_,vs,_,dd⟩:=uL I.hok e;exact dd.typeIs
 ·obtain ⟨_,_,xs,_,dd⟩:=uM I.hok e;exact dd.typeIs
inductive Gq (Q:VK) (x y:V) (H2:Hp):Prop
 | mk (a:Addr) (v:V) (_:x=.ref a) (_:gR H2 a y (some v)) (_:Q v H2):Gq Q x y H2
def a0q (td ty:TE):TE:=fun σ H Q=>td σ H fun x H1=>ty σ H1 fun y H2=>Gq Q x y H2
inductive uN (Q:VK) (y x:V) (H2:Hp):Prop
 | mk (a:Addr) (o:Option V) (_:x=.ref a) (_:gR H2 a y o) (_:Q (.bl (!o.isSome)) H2):uN Q y x H2
def T7 (ty td:TE):TE:=fun σ H Q=>ty σ H fun y H1=>td σ H1 fun x H2=>uN Q y x H2
inductive Gr (D:Ends) (σ:L2.St) (v x y:V) (H3:Hp):Prop
 | mk (a:Addr) (H4:Hp) (_:x=.ref a) (_:Jl H3 a y v H4) (_:D.nx σ H4):Gr D σ v x y H3
def a0r (td ty tv:TE):TS:=fun D σ H=>tv σ H fun v H1=>td σ H1 fun x H2=>ty σ H2 fun y H3=>Gr D σ v x y H3
inductive Gs (D:Ends) (σ:L2.St) (x y:V) (H2:Hp):Prop
 | mk (a:Addr) (kvs:List (Prod L2.Key V)) (k:L2.Key) (_:x=.ref a) (_:H2 a=some (.dK kvs)) (_:y=kV k) (_:(jE kvs k).isSome=true) (_:D.nx σ (upd H2 a (.dK (rD kvs k)))):Gs D σ x y H2
def a0s (td ty:TE):TS:=fun D σ H=>td σ H fun x H1=>ty σ H1 fun y H2=>Gs D σ x y H2
section
variable {o i:Expr}{tpos:Pos}{td ty:TE}
theorem cC (hu:X.A.units+1<cLine) (ho:PE X o td) (hi:PE X i ty) (hs:NoSl i):PE X (.Subscript o i pos) (a0q td ty):=by
 intro pins s σ H Q I h;refine T6 PySem.F.slot_dict_getitem.lookup hs (cB (ho pins s σ H _ I h) fun u s1 ⟨x,H1,I1,rx,q1⟩=>cB (hi pins s1 σ H1 _ I1 q1) fun iv s2 zq=>?_);obtain ⟨y,H2,I2,ry,a,v,ex,g,q2⟩:=zq;subst ex;obtain rfl:u=Value.ref a:=rx;exact ⟨zA I2 g,Jm hu I2 g ry fun w' s3 I3 Ja=>⟨v,H2,I3,Ja,q2⟩⟩
theorem Jq (hu:X.A.units+1<cLine) (hi:PE X i ty) (ho:PE X o td):PC X .NotIn i o (T7 ty td):=by
 intro pins s σ H Q I h;refine cB (hi pins s σ H _ I h) fun iv s1 ⟨y,H1,I1,ry,q1⟩=>cB (ho pins s1 σ H1 _ I1 q1) fun u s2 zq=>?_;obtain ⟨x,H2,I2,rx,a,ov,ex,g,q2⟩:=zq;subst ex;obtain rfl:u=Value.ref a:=rx;exact T5 hu I2 g ry fun s3 I3=>⟨.bl (!ov.isSome),H2,I3,rfl,q2⟩
theorem Gu (hu:X.A.units+1<cLine) (ho:PE X o td) (hi:PE X i ty) (hv:PE X value tv) (hs:swapsWith value (some (.Subscript o i pos')) pos.line X.env=pure false) :
  PS X (.Assign [.Subscript o i pos'] value pos) (a0r td ty tv):=by
 intro pins s σ H D I h;refine wpAny_Assign_Subscript (cB (hv pins s σ H _ I h) fun r s1 ⟨v,H1,I1,rv,q1⟩=>cB (ho pins s1 σ H1 _ I1 q1) fun u s2 ⟨x,H2,I2,rx,q2⟩=>cB (hi pins s2 σ H2 _ I2 q2) fun iv s3 ⟨y,H3,I3,ry,a,H4,ex,g,q3⟩=>?_) hs;subst ex;obtain rfl:u=Value.ref a:=rx;exact Jo hu I3 g ry rv fun s4 I4=>⟨σ,H4,I4,q3⟩
theorem Gw (ho:PE X o td) (hi:PE X i ty):PS X (.Delete [.Subscript o i tpos] pos) (a0s td ty):=by
 intro pins s σ H D I h;refine wpAny_Delete (wpAny_deleteEach_cons (wpAny_delete_Subscript (cB (ho pins s σ H _ I h) fun u s1 ⟨x,H1,I1,rx,q1⟩=>cB (hi pins s1 σ H1 _ I1 q1) fun iv s2 zq=>?_)));obtain ⟨y,H2,I2,ry,a,kvs,k,ex,e,ey,l,q2⟩:=zq;subst ex ey;obtain rfl:u=Value.ref a:=rx;exact Jp I2 e ry l fun s3 I3=>wpAny_deleteEach_nil ⟨σ,_,I3,q2⟩
end
theorem zB (h:Heap) (hb:sysModules<h.objs.size):cj P w H (h.push { cls:=.type "dict",data:=.dict #[] }) h.objs.size (.dK []) :=
 ⟨Nat.zero_le _,beq_eq_false_iff_ne.mpr (Ne.symm (Nat.ne_of_lt hb)),[],.nil,Heap.DictOf.new h⟩
def Xi:TE:=fun _ H Q=>∀ p,H p=none->Q (.ref p) (upd H p (.dK []))
theorem N5:PE X (.Dict [] [] pos) Xi:=fun pins s σ H Q I h =>
 wpAny_Dict_empty ⟨.ref s.heap.objs.size,_,I.laid (a:=s.heap.objs.size) (o:=.dK []) (t':=s.toks) (fun _ _ q=>Heap.get?_push_of_some _ q) 0x6 (zB s.heap I.big),rfl,h _ (I.hok.fresh 0x6)⟩
def mQ:List (TE×TE)->St->Hp->(List (V×V)->Hp->Prop)->Prop
 | [],_,H,Q=>Q [] H
 | (tk,tv)::r,σ,H,Q=>tk σ H fun x H1=>tv σ H1 fun y H2=>mQ r σ H2 fun ps H3=>Q ((x,y)::ps) H3
abbrev VV:List (V×V)->List (Value×Value)->Prop:=Paired fun p q=>RelV p.1 q.1/\RelV p.2 q.2
def PPs (X:Cx) (pos:Pos) (keys:List (Option Expr)) (values:List Expr) (K9:List (TE×TE)):Prop :=
 ∀ (pins:List 0x11) (s:Shared) (σ:St) (H:Hp) (Q:List (V×V)->Hp->Prop),Inv X pins σ H s->mQ K9 σ H Q ->
  wpAny 0x7 X.A (evalPairs (pairTrees keys values X.env pos)) (fun vs s'=>∃ ps H',Inv X pins σ H' s'/\VV ps vs/\Q ps H') X.xe s
theorem wM:PPs X pos [] [] []:=fun pins s σ H Q I h=>pairTrees_nil_walk ⟨[],H,I,.nil,h⟩
theorem cP {k v:Expr}{ks:List (Option Expr)}{vs:List Expr}{tk:TE} (hk:PE X k tk) (hv:PE X v tv) (hr:PPs X pos ks vs K9) :
  PPs X pos (some k::ks) (v::vs) ((tk,tv)::K9):=fun pins s σ H Q I h =>
 pairTrees_cons_walk (cB (hk pins s σ H _ I h) fun u s1 ⟨x,H1,I1,rx,q1⟩=>cB (hv pins s1 σ H1 _ I1 q1) fun w2 s2 ⟨y,H2,I2,ry,q2⟩ =>
  cB (hr pins s2 σ H2 _ I2 q2) fun ws s3 ⟨ps,H3,I3,rel,q3⟩=>⟨(x,y)::ps,H3,I3,.cons ⟨rx,ry⟩ rel,q3⟩)
def dY (kvs more:List (Key×V)):List (Key×V):=more.foldl (fun acc kv=>putK acc kv.1 kv.2) kvs
theorem KV.merge:∀ {more:List (Key×V)}{rs:List (Key×Value)}{kvs:List (Key×V)}{vs:List (Key×Value)},KV more rs->KV kvs vs->KV (dY kvs more) (merged vs rs):=by
 intro more rs kvs vs r;unfold KV at r
 induction r generalizing kvs vs with
 | nil=>intro q;exact q
 | @cons p q ps qs h t ih =>
  intro r0;have e:KV (putK kvs p.1 p.2) (stored vs q.1 q.2):=by
   have:=r0.put p.1 h.2;rw [<- h.1];exact this
  exact ih e
theorem jf:∀ (more kvs:List (Key×V)),(dY kvs more).length<=kvs.length+more.length
 | [],kvs=>by show kvs.length<=kvs.length+0;lia
 | p::r,kvs=>by
  have h1:=jf r (putK kvs p.1 p.2);have h2:=lg kvs p.1 p.2
  show (dY (putK kvs p.1 p.2) r).length<=_
  rw [jT];lia
theorem rE {P:Program}{w:World}:∀ {kvs:List (Key×V)}{ws:List (Value×Value)},VV (kvs.map fun kv=>(kV kv.1,kv.2)) ws->∃ rs,Carries (bJ P w) ws rs/\KV kvs rs
 | [],_,r=>by rw [List.map_nil] at r;cases r;exact ⟨[],True.intro,.nil⟩
 | p::kvs,_,r=>by
  rw [List.map_cons] at r;cases r with
  | @cons a b as bs h t =>
   obtain ⟨rs,c,q⟩:=rE (P:=P) (w:=w) t;obtain ⟨b1,b2⟩:=b;exact ⟨(p.1,b2)::rs,⟨pG h.1,rfl,c⟩,.cons ⟨rfl,h.2⟩ q⟩
def nO (K9:List (TE×TE)):TE:=fun σ H Q=>∀ p,H p=none->mQ K9 σ (upd H p (.dK [])) fun ps H2=>H2 p=some (.dK [])/\∃ kvs:List (Key×V),ps=kvs.map (fun kv=>(kV kv.1,kv.2))/\kvs.length<=15/\Q (.ref p) (upd H2 p (.dK (dY [] kvs)))
theorem wN {keys:List (Option Expr)}{values:List Expr} (h:PPs X pos keys values K9) (hall:keys.all (·.isSome)=true) (hl:keys.length=values.length) (h0:keys≠[])
  (h15:keys.length<=15):PE X (.Dict keys values pos) (nO K9):=by
 intro pins s σ H Q I q;have hn:=I.hok.fresh (Nat.le_refl s.heap.objs.size);have I1:=I.laid (a:=s.heap.objs.size) (o:=.dK []) (h':=s.heap.push { cls:=.type "dict",data:=.dict #[] }) (t':=s.toks) (fun _ _ q=>Heap.get?_push_of_some _ q) 0x6 (zB s.heap I.big);refine wpAny_Dict_walk (knd:=bJ X.prog X.w) hall hl h0 h15 (cB (h pins _ σ _ _ I1 (q _ hn)) fun ws s2 zq=>?_);obtain ⟨ps,H2,I2,rel,e,kvs,ep,lk,q2⟩:=zq;subst ep;obtain ⟨rs,c,rk⟩:=rE (P:=X.prog) (w:=X.w) rel;obtain ⟨z,hd,vs0,r0,dd⟩:=zy I2.hok e;cases r0;refine ⟨rs,c,dd,fun h' Rw hs=>⟨.ref s.heap.objs.size,_,?_,rfl,q2⟩⟩;have hz:(dY [] kvs).length<=sizeLine:=by
  have h1:=jf kvs [];rw [List.length_nil] at h1;rw [sizeLine_eq];lia
 have he:∃ q,h'.get? s.heap.objs.size=some q:=let ⟨q,_,_,hq,_⟩:=Rw;⟨q,hq⟩
 exact qp I2 (by rw [e];exact True.intro) hs he (CG hz hd (rk.merge .nil) Rw)
structure M1 (X:Cx) (o:Expr) (m:Str) (apos:Pos) (e:Expr) (cpos:Pos):Prop where
 base:attributeBase o m X.env (eval o X.env)=eval o X.env
 few:((backTo cpos (starEach [e] X.env)).all (fun x=>!x.1)&&(backToKw cpos (keywordEach [] X.env)).all (fun x=>x.1.isSome)
  &&decide (([e]:List Expr).length+([]:List Keyword).length+(if ([]:List Keyword).isEmpty then 0 else 1)<30))=true
 line:(apos.endLine==cpos.line)=true
 trees:backTo cpos (starEach [e] X.env)=[(false,eval e X.env)]
structure M2 (X:Cx) (o:Expr) (m:Str) (apos:Pos) (e f:Expr) (cpos:Pos):Prop where
 base:attributeBase o m X.env (eval o X.env)=eval o X.env
 few:((backTo cpos (starEach [e,f] X.env)).all (fun x=>!x.1)&&(backToKw cpos (keywordEach [] X.env)).all (fun x=>x.1.isSome)
  &&decide (([e,f]:List Expr).length+([]:List Keyword).length+(if ([]:List Keyword).isEmpty then 0 else 1)<30))=true
 line:(apos.endLine==cpos.line)=true
 trees:backTo cpos (starEach [e,f] X.env)=[(false,eval e X.env),(false,eval f X.env)]
def IsD (H:Hp) (a:Addr):Prop:=(∃ kvs,Rd H a (.dK kvs))\/∃ kvs,Rd H a (.dT kvs)
theorem Xj (I:Inv X pins σ H s) (d:IsD H a) :
  s.TypeIs (.ref a) "dict"/\(∀ b,Value.ref a=.ref b->∃ ob,s.heap.get? b=some ob/\ob.dict=none)/\(a==sysModules)=false:=by
 rcases d with ⟨kvs,e⟩ | ⟨kvs,e⟩
 ·obtain ⟨_,hd,vs,_,dd⟩:=uL I.hok e;refine ⟨dd.typeIs,fun b q=>?_,hd⟩;cases q;obtain ⟨ob,_,_,h1,h2,_⟩:=dd;exact ⟨ob,h1,h2.2.1⟩
 ·obtain ⟨_,hd,xs,_,dd⟩:=uM I.hok e;refine ⟨dd.typeIs,fun b q=>?_,hd⟩;cases q;obtain ⟨ob,_,_,h1,h2,_⟩:=dd;exact ⟨ob,h1,h2.2.1⟩
section
variable {d:V}{r:Value}{o:Option V}
theorem Xk (hu:A.units+1<cLine) (I:Inv X pins σ H s) (g:gR H a y o) (ry:RelV y u) (rd:RelV d r) (h:∀ w' s',Inv X pins σ H s'->RelV (o.getD d) w'->Q w' s') :
  wpAny 0x7 A (call (.builtin "dict.get") [.ref a,u,r]) Q E s:=by
 rcases g with ⟨kvs,k,e,ey,l⟩ | ⟨kvs,k,b,e,ey,eb,l⟩
 ·subst ey;obtain ⟨z,hd,vs,rel,dd⟩:=uL I.hok e;refine call_meetsIn PySem.F.slot_dict_get dd.typeIs PySem.F.entry_dict_get (PySem.F.args_dict_get_3 _ _ _) (meets_dict_get_default (bJ X.prog X.w) a (pG ry) hd r) ⟨_,dd.mapOf,h _ _ (I.tok _) ?_⟩;rw [l];exact (rel.val k).getD rd
 ·subst ey;cases (show u=Value.ref b from ry)
  obtain ⟨z,hd,xs,rel,dd⟩:=uM I.hok e;refine call_meetsIn PySem.F.slot_dict_get dd.typeIs PySem.F.entry_dict_get (PySem.F.args_dict_get_3 _ _ _) (meetsH_dict_get_default (tupleKind (bJ X.prog X.w)) a b hd r) ⟨tupleKind_room_in1 hu,k,xs,oN I.hok eb,dd,h _ _ (I.tok _) ?_⟩;rw [l];exact (rel.val k).getD rd
end
inductive zE (ty tx:TE) (σ:L2.St) (Q:VK) (x:V) (H1:Hp):Prop
 | mk (a:Addr) (_:x=.ref a) (_:IsD H1 a) (_:ty σ H1 fun y H2=>tx σ H2 fun z H3=>∃ o,gR H3 a y o/\Q (o.getD z) H3):zE ty tx σ Q x H1
def N6 (td ty tx:TE):TE:=fun σ H Q=>td σ H fun x H1=>zE ty tx σ Q x H1
section
variable {o f:Expr}{td ty tx:TE}
theorem zF (hu:X.A.units+1<cLine) (ho:PE X o td) (he:PE X e ty) (hf:PE X f tx) (m:M2 X o "get" apos e f cpos):PE X (.Call (.Attribute o "get" apos) [e,f] [] cpos) (N6 td ty tx):=by
 intro pins s σ H Q I h;refine wpAny_Call_method m.base m.few m.line PySem.F.plainAttrs_dict PySem.F.slot_dict_get PySem.F.type_dict_get (cB (ho pins s σ H _ I h) fun u s1 zq=>?_);obtain ⟨x,H1,I1,rx,a,ex,d,q1⟩:=zq;subst ex;obtain rfl:u=Value.ref a:=rx;obtain ⟨t1,t2,_⟩:=Xj I1 d;refine ⟨t1,t2,?_⟩;rw [m.trees];refine Calls.callWith_builtin rfl (Calls.evalArgs_plain (Calls.spliced_cons (cB (he pins s1 σ H1 _ I1 q1) fun iv s2 ⟨y,H2,I2,ry,q2⟩ =>
  Calls.spliced_cons (cB (hf pins s2 σ H2 _ I2 q2) fun fv s3 ⟨z,H3,I3,rz,ov,g,q3⟩=>Calls.spliced_nil ?_))))
 exact Xk hu I3 g ry rz fun w' s4 I4 Ja=>⟨_,H3,I4,Ja,q3⟩
end
section
variable {kvs:List (Key×V)}
end
section
variable {a b:Expr}{ta:TA}
theorem N7 (hg:Gl X "zip") (hm:X.mg "zip"=none) (ha:PA X [a,b] ta) (hs:starEach [a,b] X.env=[(false,eval a X.env),(false,eval b X.env)]:=by rfl) (hs2:starEach [b] X.env=[(false,eval b X.env)]:=by rfl) :
  PI X (.Tuple elts x1 tp) (.Call (.Name "zip" p) [a,b] [] pos) (Xe X.K ta):=by
 intro pins s σ H R I h;refine Call_ 0x1B;obtain ⟨c,z,rfl,⟨xs,hx⟩,q⟩:=q1;obtain ⟨u,u',rfl,ru,K8⟩:=vals2 r1;cases ru;obtain ⟨t,rfl⟩:=K8;obtain ⟨its,rv,p1,_⟩:=I1.tuple hx;cases ha':z.cps.all (·<128)
 ·exact wH (U:=fun h=>h.IsTuple c its.toArray) I1 p1 (fun h o ⟨oc,e,r⟩=>⟨oc,Heap.get?_push_of_some _ e,r⟩)
   (fun prog w A Q E s hu hQ=>wpAny_pyIter_tuple hu hQ) (fun prog w A Q E s hu hQ=>wpAny_pyIter_wide ha' hQ) (qj c _) (Gi z t _ "str_iterator" (fun A hA=>Draws.strWide hA _ z t) (fun A i c s Q E st hc h=>wpAny_nextOf_wide_item st hc h) fun A i s Q E hh st hx hE=>wpAny_nextOf_wide_end hh st hx hE)
   (fun h e=>⟨_,e,rfl,rfl⟩) (fun h e=>⟨_,e,rfl,rfl⟩) rfl rfl q
 ·exact wH (U:=fun h=>h.IsTuple c its.toArray) I1 p1 (fun h o ⟨oc,e,r⟩=>⟨oc,Heap.get?_push_of_some _ e,r⟩)
   (fun prog w A Q E s hu hQ=>wpAny_pyIter_tuple hu hQ) (fun prog w A Q E s hu hQ=>wpAny_pyIter_ascii ha' hQ) (qj c _) (Gi z t _ "str_ascii_iterator" (fun A hA=>Draws.strAscii hA _ z t) (fun A i c s Q E st hc h=>wpAny_nextOf_ascii_item st hc h) fun A i s Q E hh st hx hE=>wpAny_nextOf_ascii_end hh st hx hE)
   (fun h e=>⟨_,e,rfl,rfl⟩) (fun h e=>⟨_,e,rfl,rfl⟩) rfl rfl q
end
theorem zG (ha:bF K H a xs) :
  (i<min xs.length z.cps.toList.length->(Gm K a z).go i H/\∀ v H',(Gm K a z).yN i H v H'->∃ p,v=.ref p/\H p=none/\H'=upd H p (.tup [xs.getD i .non,.str (dW [z.cps.toList.getD i 0])]))/\(min xs.length z.cps.toList.length<=i->(Gm K a z).stop i H):=by
 refine ⟨fun hi=>⟨⟨⟨xs,xs[i]' 0x1,ha,by rw [dB]⟩,by show i<_;lia⟩,fun v H' ⟨p,x,y,e1,e2,e3,e4,c,hc,e5⟩=>⟨p,e1,e2,?_⟩⟩,fun hi=>?_⟩
 ·rw [e3,iw,iw,e4 xs ha,e5,hc];rfl
 ·by_cases h1:xs.length<=i
  ·exact .inl ⟨xs,ha,h1⟩
  ·exact .inr ⟨⟨xs,xs[i]' 0x1,ha,by rw [dB]⟩,by show _<=i;lia⟩
theorem nP {fx fy:Nat->V}{g:TG}{tb:TS}{D:Ends} (Pv:Nat->St->Hp->Prop)
  (hJ:∀ i σ H,Pv i σ H->(i<n->J.go i H/\∀ v H',J.yN i H v H'->∃ p,v=.ref p/\H p=none/\H'=upd H p (.tup [fx i,fy i]))/\(n<=i->J.stop i H)) (h0:Pv 0 σ H)
  (hs:∀ i σ H p,i<n->Pv i σ H->H p=none->g (.ref p) σ (upd H p (.tup [fx i,fy i])) fun σ2 H2=>tb { D with nx:=Pv (i+1),ct:=Pv (i+1),bk:=D.nx } σ2 H2) (hd:∀ σ H,Pv n σ H->D.nx σ H) :
  ∃ W:Nat->Nat->St->Hp->Prop,(∃ m,W 0 m σ H)/\∀ i m σ H,W i m σ H ->
   (J.stop i H/\D.nx σ H)\/(J.go i H/\∃ N:St->Hp->Prop,(∀ σ' H',N σ' H'->∃ m',m'<m/\W (i+1) m' σ' H')/\∀ v H',J.yN i H v H'->g v σ H' fun σ2 H2=>tb { D with nx:=N,ct:=N,bk:=D.nx } σ2 H2):=by
 refine ⟨fun i m σ H=>m=n - i/\i<=n/\Pv i σ H,⟨_,rfl,Nat.zero_le _,h0⟩,?_⟩;rintro i m σ H ⟨rfl,hi,p⟩;obtain ⟨h1,h2⟩:=hJ i σ H p
 by_cases hlt:i<n
 ·obtain ⟨hg,hy⟩:=h1 hlt;refine .inr ⟨hg,Pv (i+1),fun σ' H' p'=>⟨_,by lia,rfl,hlt,p'⟩,fun v H' y=>?_⟩;obtain ⟨q,rfl,hq,rfl⟩:=hy v H' y;exact hs i σ H q hlt p hq
 ·have e:i=n:=by lia
  subst e;exact .inl ⟨h2 0x6,hd σ H p⟩
def Ite (x:Str):It:=⟨fun i _=>i<x.cps.toList.length,fun i H v H'=>∃ p c,x.cps.toList[i]?=some c/\v=.ref p/\H p=none/\H'=upd H p (.tup [.int i,.str (dW [c])]),fun i _=>x.cps.toList.length<=i⟩
theorem Jr {e:Addr}{t:Tok}{ty:String} (hne:e≠it)
  (D:∀ A:Around,A.handled=none->Draws P w A it [it] x.cps.size (fun i v=>∃ c u,x.cps[i]?=some c/\v=.str ⟨#[c]⟩ u) (fun i h=>h.IsStrIter it ty x t i)) :
  Turn P w K (.Tuple elts x1 tp) (Ite x) [e,it] e (fun i h=>(∃ old,IsEnum h e it i old)/\h.IsStrIter it ty x t i/\i<=x.cps.size) where
 mem:=by simp
 obj:=fun i h ⟨⟨old,he⟩,⟨o,ho,hc,hd⟩,_⟩ c hc'=>by
  simp only [List.mem_cons,List.not_mem_nil,or_false] at hc';rcases hc' with rfl | rfl
  ·exact ⟨_,he,fun v z=>by cases z⟩
  ·exact ⟨o,ho,fun v z=>by rw [hd] at z;cases z⟩
 keep:=fun i h h' ⟨⟨old,he⟩,⟨o,ho,r⟩,z⟩ k=>⟨⟨old,k e 0x4 _ he⟩,⟨o,k it 0x4 o ho,r⟩,z⟩
 item:=by
  intro X hP hw hK hc i pins s σ H E I hf ⟨⟨old,he⟩,st,hle⟩ hg;subst hP hw hK;have hi:i<x.cps.size:=by have:i<x.cps.toList.length:=hg;simpa using this
  refine wpAny_pyNext_enum_itemD (D X.A.in1 (I.ok.hd hc)) he st hi hne (by simpa using hne) fun v h' tk hP ho st' hT hsz hk=>⟨_,rfl,?_⟩;obtain ⟨c,u,hcx,rfl⟩:=hP;refine wpAny_letOwnedTupleGo_enum ho fun h2 he2 sb=>?_;have helt:e<s.heap.objs.size:=Heap.lt_size he;obtain ⟨oit,Xl,_⟩:=id st;have hilt:it<s.heap.objs.size:=Heap.lt_size Xl;have hT2:h2.get? s.heap.objs.size=some { cls:=.type "tuple",data:=.seq #[.int i tk,.str ⟨#[c]⟩ u] }:=sb.extBut _ _ (Nat.ne_of_gt helt) hT;have kk:∀ b o,b∉[e,it]->s.heap.get? b=some o->h2.get? b=some o:=fun b o hb q=>by
   simp only [List.mem_cons,List.not_mem_nil,or_false,not_or] at hb;exact sb.extBut _ _ hb.1 (hk b o hb.1 hb.2 q)
  refine ⟨.ref s.heap.objs.size,upd H s.heap.objs.size (.tup [.int i,.str (dW [c])]),I.wG (t':=tk+1) hf kk 0x6 ⟨eZ 0x4 |> Nat.le_of_lt,[.int i tk,.str ⟨#[c]⟩ u],.cons ⟨tk,rfl⟩ (.cons ⟨u,rfl⟩ .nil),⟨_,hT2,rfl,_,rfl⟩⟩,rfl,⟨_,c,by simpa using hcx,rfl,I.fresh,rfl⟩,⟨⟨_,by simpa using he2⟩,?_,hi⟩,fun b hb=>?_⟩
  ·obtain ⟨o,ho',r⟩:=st';exact ⟨o,sb.extBut _ _ (Ne.symm hne) ho',r⟩
  ·simp only [List.mem_cons,List.not_mem_nil,or_false] at hb;rcases hb with rfl | rfl
   ·rw [aA (Nat.ne_of_lt helt)];exact (hf _ 0x4).1
   ·rw [aA (Nat.ne_of_lt hilt)];exact (hf _ 0x4).1
 done:=by
  intro X hP hw hK hc i pins s σ H E I hf ⟨⟨old,he⟩,st,hle⟩ hg;subst hP hw hK;have hi:x.cps.size<=i:=by have:x.cps.toList.length<=i:=hg;simpa using this
  have e0:i=x.cps.size:=Nat.le_antisymm hle hi;subst e0;exact wpAny_pyNext_enum_endD (D X.A.in1 (I.ok.hd hc)) he st fun h' eb=>⟨rfl,I.wF (t':=s.toks) hf fun b o hb q=>eb b o (fun z=>hb (by simp [z])) q⟩
 self:=fun A i s Q E ⟨⟨old,he⟩,_⟩ h=>wpAny_pyIter_enum he h
inductive zH (R:It->Hp->Prop) (vs:List V) (H1:Hp):Prop
 | mk (z:Str) (_:vs=[.str z]) (_:R (Ite z) H1):zH R vs H1
def Xm (ta:TA):TI:=fun σ H R=>ta σ H fun vs H1=>zH R vs H1
theorem N8 {a:Expr}{ta:TA} (hg:Gl X "enumerate") (hm:X.mg "enumerate"=none) (ha:PA X [a] ta) (hs:starEach [a] X.env=[(false,eval a X.env)]:=by rfl) :
  PI X (.Tuple elts x1 tp) (.Call (.Name "enumerate" p) [a] [] pos) (Xm ta):=by
 intro pins s σ H R I h;refine Call_ (jy I hg hm nH (PyProof.Rows.callWith_type1 (cB (ha pos pins s σ H _ I h) fun us s1 ⟨vs,H1,I1,r1,q1⟩=>?_) (by rw [hs];rfl) (by rfl)));obtain ⟨z,rfl,q⟩:=q1;obtain ⟨u,rfl,ru⟩:=vals1 r1;obtain ⟨t,rfl⟩:=ru;refine call_enumerate_str fun h' he hit hsz hk=>wpAny_pyIter_enum he ?_;have hne:s1.heap.objs.size+1≠s1.heap.objs.size:=Nat.succ_ne_self _;have fin:∀ ty:String,(∀ A:Around,A.handled=none->Draws X.prog X.w A s1.heap.objs.size [s1.heap.objs.size] z.cps.size (fun i v=>∃ c u,z.cps[i]?=some c/\v=.str ⟨#[c]⟩ u) (fun i h=>h.IsStrIter s1.heap.objs.size ty z t i))->h'.IsStrIter s1.heap.objs.size ty z t 0 ->
   PIE X pins σ (.Tuple elts x1 tp) R (.ref (s1.heap.objs.size+1)) { s1 with heap:=h' }:=fun ty D hit'=>by
  refine ⟨_,_,_,_,H1,rfl,I1.kept (t':=s1.toks) hk,Jr hne D,⟨⟨_,he⟩,hit',Nat.zero_le _⟩,fun b hb=>?_,q⟩;have hle:s1.heap.objs.size<=b:=by
   simp only [List.mem_cons,List.not_mem_nil,or_false] at hb;rcases hb with rfl | rfl <;> lia
  exact I1.tQ hle (I1.hok.fresh hle)
 cases ha':z.cps.all (·<128)
 ·exact fin _ (fun A hA=>Draws.strWide hA _ z t) (by simpa [strIterType,ha'] using hit)
 ·exact fin _ (fun A hA=>Draws.strAscii hA _ z t) (by simpa [strIterType,ha'] using hit)
theorem CJ:
  (i<z.cps.toList.length->(Ite z).go i H/\∀ v H',(Ite z).yN i H v H'->∃ p,v=.ref p/\H p=none/\H'=upd H p (.tup [.int i,.str (dW [z.cps.toList.getD i 0])]))/\(z.cps.toList.length<=i->(Ite z).stop i H):=by
 refine ⟨fun hi=>⟨hi,fun v H' ⟨p,c,hc,e1,e2,e3⟩=>⟨p,e1,e2,?_⟩⟩,fun hi=>hi⟩;rw [e3,iw,hc];rfl
def iU (P:Params):List DictEntry->List (Str×V)->Prop
 | [],[]=>True
 | e::r,(k,v)::q=>((∃ t,e.key=.str k t)/\e.hash=PyData.keyHash P k/\RelV v e.val)/\iU P r q
 | _,_=>False
theorem iU.lit {P:Params}:∀ {es:List DictEntry}{kvs:List (Str×V)},iU P es kvs->KeysLit P es
 | [],[],_=>trivial
 | e::r,(k,v)::q,⟨⟨⟨t,h1⟩,h2,_⟩,h⟩=>⟨⟨k,t,h1,h2⟩,h.lit⟩
theorem iU.rel {P:Params} (x:Str):∀ {es:List DictEntry}{kvs:List (Str×V)},iU P es kvs->jc (kvs.lookup x) ((es.find? fun e=>Value.isStrOf x e.key).map (·.val))
 | [],[],_=>trivial
 | e::r,(k,v)::q,⟨⟨⟨t,h1⟩,h2,h3⟩,h⟩=>by
  have hk:Value.isStrOf x e.key=(k==x):=by rw [h1];rfl
  by_cases hx:x=k
  ·subst hx;have:Value.isStrOf x e.key=true:=by rw [hk];simp
   rw [List.find?_cons,this,List.lookup_cons];simp only [beq_self_eq_true];exact h3
  ·have h4:Value.isStrOf x e.key=false:=by rw [hk];simpa using fun z:k=x=>hx z.symm
   have h5:(x==k)=false:=by simpa using hx
   rw [List.find?_cons,h4,List.lookup_cons,h5];exact h.rel x
structure KD (K:PySem.W.Frag) (P:Params) (a:Addr) (kvs:List (Str×V)):Prop where
 ex:∃ es n,K.lookup a=some ⟨.type "dict",none,.dict es n,#[]⟩/\iU P es.toList kvs
 lo:(a==sysModules)=false
theorem KD.map {kvs:List (Str×V)} (d:KD K w.params a kvs)  (X:K.In h):∃ f,h.MapOf (strKind prog w) a f/\∀ x,jc (kvs.lookup x) (f x):=by
 obtain ⟨es,n,hl,he⟩:=d.ex;refine ⟨_,mapOf_K X hl he.lit,fun x=>?_⟩;obtain ⟨l⟩:=es;have:=he.rel x;unfold findBy;rw [List.find?_toArray];exact this
inductive Gx (K:PySem.W.Frag) (P:PySem.Params) (neg:Bool) (x y:V) (H:Hp) (Q:VK):Prop
 | mk (z:Str) (a:Addr) (kvs:List (Prod Str V)) (_:x=.str z) (_:y=.ref a) (_:KD K P a kvs) (_:Q (.bl (neg != (kvs.lookup z).isSome)) H):Gx K P neg x y H Q
def Vw (K:PySem.W.Frag) (P:Params) (neg:Bool):R2:=fun x y H Q=>Gx K P neg x y H Q
theorem T8:jM X (compareOp .In) (Vw X.K X.w.params false):=by
 intro pins s σ H x y v u Q I rx ry h;obtain ⟨z,a,kvs,rfl,rfl,d,q⟩:=h;obtain ⟨t,rfl⟩:=rx;cases ry;obtain ⟨f,hm,hr⟩:=d.map (prog:=X.prog) I.mj;refine wpAny_in_of (strKind_is X.prog X.w z t) d.lo hm ?_;rw [<- (hr z).gZ];exact ⟨.bl _,H,I.tok _,rfl,by simpa using q⟩
theorem CK:jM X (compareOp .NotIn) (Vw X.K X.w.params true):=by
 intro pins s σ H x y v u Q I rx ry h;obtain ⟨z,a,kvs,rfl,rfl,d,q⟩:=h;obtain ⟨t,rfl⟩:=rx;cases ry;obtain ⟨f,hm,hr⟩:=d.map (prog:=X.prog) I.mj;refine wpAny_notIn_of (strKind_is X.prog X.w z t) d.lo hm ?_;rw [<- (hr z).gZ];exact ⟨.bl _,H,I.tok _,rfl,by simpa using q⟩
inductive Gy (K:PySem.W.Frag) (P:PySem.Params) (x y:V) (H:Hp) (Q:VK):Prop
 | mk (a:Addr) (kvs:List (Prod Str V)) (z:Str) (v:V) (_:x=.ref a) (_:y=.str z) (_:KD K P a kvs) (_:kvs.lookup z=some v) (_:Q v H):Gy K P x y H Q
def a0t (K:PySem.W.Frag) (P:Params):R2:=fun x y H Q=>Gy K P x y H Q
theorem Vx:Vm X (a0t X.K X.w.params):=by
 intro value slice pins s σ H x y v u Q I rx ry h hs;obtain ⟨a,kvs,z,w',rfl,rfl,d,hl,q⟩:=h;cases rx;obtain ⟨t,rfl⟩:=ry;obtain ⟨f,hm,hr⟩:=d.map (prog:=X.prog) I.mj;obtain ⟨u',hu,ru⟩:=jc.some_of (v:=w') (o:=f z) (by rw [<- hl];exact hr z);exact tail_any hm.typeIs slot_dict_getitem.lookup (wpAny_getItem_of (strKind_is X.prog X.w z t) hm hu ⟨w',H,I.tok _,ru,q⟩) hs
end L2
namespace HT
open PySem PySem.Spec PyProof.Rows
end HT
namespace L2
open PySem PySem.Spec PyProof.Rows PySem.W
theorem Same.wO (e:Same H H') (h:bF K H a xs):bF K H' a xs:=by
 rcases h with (h | ⟨o,h⟩) | h
 ·exact .inl (.inl (e _ _ h))
 ·exact .inl (.inr ⟨o,e _ _ h⟩)
 ·exact .inr h
section
variable {kvs:List (Key×V)}{o:Obj}
theorem a0u {k:Key} (h:(bJ P w).is k u=true):RelV (kV k) u:=by
 rcases cG (show qG k u=true from h) with ⟨i,t,rfl,rfl⟩ | ⟨x,t,rfl,rfl⟩
 ·exact ⟨t,rfl⟩
 ·exact ⟨t,rfl⟩
theorem KV.at {κ:Type}:∀ {kvs:List (κ×V)}{vs:List (κ×Value)},KV kvs vs->∀ {i:Nat}{kv:κ×V},kvs[i]?=some kv->∃ u,vs[i]?=some (kv.1,u)/\RelV kv.2 u:=by
 intro kvs vs r;unfold KV at r
 induction r with
 | nil=>intro i kv h;simp at h
 | @cons p q ps qs h t ih =>
  intro i kv hi;cases i with
  | zero =>
   simp only [List.getElem?_cons_zero,Option.some.injEq] at hi;subst hi;obtain ⟨q1,q2⟩:=q;obtain ⟨h1,h2⟩:=h;simp only at h1;subst h1;exact ⟨q2,rfl,h2⟩
  | succ j =>
   simp only [List.getElem?_cons_succ] at hi ⊢;exact ih hi
end
end L2
namespace PySem
end PySem
namespace L2
open PySem PySem.Spec PyProof.Rows PySem.W
section
variable {kvs:List (Key×V)}{o:Obj}
end
def pat (p:Array Nat) (k:Nat):Nat:=p.getD k 0
structure Ord (n:Nat) (lt:Nat->Nat->Bool):Prop where
 tr:∀ i j k,i<n->j<n->k<n->lt i j=true->lt j k=true->lt i k=true
 tot:∀ i j,i<n->j<n->i≠j->lt i j=false->lt j i=true
def Cmp (n:Nat) (lt:Nat->Nat->Bool) (cmp:Nat->Nat->(Bool->Shared->Prop)->Shared->Prop) (J:Shared->Prop):Prop :=
 ∀ i j C s,i<n->j<n->i≠j->J s->(∀ s',J s'->C (lt i j) s')->cmp i j C s
def Pm (n:Nat) (p:Array Nat):Prop:=p.Perm (List.range n).toArray
theorem Pm.size {p:Array Nat} (h:Pm n p):p.size=n:=by
 have:=h.size_eq
 simpa using this
theorem Pm.lt {p:Array Nat} (h:Pm n p) {k:Nat} (hk:k<n):pat p k<n:=by
 have hs:=h.size;have hk':k<p.size:=by lia
 have hm:p[k]∈p.toList:=by simp
 have:=(Array.perm_iff_toList_perm.mp h).mem_iff.mp hm;simp at this;unfold pat;rw [Array.getD,dif_pos hk'];exact this
theorem Pm.ne {p:Array Nat} (h:Pm n p)  (hi:i<n) (hj:j<n) (hij:i≠j):pat p i≠pat p j:=by
 have hs:=h.size;have hi':i<p.size:=by lia
 have hj':j<p.size:=by lia
 have nd:p.toList.Nodup:=(Array.perm_iff_toList_perm.mp h).nodup_iff.mpr (by simpa using List.nodup_range);unfold pat;rw [Array.getD,dif_pos hi',Array.getD,dif_pos hj'];intro e;have pw:=List.pairwise_iff_getElem.mp nd;rcases Nat.lt_or_gt_of_ne hij with h1 | h1
 ·exact pw i j (by simpa using hi') (by simpa using hj') h1 (by simpa using e)
 ·exact pw j i (by simpa using hj') (by simpa using hi') h1 (by simpa using e.symm)
theorem rF {p q:Array Nat} (h:p[i]?=q[j]?):pat p i=pat q j:=by
 unfold pat;rw [Array.getD_eq_getD_getElem?,Array.getD_eq_getD_getElem?,h]
def Up (lt:Nat->Nat->Bool) (p:Array Nat) (m:Nat):Prop:=∀ i j,i<j->j<m->lt (pat p i) (pat p j)=true
def Down (lt:Nat->Nat->Bool) (p:Array Nat) (m:Nat):Prop:=∀ i j,i<j->j<m->lt (pat p j) (pat p i)=true
section
variable {lt:Nat->Nat->Bool}{cmp:Nat->Nat->(Bool->Shared->Prop)->Shared->Prop}{J:Shared->Prop}{p:Array Nat}
theorem Up.snoc (O:Ord n lt) (P:Pm n p)  (h1:1<=m) (hm:m<n) (h:Up lt p m) (hl:lt (pat p (m - 1)) (pat p m)=true):Up lt p (m+1):=by
 intro i j hij hj
 by_cases e:j=m
 ·subst e
  by_cases e2:i=j - 1
  ·subst e2;exact hl
  ·exact O.tr _ _ _ (P.lt 0x1) (P.lt 0x1) (P.lt 0x1) (h i (j - 1) 0x1 0x1) hl
 ·exact h i j hij 0x1
theorem Down.snoc (O:Ord n lt) (P:Pm n p)  (h1:1<=m) (hm:m<n) (h:Down lt p m) (hl:lt (pat p m) (pat p (m - 1))=true):Down lt p (m+1):=by
 intro i j hij hj
 by_cases e:j=m
 ·subst e
  by_cases e2:i=j - 1
  ·subst e2;exact hl
  ·exact O.tr _ _ _ (P.lt 0x1) (P.lt 0x1) (P.lt 0x1) hl (h i (j - 1) 0x1 0x1)
 ·exact h i j hij 0x1
theorem CP (O:Ord n lt) (hc:Cmp n lt cmp J) (P:Pm n p) {G:Nat->Shared->Prop}:∀ (f m:Nat) (s:Shared),1<=m->m+f<=n->Up lt p m->J s ->
  (∀ r s',m<=r->r<=m+f->Up lt p r->(r<m+f->lt (pat p r) (pat p (r - 1))=true)->J s'->G r s')->(kas_asc p f m).kasWp cmp G s
 | 0,m,s,h1,hf,hU,hJ,k=>k m s 0x6 0x6 hU (fun h=>absurd h (Nat.lt_irrefl _)) hJ
 | f+1,m,s,h1,hf,hU,hJ,k=>by
  show cmp (p.getD m 0) (p.getD (m - 1) 0) _ s
  refine hc _ _ _ s (P.lt (k:=m) 0x1) (P.lt (k:=m - 1) 0x1) (P.ne 0x1 0x1 0x1) hJ fun s' hJ'=>?_
  show KasT.kasWp cmp (if lt (pat p m) (pat p (m - 1))=true then .ret m else kas_asc p f (m+1)) G s'
  cases e:lt (pat p m) (pat p (m - 1)) with
  | true =>
   rw [if_pos rfl];exact k m s' 0x6 0x1 hU (fun _=>e) hJ'
  | false =>
   rw [if_neg Bool.false_ne_true];have hl:=O.tot _ _ (P.lt (k:=m) 0x1) (P.lt (k:=m - 1) 0x1) (P.ne 0x1 0x1 0x1) e;exact CP O hc P f (m+1) s' 0x1 0x1 (hU.snoc O P h1 0x1 hl) hJ' fun r s'' a b c d e'=>k r s'' 0x1 0x1 c (fun h=>d 0x1) e'
theorem Gz (O:Ord n lt) (hc:Cmp n lt cmp J) (P:Pm n p) {G:Array Nat×Nat×Nat->Shared->Prop}:∀ (f m:Nat) (s:Shared),1<=m->m+f<=n->Down lt p m->J s ->
  (∀ r s',m<=r->r<=m+f->Down lt p r->J s'->G (p,r,0) s')->(kas_desc f p m 0).kasWp cmp G s
 | 0,m,s,h1,hf,hU,hJ,k=>k m s 0x6 0x6 hU hJ
 | f+1,m,s,h1,hf,hU,hJ,k=>by
  show cmp (p.getD m 0) (p.getD (m - 1) 0) _ s
  refine hc _ _ _ s (P.lt (k:=m) 0x1) (P.lt (k:=m - 1) 0x1) (P.ne 0x1 0x1 0x1) hJ fun s' hJ'=>?_;cases e:lt (pat p m) (pat p (m - 1)) with
  | true =>
   have e':lt (p.getD m 0) (p.getD (m - 1) 0)=true:=e;rw [e'];dsimp only;rw [if_pos rfl,if_neg (Nat.lt_irrefl 0)];exact Gz O hc P f (m+1) s' 0x1 0x1 (hU.snoc O P h1 0x1 e) hJ' fun r s'' a b c d=>k r s'' 0x1 0x1 c d
  | false =>
   have e':lt (p.getD m 0) (p.getD (m - 1) 0)=false:=e;rw [e'];dsimp only;rw [if_neg Bool.false_ne_true];have hl:=O.tot _ _ (P.lt (k:=m) 0x1) (P.lt (k:=m - 1) 0x1) (P.ne 0x1 0x1 0x1) e;refine hc _ _ _ s' (P.lt (k:=m - 1) 0x1) (P.lt (k:=m) 0x1) (P.ne 0x1 0x1 0x1) hJ' fun s'' Xn=>?_;have hl':lt (p.getD (m - 1) 0) (p.getD m 0)=true:=hl;rw [hl'];dsimp only;rw [if_pos rfl];exact k m s'' 0x6 0x1 hU Xn
theorem Nb (P:Pm n p) (i j:Nat):Pm n (kas_rev p i j):=(mirror_perm p i j _).trans P
theorem Nf (P:Pm n p) {r:Nat} (hr:r<=n) (k:Nat):pat (kas_rev p 0 r) k=if k<r then pat p (r - 1 - k) else pat p k:=by
 have h:=getElem?_mirror_all (xs:=p) (i:=0) (j:=r) (by rw [P.size];exact hr) k
 by_cases hk:k<r
 ·rw [if_pos hk];rw [if_pos ⟨Nat.zero_le _,hk⟩,Nat.zero_add] at h;exact rF h
 ·rw [if_neg hk];rw [if_neg (fun z=>hk z.2)] at h;exact rF h
theorem Xo (P:Pm n p) {r:Nat} (hr:r<=n) (h:Down lt p r):Up lt (kas_rev p 0 r) r:=by
 intro i j hij hj;rw [Nf P hr,Nf P hr,if_pos 0x1,if_pos hj];exact h _ _ 0x1 0x1
def T9 (n:Nat) (lt:Nat->Nat->Bool) (J:Shared->Prop) (G:Nat×Array Nat->Shared->Prop):Prop:=∀ q p' s',Pm n p'->1<=q->q<=n->Up lt p' q->J s'->G (q,p') s'
theorem Ng (O:Ord n lt) (hc:Cmp n lt cmp J) (P:Pm n p) (h2:2<=n) {G:Nat×Array Nat->Shared->Prop} (hJ:J s) (k:T9 n lt J G):(kas_count n p).kasWp cmp G s:=by
 unfold kas_count;rw [KasT.kasWp_bind];refine CP O hc P (n - 1) 1 s 0x6 0x1 (fun i j hij hj=>by lia) hJ fun r s' h1 hr hU hstop hJ'=>?_
 by_cases e:r=n
 ·subst e;rw [if_pos 0x4];exact k r p s' P h1 0x6 hU hJ'
 ·rw [if_neg (by simpa using e)]
  by_cases e1:r > 1
  ·rw [if_pos e1];refine hc _ _ _ s' (P.lt (k:=0) 0x1) (P.lt (k:=r - 1) 0x1) (P.ne 0x1 0x1 0x1) hJ' fun s'' Xn=>?_;have hl:lt (p.getD 0 0) (p.getD (r - 1) 0)=true:=hU 0 (r - 1) 0x1 0x1;rw [hl];dsimp only;rw [if_pos rfl];exact k r p s'' P h1 0x1 hU Xn
  ·rw [if_neg e1];have er:r=1:=by lia
   subst er;have h0:=hstop 0x1;unfold kas_descPart;rw [KasT.kasWp_bind];refine Gz O hc P (n - (1+1)) (1+1) s' 0x1 0x1 (fun i j hij hj=>?_) hJ' fun r s'' a b c d=>?_
   ·have ei:i=0:=by lia
    have ej:j=1:=by lia
    subst ei ej;exact h0
   ·rw [if_neg (Nat.lt_irrefl 0)];unfold kas_tail3;rw [KasT.kasWp_bind];refine CP O hc (Nb P 0 r) (n - r) r s'' 0x1 0x1 (Xo P 0x1 c) d fun q s3 h3 h4 h5 _ h6=>?_;exact k q _ s3 (Nb P 0 r) 0x1 0x1 h5 h6
theorem rG (O:Ord n lt) (hc:Cmp n lt cmp J) (P:Pm n p) {k:Nat} (hk:k<n) (hU:Up lt p k) {G:Nat->Shared->Prop}:∀ (f l r:Nat) (s:Shared),r - l<=f->l<=r->r<=k->(∀ i,i<l->lt (pat p i) (pat p k)=true)->(∀ i,r<=i->i<k->lt (pat p k) (pat p i)=true)->J s ->
  (∀ l' s',l'<=k->(∀ i,i<l'->lt (pat p i) (pat p k)=true)->(∀ i,l'<=i->i<k->lt (pat p k) (pat p i)=true)->J s'->G l' s')->(kas_place p k f l r).kasWp cmp G s
 | 0,l,r,s,h0,h1,h2,hlo,hhi,hJ,w=>w l s 0x1 hlo (fun i hi=>hhi i 0x1) hJ
 | f+1,l,r,s,h0,h1,h2,hlo,hhi,hJ,w=>by
  unfold kas_place
  by_cases e:l>=r
  ·rw [if_pos e];exact w l s 0x1 hlo (fun i hi=>hhi i 0x1) hJ
  ·rw [if_neg e];have hm1:l<=(l+r) / 2:=by lia
   have hm2:(l+r) / 2<r:=by lia
   generalize hmd:(l+r) / 2=md at hm1 hm2;refine hc _ _ _ s (P.lt (k:=k) hk) (P.lt (k:=md) 0x1) (P.ne hk 0x1 0x1) hJ fun s' hJ'=>?_;cases c:lt (pat p k) (pat p md) with
   | true =>
    have c':lt (p.getD k 0) (p.getD md 0)=true:=c;rw [c'];dsimp only;rw [if_pos rfl];refine rG O hc P hk hU f l md s' 0x1 hm1 0x1 hlo (fun i hi hik=>?_) hJ' w
    by_cases ei:i=md
    ·subst ei;exact c
    ·exact O.tr _ _ _ (P.lt hk) (P.lt 0x1) (P.lt 0x1) c (hU md i 0x1 hik)
   | false =>
    have c':lt (p.getD k 0) (p.getD md 0)=false:=c;rw [c'];dsimp only;rw [if_neg Bool.false_ne_true];have hl:=O.tot _ _ (P.lt hk) (P.lt (k:=md) 0x1) (P.ne hk 0x1 0x1) c;refine rG O hc P hk hU f (md+1) r s' 0x1 0x1 h2 (fun i hi=>?_) hhi hJ' w
    by_cases ei:i=md
    ·subst ei;exact hl
    ·exact O.tr _ _ _ (P.lt 0x1) (P.lt 0x1) (P.lt hk) (hU i md 0x1 0x1) hl
theorem Nh (P:Pm n p) {k l:Nat} (hk:k<n) (hl:l<=k) (i:Nat):pat (bubble p k (k - l)) i=if i=l then pat p k else if l<i/\i<=k then pat p (i - 1) else pat p i:=by
 have h:=getElem?_bubble (xs:=p) (src:=k) (by rw [P.size];exact hk) (k - l) 0x1 i;rw [show k - (k - l)=l by lia] at h
 by_cases e:i=l
 ·rw [if_pos e] at h ⊢;exact rF h
 ·rw [if_neg e] at h ⊢
  by_cases e2:l<i/\i<=k
  ·rw [if_pos e2] at h ⊢;exact rF h
  ·rw [if_neg e2] at h ⊢;exact rF h
theorem Ni (O:Ord n lt) (hc:Cmp n lt cmp J) {G:Array Nat->Shared->Prop}:∀ (f k:Nat) (p:Array Nat) (s:Shared),k+f=n->Pm n p->Up lt p k->J s->(∀ p' s',Pm n p'->Up lt p' n->J s'->G p' s')->(kas_bin f p k).kasWp cmp G s
 | 0,k,p,s,hk,P,hU,hJ,w=>by
  have:k=n:=by lia
  subst this;exact w p s P hU hJ
 | f+1,k,p,s,hk,P,hU,hJ,w=>by
  unfold kas_bin;rw [KasT.kasWp_bind];refine rG O hc P 0x1 hU k 0 k s 0x1 (Nat.zero_le _) 0x6 (fun i hi=>absurd hi (Nat.not_lt_zero _)) (fun i h1 h2=>by lia) hJ fun l s' hl hlo hhi hJ'=>?_;refine Ni O hc f (k+1) _ s' 0x1 ((bubble_perm p k _).trans P) (fun i j hij hj=>?_) hJ' w;rw [Nh P 0x1 hl,Nh P 0x1 hl]
  by_cases a1:i=l
  ·rw [if_pos a1,if_neg 0x1,if_pos 0x1];exact hhi _ 0x1 0x1
  ·rw [if_neg a1]
   by_cases a2:l<i
   ·rw [if_pos 0x1,if_neg 0x1,if_pos 0x1];exact hU _ _ 0x1 0x1
   ·rw [if_neg 0x1]
    by_cases a3:j=l
    ·rw [if_pos a3];exact hlo i 0x1
    ·rw [if_neg a3]
     by_cases a4:l<j
     ·rw [if_pos 0x1]
      by_cases a5:i=j - 1
      ·lia
      ·exact hU _ _ 0x1 0x1
     ·rw [if_neg 0x1];exact hU _ _ hij 0x1
theorem Tc (O:Ord n lt) (hc:Cmp n lt cmp J) (h2:2<=n) {G:Array Nat->Shared->Prop} (hJ:J s) (w:∀ p' s',Pm n p'->Up lt p' n->J s'->G p' s'):(kas_sort n).kasWp cmp G s:=by
 unfold kas_sort;rw [KasT.kasWp_bind];refine Ng O hc (Array.Perm.refl _) h2 hJ fun q p' s' P h1 hq hU hJ'=>?_
 by_cases e:q<n
 ·rw [if_pos e,show max q 1=q by lia]
  exact Ni O hc (n - q) q p' s' 0x1 P hU hJ' w
 ·rw [if_neg e];have:q=n:=by lia
  subst this;exact w p' s' P hU hJ'
end
section
variable {lt:Nat->Nat->Bool}{κ:SortKind}
def Keep (a:Addr) (s s':Shared):Prop:=∀ b o,b≠a->s.heap.get? b=some o->s'.heap.get? b=some o
theorem Js (vs:List Value):((List.range vs.length).toArray.toList.map fun i=>vs.getD i Value.none)=vs:=by
 apply List.ext_getElem
 ·simp
 ·intro i h1 h2;simp only [List.getElem_map,List.getElem_range];rw [iw,dB h2];rfl
theorem Nj {vs:List Value}{n0:Nat}{P:PySem.Fin->Shared->Prop} (ho:s.heap.get? a=some (seqObj "list" vs.toArray n0)) (h64:vs.length<64) (O:Ord vs.length lt)
  (hk:2<=vs.length->∀ (s':Shared) (Q:SortKind->Shared->Prop),Keep a s s'->Q κ s'->wpAny 0xB A (keyKind' vs.toArray) Q (fun _ _=>False) s')
  (hl:∀ (i j:Nat) (s':Shared) (C:Bool->Shared->Prop),i<vs.length->j<vs.length->i≠j->Keep a s s'->(∀ tk,C (lt i j) { s' with toks:=tk })->wpAny 0xB A (keyLt' κ (vs.getD i Value.none) (vs.getD j Value.none)) C (fun _ _=>False) s')
  (h:∀ (p:Array Nat) (tk:Nat),Pm vs.length p->Up lt p vs.length->P (.done (.ret .none)) { s with toks:=tk,heap:=sortedHeap s.heap a vs (p.toList.map fun i=>vs.getD i Value.none).toArray }) :
  wpAny 0xB A (Builtin.«list.sort» ⟨[.ref a],[]⟩) P E s:=by
 have ha:a<s.heap.objs.size:=Heap.lt_size ho;rw [list_sort_plain];refine wpAny_bind (listItems_at ho rfl ?_);refine wpAny_bind (listUpdate_at ho rfl ?_ (by rw [List.size_toArray,sizeLine_eq];lia) (Nat.zero_le _));obtain ⟨ep,hz⟩:∃ ep,(s.heap.update a (Obj.mapSeq fun _=>#[])).get? a=some (seqObj "list" #[] ep):=⟨_,get?_update_seq ho (fun _=>#[])⟩;refine wpAny_bind (seqEpoch_at hz rfl ?_);refine wpAny_bind (wpAny_newTuple ?_ (by show vs.length<=sizeLine;rw [sizeLine_eq];lia))
 refine wpAny_bind (wpAny_newList ?_ (Nat.zero_le _));refine wpAny_holding ?_;have hz2:(((s.heap.update a (Obj.mapSeq fun _=>#[])).push (seqObj "tuple" vs.toArray 0)).push (seqObj "list" #[] 0)).get? a=some (seqObj "list" #[] ep):=Heap.get?_push_of_some _ (Heap.get?_push_of_some _ hz);have kp:Keep a s { s with heap:=((s.heap.update a (Obj.mapSeq fun _=>#[])).push (seqObj "tuple" vs.toArray 0)).push (seqObj "list" #[] 0) }:=fun b o hb q =>
  Heap.get?_push_of_some _ (Heap.get?_push_of_some _ ((Heap.get?_update_ne _ _ _ _ hb).trans q))
 show wpAny 0xB A _ P E { s with heap:=((s.heap.update a (Obj.mapSeq fun _=>#[])).push (seqObj "tuple" vs.toArray 0)).push (seqObj "list" #[] 0) }
 dsimp only;have hsz:vs.toArray.size=vs.length:=by simp
 by_cases h2:vs.toArray.size<2
 ·rw [if_pos h2,if_pos h2];refine wpAny_bind (wpAny_pure ?_);rw [StateT.run_pure];refine wpAny_bind (wpAny_pure ?_);dsimp only;refine wpAny_bind (seqEpoch_at hz2 rfl ?_);have eo:(arrOf (SortSt.mk' general' (vs.toArray.zip vs.toArray) #[] 7 none)).map (·.2)=vs.toArray:=by
   exact Array.map_snd_zip (as:=vs.toArray) (bs:=vs.toArray) 0x6
  rw [eo];refine wpAny_bind (listUpdate_at hz2 rfl ?_ (hsz2:=by rw [List.size_toArray,sizeLine_eq];lia));simp only [bne_self_eq_false,Bool.false_eq_true,if_false];have g:=h (List.range vs.length).toArray s.toks (Array.Perm.refl _) (fun i j hij hj=>by lia);rw [Js] at g;exact wpAny_pure g
 ·rw [if_neg h2,if_neg h2];have h2':2<=vs.length:=by lia
  refine wpAny_bind (wpAny_mono (hk h2' _ (fun κ' s'=>κ'=κ/\s'={ s with heap:=((s.heap.update a (Obj.mapSeq fun _=>#[])).push (seqObj "tuple" vs.toArray 0)).push (seqObj "list" #[] 0) }) kp ⟨rfl,rfl⟩) (fun κ' s' hκ=>?_) fun _ _ x=>x.elim);obtain ⟨rfl,rfl⟩:=hκ;refine wpAny_bind (wpAny_mono (kat_run (κ:=κ') (ks:=vs) (vs:=vs) (Q:=fun st' s'=>∃ (p:Array Nat) (tk:Nat),Pm vs.length p/\Up lt p vs.length/\arrOf st'=p.map (kas_item (vs.toArray.zip vs.toArray))/\failedOf st'=none/\s'={ s with toks:=tk,heap:=((s.heap.update a (Obj.mapSeq fun _=>#[])).push (seqObj "tuple" vs.toArray 0)).push (seqObj "list" #[] 0) })
   (G:=fun p s'=>∃ tk:Nat,Pm vs.length p/\Up lt p vs.length/\s'={ s with toks:=tk,heap:=((s.heap.update a (Obj.mapSeq fun _=>#[])).push (seqObj "tuple" vs.toArray 0)).push (seqObj "list" #[] 0) })
   rfl h2' h64 (fun p st' s' _ a2 a3 ⟨tk,b1,b2,b3⟩=>⟨p,tk,b1,b2,a2,a3,b3⟩)
   (Tc (J:=fun s'=>∃ tk:Nat,s'={ s with toks:=tk,heap:=((s.heap.update a (Obj.mapSeq fun _=>#[])).push (seqObj "tuple" vs.toArray 0)).push (seqObj "list" #[] 0) }) O (fun i j C s' hi hj hij hJ hC=>?_) h2' ⟨s.toks,rfl⟩ fun p' s' hP hU ⟨tk,e⟩=>⟨tk,hP,hU,e⟩)) ?_ fun _ _ e=>e)
  ·obtain ⟨tk,rfl⟩:=hJ;exact hl i j _ C hi hj hij kp fun tk'=>hC _ ⟨tk',rfl⟩
  rintro ⟨⟨⟩,st'⟩ s' ⟨p,tk,hP,hU,har,hf,rfl⟩;dsimp only;refine wpAny_bind (seqEpoch_at hz2 rfl ?_);rw [kat_snds rfl har];have lp:p.toList.length=vs.length:=by rw [Array.length_toList];exact hP.size
  refine wpAny_bind (listUpdate_at hz2 rfl ?_ (hsz2:=by rw [List.size_toArray,bL,lp,sizeLine_eq];lia));rw [hf];simp only [bne_self_eq_false,Bool.false_eq_true,if_false];exact wpAny_pure (h p tk hP hU)
theorem Jt {x:Value}
  (hc:wpAny 0xB A.in1 (collect x) (fun vs s1=>vs.length<64/\∃ (lt:Nat->Nat->Bool) (κ:SortKind),Ord vs.length lt /\
   (2<=vs.length->∀ (s':Shared) (R:SortKind->Shared->Prop),(∀ b o,s1.heap.get? b=some o->s'.heap.get? b=some o)->R κ s'->wpAny 0xB A.in1.in1 (keyKind' vs.toArray) R (fun _ _=>False) s') /\
   (∀ (i j:Nat) (s':Shared) (C:Bool->Shared->Prop),i<vs.length->j<vs.length->i≠j->(∀ b o,s1.heap.get? b=some o->s'.heap.get? b=some o)->(∀ tk,C (lt i j) { s' with toks:=tk })->wpAny 0xB A.in1.in1 (keyLt' κ (vs.getD i Value.none) (vs.getD j Value.none)) C (fun _ _=>False) s') /\
   ∀ (p:Array Nat) (tk:Nat) (h':Heap) (e:Nat),Pm vs.length p->Up lt p vs.length->(∀ b o,s1.heap.get? b=some o->h'.get? b=some o)->h'.get? s1.heap.objs.size=some (seqObj "list" (p.toList.map fun i=>vs.getD i Value.none).toArray e)->Q (.ref s1.heap.objs.size) { s1 with toks:=tk,heap:=h' }) (fun _ _=>False) s) :
  wpAny 0xB A (call (.builtin "sorted") [x]) Q E s:=by
 refine Calls.call_function_entry kind_sorted plain_sorted entry_sorted (args_sorted1 _) ?_;unfold Builtin.«sorted»;refine wpAny_bind (m:=checkCount "sorted" 1 1 _) (wpAny_pure ?_);refine wpAny_bind (wpAny_mono hc (fun vs s1 ⟨h64,lt,κ,O,hk,hl,hq⟩=>?_) fun _ _ z=>z.elim);refine wpAny_bind (wpAny_newList ?_ (by show vs.length<=sizeLine;rw [sizeLine_eq];lia))
 have hn:(s1.heap.push (seqObj "list" vs.toArray 0)).get? s1.heap.objs.size=some (seqObj "list" vs.toArray 0):=Heap.get?_push_size _ rfl;have old:∀ b o,s1.heap.get? b=some o->b≠s1.heap.objs.size/\(s1.heap.push (seqObj "list" vs.toArray 0)).get? b=some o:=fun b o q=>⟨Nat.ne_of_lt (Heap.lt_size q),Heap.get?_push_of_some _ q⟩
 show wpAny _ _ _ _ _ { s1 with heap:=s1.heap.push (seqObj "list" vs.toArray 0) }
 refine wpAny_bind (wpAny_holding (wpAny_call_entry slot_list_sort ⟨_,hn,rfl⟩ entry_list_sort ?body (args_list_sort _)))
 case body =>
  refine Nj (s:={ s1 with heap:=s1.heap.push (seqObj "list" vs.toArray 0) }) hn h64 O (fun h2 s' R kp hR=>hk h2 s' R (fun b o q=>kp b o (old b o q).1 (old b o q).2) hR)
   (fun i j s' C hi hj hij kp hC=>hl i j s' C hi hj hij (fun b o q=>kp b o (old b o q).1 (old b o q).2) hC) fun p tk hP hU=>⟨_,rfl,wpAny_pure ⟨_,rfl,?_⟩⟩
  obtain ⟨e,he⟩:=sortedHeap_at (h:=s1.heap.push (seqObj "list" vs.toArray 0)) (a:=s1.heap.objs.size) (vs:=vs) (out:=(p.toList.map fun i=>vs.getD i Value.none).toArray) hn;refine hq p tk _ e hP hU (fun b o q=>?_) he;rw [sortedHeap_old (old b o q).1 (by have:=Heap.lt_size q;rw [size_push'];exact Nat.lt_succ_of_lt this)];exact (old b o q).2
end
theorem cj.obj {o:HO} (x:cj P w H h a o):∃ ob,h.get? a=some ob:=by
 cases o with
 | lst xs=>obtain ⟨_,_,_,_,e⟩:=x;exact ⟨_,e⟩
 | tup xs=>obtain ⟨_,_,_,ob,e,_⟩:=x;exact ⟨ob,e⟩
 | dK kvs=>obtain ⟨_,_,_,_,ob,_,_,e,_⟩:=x;exact ⟨ob,e⟩
 | dT kvs=>obtain ⟨_,_,_,_,ob,_,_,e,_⟩:=x;exact ⟨ob,e⟩
 | set S n=>obtain ⟨ob,_,_,_,e,_⟩:=x;exact ⟨ob,e⟩
 | ins C dx fs=>obtain ⟨_,_,_,e,_⟩:=x;exact ⟨_,e⟩
 | own y=>exact x
 | xd fs=>obtain ⟨_,⟨ob,_,_,e,_⟩,_⟩:=x;exact ⟨ob,e⟩
 | rng lo hi=>obtain ⟨_,_,_,e⟩:=x;exact ⟨_,e⟩
 | Bx ob u=>obtain ⟨e,_⟩:=x;exact ⟨ob,e⟩
 | RQ ps=>exact ⟨_,x⟩
 | met f y=>exact ⟨_,x⟩
 | ext φ=>obtain ⟨_,e,_⟩:=x;exact e
theorem Inv.a0v (H':Hp) (I:Inv X pins σ H s) (k:∀ b u,s.heap.get? b=some u->h'.get? b=some u) (hs:∀ b u,H b=some u->H' b=some u) (hn:∀ b u,H' b=some u->H b=none->(∀ o,s.heap.get? b≠some o)/\cj X.prog X.w H' h' b u) :
  Inv X pins σ H' { s with heap:=h',toks:=t' }:=by
 have hf:∀ b o,s.heap.get? b=some o->H b=none->H' b=none:=fun b o q n=>by
  cases e:H' b with
  | none=>rfl
  | some u=>exact absurd q ((hn b u e n).1 o)
 refine I.un ⟨fun b u q _ _ _=>k b u q,fun b u q _ _ _=>⟨u.slots,k b u q⟩,fun b u q n _=>hf b u q n,fun b u q _=>⟨u,k b u q⟩,fun b xs q=>hs b _ q,fun b o u q=>hs b _ q,fun b ps q=>⟨#[],by rw [hs b _ q];simp⟩⟩ fun b u e=>?_;cases q:H b with
 | none=>exact (hn b u e q).2
 | some v =>
  have e2:=hs b v q;rw [e] at e2;cases e2;exact (I.hok b _ q).stay (fun c z _ r=>k c z r) (fun c r=>hs c _ r) fun c xs r=>hs c _ r
def rH (p d:Addr):HO:=.ext fun h=>h.IsItemsView p d
def nQ (p d:Addr):HO:=.ext fun h=>h.IsValuesView p d
theorem Ju {p:Addr} (hv:h.IsItemsView p d):cj P w H h p (rH p d) :=
 ⟨hv,(let ⟨o,ho,_⟩:=hv;⟨o,ho⟩),fun h1 h2 ⟨o,ho,r⟩ k=>⟨o,k _ ho,r⟩⟩
theorem CQ {p:Addr} (hv:h.IsValuesView p d):cj P w H h p (nQ p d) :=
 ⟨hv,(let ⟨o,ho,_⟩:=hv;⟨o,ho⟩),fun h1 h2 ⟨o,ho,r⟩ k=>⟨o,k _ ho,r⟩⟩
theorem GC {kvs:List (Key×V)} (I:Inv X pins σ H s) (e:H a=some (.dK kvs)):kvs.length<=sizeLine/\(a==sysModules)=false/\∃ vs ep,KV kvs vs/\s.heap.DictAt (bJ X.prog X.w) a vs ep:=by
 obtain ⟨z,hs,vs,rel,o,es,ep,r⟩:=zy I.hok e;exact ⟨z,hs,vs,ep,rel,o,es,r⟩
inductive zJ (Q:VK) (x:V) (H1:Hp):Prop
 | mk (a:Addr) (kvs:List (Prod L2.Key V)) (_:x=.ref a) (_:H1 a=some (.dK kvs)) (_:∀ p,H1 p=none->Q (.ref p) (upd H1 p (rH p a))):zJ Q x H1
def Xp (td:TE):TE:=fun σ H Q=>td σ H fun x H1=>zJ Q x H1
theorem Nk {l:Expr} (hl:PE X l tl) (hbase:attributeBase l "items" X.env (eval l X.env)=eval l X.env:=by rfl) (hline:(apos.endLine==cpos.line)=true:=by rfl) :
  PE X (.Call (.Attribute l "items" apos) [] [] cpos) (Xp tl):=by
 intro pins s σ H Q I h;refine wpAny_Call_method0_late hbase hline (cB (hl pins s σ H _ I h) fun v s1 zq=>?_);obtain ⟨x,H1,I1,r1,a,kvs,ex,ea,q⟩:=zq;subst ex;cases r1;obtain ⟨z,hs,vs,ep,rel,dat⟩:=GC I1 ea;have hT:s1.TypeIs (.ref a) "dict":=dat.dictOf.typeIs;obtain ⟨o,es,ho,hx,r⟩:=id dat;refine ⟨"dict", "dict.items",PySem.F.plainAttrs_dict,PySem.F.slot_dict_items,PySem.F.type_dict_items,hT,(fun b e=>by injection e with e;subst e;exact ⟨o,ho,hx.2.1⟩),?_⟩;refine Calls.callWith_builtin rfl (PySem.evalArgs_none ?_);refine call_meetsIn PySem.F.slot_dict_items hT PySem.F.entry_dict_items (PySem.F.args_dict_items_1 _) (meets_dict_items (bJ X.prog X.w) a hs) ⟨⟨vs,dat.dictOf⟩,?_⟩;exact ⟨.ref s1.heap.objs.size,_,I1.laid (o:=rH s1.heap.objs.size a) (t':=s1.toks) (fun b o q=>Heap.get?_push_of_some _ q) 0x6 (Ju 0x18),rfl,q _ (I1.hok.fresh 0x6)⟩
inductive uO (Q:VK) (x:V) (H1:Hp):Prop
 | mk (a:Addr) (kvs:List (Prod L2.Key V)) (_:x=.ref a) (_:H1 a=some (.dK kvs)) (_:∀ p,H1 p=none->Q (.ref p) (upd H1 p (nQ p a))):uO Q x H1
def Td (td:TE):TE:=fun σ H Q=>td σ H fun x H1=>uO Q x H1
theorem Jv {l:Expr} (hl:PE X l tl) (hbase:attributeBase l "values" X.env (eval l X.env)=eval l X.env:=by rfl) (hline:(apos.endLine==cpos.line)=true:=by rfl) :
  PE X (.Call (.Attribute l "values" apos) [] [] cpos) (Td tl):=by
 intro pins s σ H Q I h;refine wpAny_Call_method0_late hbase hline (cB (hl pins s σ H _ I h) fun v s1 zq=>?_);obtain ⟨x,H1,I1,r1,a,kvs,ex,ea,q⟩:=zq;subst ex;cases r1;obtain ⟨z,hs,vs,ep,rel,dat⟩:=GC I1 ea;have hT:s1.TypeIs (.ref a) "dict":=dat.dictOf.typeIs;obtain ⟨o,es,ho,hx,r⟩:=id dat;refine ⟨"dict", "dict.values",PySem.F.plainAttrs_dict,PySem.F.slot_dict_values,PySem.F.type_dict_values,hT,(fun b e=>by injection e with e;subst e;exact ⟨o,ho,hx.2.1⟩),?_⟩;refine Calls.callWith_builtin rfl (PySem.evalArgs_none ?_);refine call_meetsIn PySem.F.slot_dict_values hT PySem.F.entry_dict_values (PySem.F.args_dict_values_1 _) (meets_dict_values (bJ X.prog X.w) a hs) ⟨⟨vs,dat.dictOf⟩,?_⟩;exact ⟨.ref s1.heap.objs.size,_,I1.laid (o:=nQ s1.heap.objs.size a) (t':=s1.toks) (fun b o q=>Heap.get?_push_of_some _ q) 0x6 (CQ 0x18),rfl,q _ (I1.hok.fresh 0x6)⟩
theorem GD:∀ {κ:Type}{kvs:List (κ×V)}{vs:List (κ×Value)},KV kvs vs->Vals (kvs.map (·.2)) (vs.map (·.2))
 | _,[],[],_=>.nil
 | _,_::_,_::_,.cons h t=>.cons h.2 (GD t)
inductive zK (xs:List V) (H:Hp) (Q:VK):Prop
 | mk (v a:Addr) (kvs:List (Prod L2.Key V)) (_:xs=[.ref v]) (_:H v=some (nQ v a)) (_:H a=some (.dK kvs)) (_:∀ p,H p=none->Q (.ref p) (upd H p (.lst (kvs.map (·.2))))):zK xs H Q
def Xq:List V->Hp->VK->Prop:=fun xs H Q=>zK xs H Q
theorem CV (hin:X.A.handled=none):dF X (.type "list") Xq:=by
 intro pins s σ H xs us Q I r h;obtain ⟨v,a,kvs,rfl,hv,ha,q⟩:=h;obtain ⟨u,rfl,ru⟩:=vals1 r;cases ru;obtain ⟨z,hs,vs,ep,rel,dat⟩:=GC I ha;have vw:s.heap.IsValuesView v a:=(I.hok _ _ hv).1;have hlen:vs.length=kvs.length:=rel.length.symm;refine kdl_call (kdl_values (knd:=bJ X.prog X.w) (kvs:=vs) (ep:=ep)) hin ⟨vw,dat⟩ 0x1 fun h' tk acc c hk hS hI=>?_;have ev:acc.toList=vs.map (·.2):=kdl_vals_eq acc.toList (by rw [Array.length_toList,hI.1]) fun j w hj=>hI.2 j w (by simpa using hj);have hl:(kvs.map (·.2)).length<=sizeLine:=by rw [bL];exact z
 have hv2:=GD rel;rw [<- ev] at hv2;exact ⟨.ref s.heap.objs.size,_,I.laid (o:=.lst (kvs.map (·.2))) (t':=tk) hk 0x6 ⟨hl,acc.toList,c,hv2,hS⟩,rfl,q _ (I.hok.fresh 0x6)⟩
inductive zL (xs:List V) (H:Hp) (Q:VK):Prop
 | mk (a:Addr) (kvs:List (Prod L2.Key V)) (_:xs=[.ref a]) (_:H a=some (.dK kvs)) (_:∀ p,H p=none->Q (.ref p) (upd H p (.dK kvs))):zL xs H Q
def Xr:List V->Hp->VK->Prop:=fun xs H Q=>zL xs H Q
theorem mU:dF X (.type "dict") Xr:=by
 intro pins s σ H xs us Q I r h;obtain ⟨a,kvs,rfl,ha,q⟩:=h;obtain ⟨u,rfl,ru⟩:=vals1 r;cases ru;obtain ⟨z,hs,vs,rel,dd⟩:=zy I.hok ha;have hlen:vs.length=kvs.length:=rel.length.symm;have low:(s.heap.objs.size==sysModules)=false:=by
  obtain ⟨m,F⟩:=I.fr;have h1:sysModules<X.base.objs.size:=modules_low I.mod.nolimit;have h2:X.base.objs.size<=X.env.locals:=F.above;have h3:X.env.locals<s.heap.objs.size:=F.ns.lt;exact beq_eq_false_iff_ne.mpr (Nat.ne_of_gt (Nat.lt_trans (Nat.lt_of_lt_of_le h1 h2) h3))
 refine kt_call_dict (knd:=bJ X.prog X.w) hs dd 0x1 fun h' hd hb=>?_;exact ⟨.ref s.heap.objs.size,_,I.laid (o:=.dK kvs) (t':=s.toks) (fun b o e=>hb.extBut _ _ (Nat.ne_of_lt (Heap.lt_size e)) (Heap.get?_push_of_some _ e)) 0x6 ⟨z,low,vs,rel,hd⟩,rfl,q _ (I.hok.fresh 0x6)⟩
def fj (kvs:List (Int×V)):List (Key×V):=kvs.map fun p=>(Sum.inl p.1,p.2)
def Items (H:Hp) (as:List Addr) (ys:List (Int×V)):Prop:=as.length=ys.length/\∀ (j:Nat) (a:Addr) (y:Int×V),as[j]?=some a->ys[j]?=some y->H a=some (.tup [.int y.1,y.2])
theorem rJ {α β:Type} [DecidableEq α]:∀ {as:List α}{ys:List β}{j:Nat}{a:α}{y:β},as.Nodup->as[j]?=some a->ys[j]?=some y->(as.zip ys).lookup a=some y
 | [],_,_,_,_,_,h,_=>by simp at h
 | _::_,[],_,_,_,_,_,h=>by simp at h
 | x::as,z::ys,0,a,y,_,h1,h2=>by
  have e1:x=a:=by simpa using h1
  have e2:z=y:=by simpa using h2
  subst e1 e2;rw [List.zip_cons_cons,List.lookup_cons,beq_self_eq_true]
 | x::as,z::ys,j+1,a,y,nd,h1,h2=>by
  have n1:=List.nodup_cons.mp nd;have ha:as[j]?=some a:=by simpa using h1
  have ne:(a==x)=false:=by
   rw [beq_eq_false_iff_ne];intro e;exact n1.1 (e ▸ jL ha)
  rw [List.zip_cons_cons,List.lookup_cons,ne];exact rJ n1.2 ha (by simpa using h2)
theorem lookup_mem {α β:Type} [DecidableEq α]:∀ {as:List α}{ys:List β}{a:α}{y:β},(as.zip ys).lookup a=some y->∃ j:Nat,as[j]?=some a/\ys[j]?=some y
 | [],_,_,_,h=>by simp at h
 | _::_,[],_,_,h=>by simp at h
 | x::as,z::ys,a,y,h=>by
  rw [List.zip_cons_cons,List.lookup_cons] at h;cases e:a==x with
  | true =>
   rw [e] at h;have:z=y:=by simpa using h
   subst this;exact ⟨0,by simp [eq_of_beq e],by simp⟩
  | false =>
   rw [e] at h;obtain ⟨j,h1,h2⟩:=lookup_mem h;exact ⟨j+1,by simpa using h1,by simpa using h2⟩
def layT (H:Hp) (as:List Addr) (ys:List (Int×V)) (l:Addr) (o:HO):Hp:=fun b=>if b=l then some o else match (as.zip ys).lookup b with
 | some y=>some (.tup [.int y.1,y.2])
 | none=>H b
theorem GF:∀ as:List Addr,(∀ a∈as,∃ k t x,h.get? a=some { cls:=.type "tuple",data:=.seq #[Value.int k t,x] })->∃ fs,KatTups h (as.map Value.ref) fs/\fs.length=as.length/\∀ v∈fs,∃ k t,v=Value.int k t
 | [],_=>⟨[],.nil,rfl,fun v hv=>nomatch hv⟩
 | a::as,ha=>by
  obtain ⟨fs,t,hl,hf⟩:=GF as fun b hb=>ha b (jw _ hb);obtain ⟨k,tk,x,e⟩:=ha a List.mem_cons_self;exact ⟨.int k tk::fs,.cons e rfl rfl rfl t,by rw [jT,hl,jT],fun v hv=>by
   rcases List.mem_cons.mp hv with rfl | hv
   ·exact ⟨k,tk,rfl⟩
   ·exact hf v hv⟩
inductive zM (xs:List V) (H:Hp) (Q:VK):Prop
 | mk (v a:Addr) (kvs:List (Prod Int V)) (_:xs=[.ref v]) (_:H v=some (rH v a)) (_:H a=some (.dK (fj kvs))) (_:kvs.length<64) (_:∀ (l:Addr) (as:List Addr) (ys:List (Int×V)) (H':Hp),(∀ b u,H b=some u->H' b=some u)->H l=none->H' l=some (.lst (as.map V.ref))->ys.Perm kvs->ys.Pairwise (fun x y=>x.1<y.1)->Items H' as ys->Q (.ref l) H'):zM xs H Q
def Xu:List V->Hp->VK->Prop:=fun xs H Q=>zM xs H Q
theorem uP:∀ as:List Addr,Vals (as.map V.ref) (as.map Value.ref)
 | []=>.nil
 | _::r=>.cons rfl (uP r)
theorem CW (hin:X.A.handled=none):dF X (.builtin "sorted") Xu:=by
 intro pins s σ H xs us Q I r h;obtain ⟨v,a,kvs,rfl,hv,ha,h64,q⟩:=h;obtain ⟨u,rfl,ru⟩:=vals1 r;cases ru;obtain ⟨z,hs,vs,ep,rel,dat⟩:=GC I ha;have vw:s.heap.IsItemsView v a:=(I.hok _ _ hv).1;have hlk:(fj kvs).length=kvs.length:=bL _;have hlen:vs.length=kvs.length:=by rw [<- hlk];exact rel.length.symm
 have nd:(vs.map (·.1)).Nodup:=by
  obtain ⟨_,_,_,_,_,_,_,hn⟩:=dat;exact hn
 refine Jt (kdx_collect (knd:=bJ X.prog X.w) (E:=fun _ _=>False) hin vw dat (by rw [hlen];lia) fun h1 tk as hk hl hG=>?_);have at_:∀ (j:Nat) (b:Addr),as[j]?=some b->∃ k x t u,kvs[j]?=some (k,x)/\RelV x u/\vs[j]?=some (.inl k,u)/\h1.get? b=some { cls:=.type "tuple",data:=.seq #[Value.int k t,u] }:=by
  intro j b hb;obtain ⟨key,k,u,e1,e2,e3⟩:=hG.pairs j b hb;have hj:j<kvs.length:=by rw [<- hlen];exact (List.getElem?_eq_some_iff.mp e1).1
  obtain ⟨u',hu',K8⟩:=rel.at (show (fj kvs)[j]?=some (Sum.inl (kvs[j]).1,(kvs[j]).2) by
   unfold fj;rw [iK,dB hj];rfl)
  rw [e1] at hu';have e4:k=Sum.inl (kvs[j]).1/\u=u':=by simpa using hu'
  obtain ⟨rfl,rfl⟩:=e4;obtain ⟨t,rfl⟩:∃ t,key=Value.int (kvs[j]).1 t:=a0u e2;exact ⟨_,_,t,u,dB hj,K8,e1,e3⟩
 have asN:as.Nodup:=hG.rise.imp fun h=>Nat.ne_of_lt h;have hlv:(as.map Value.ref).length=kvs.length:=by rw [bL,hl,hlen]
 refine ⟨by rw [hlv];exact h64,fun i j=>decide ((kvs.getD i (0,.non)).1<(kvs.getD j (0,.non)).1),tuples' true,?_,fun h2 s' R hk' hR=>?_,fun i j s' C hi hj hij hk' hC=>?_,fun p tk2 h2 e hP hU hk' hS=>?_⟩
 ·rw [hlv];refine ⟨fun i j k _ _ _ a b=>?_,fun i j hi hj hij c=>?_⟩
  ·have a':=u9 a;have b':=u9 b;exact decide_eq_true (Int.lt_trans a' b')
  ·have c':=of_decide_eq_false c;refine decide_eq_true ?_;have hne:(kvs.getD i (0,.non)).1≠(kvs.getD j (0,.non)).1:=by
    intro e;have e1:kvs.getD i (0,.non)=kvs[i]:=by rw [iw,dB hi];rfl
    have e2:kvs.getD j (0,.non)=kvs[j]:=by rw [iw,dB hj];rfl
    rw [e1,e2] at e;have key:∀ m (hm:m<kvs.length),(vs.map (·.1))[m]?=some (Sum.inl (kvs[m]).1):=fun m hm=>by
     have hm':m<as.length:=by lia
     obtain ⟨k,x,t,u,g1,_,g2,_⟩:=at_ m as[m] (dB hm');rw [dB hm] at g1;have:kvs[m]=(k,x):=by simpa using g1
     rw [iK,g2,this];rfl
    have pw:=List.pairwise_iff_getElem.mp nd;have li:i<(vs.map (·.1)).length:=by rw [bL,hlen];exact hi
    have lj:j<(vs.map (·.1)).length:=by rw [bL,hlen];exact hj
    have ki:=key i hi;have kj:=key j hj;rw [dB li] at ki;rw [dB lj] at kj;have hee:(vs.map (·.1))[i]=(vs.map (·.1))[j]:=by rw [Option.some.inj ki,Option.some.inj kj,e]
    rcases Nat.lt_or_gt_of_ne hij with g | g
    ·exact pw i j li lj g hee
    ·exact pw j i lj li g hee.symm
   lia
 ·obtain ⟨fs,t,hlf,hf⟩:=GF (h:=s'.heap) as fun b hb=>by
   obtain ⟨j,hj⟩:=List.mem_iff_getElem?.mp hb;obtain ⟨k,x,t,u,_,_,_,g⟩:=at_ j b hj;exact ⟨k,t,u,hk' _ _ g⟩
  have hz:0<fs.length:=by rw [hlf];rw [bL] at h2;lia
  refine kat_kind (T:=Value.type "int") t hz (fun w hw=>?_) (by rfl) ?_
  ·obtain ⟨k,tk',rfl⟩:=hf w hw;exact fun A Q E s _ q=>wpAny_pure q
  ·exact hR
 ·rw [hlv] at hi hj;have hi':i<as.length:=by lia
  have hj':j<as.length:=by lia
  obtain ⟨k1,x1,t1,u1,a1,_,_,g1⟩:=at_ i as[i] (dB hi');obtain ⟨k2,x2,t2,u2,a2,_,_,g2⟩:=at_ j as[j] (dB hj');have b1:(as.map Value.ref).getD i Value.none=Value.ref as[i]:=by rw [iw,iK,dB hi'];rfl
  have b2:(as.map Value.ref).getD j Value.none=Value.ref as[j]:=by rw [iw,iK,dB hj'];rfl
  have c1:kvs.getD i (0,.non)=(k1,x1):=by rw [iw,a1];rfl
  have c2:kvs.getD j (0,.non)=(k2,x2):=by rw [iw,a2];rfl
  have hne:k1≠k2:=by
   intro e;have nd':=List.pairwise_iff_getElem.mp nd;obtain ⟨_,_,_,_,p1,_,p2,_⟩:=at_ i as[i] (dB hi');obtain ⟨_,_,_,_,p3,_,p4,_⟩:=at_ j as[j] (dB hj');rw [a1] at p1;rw [a2] at p3;cases p1;cases p3;have li:i<(vs.map (·.1)).length:=by rw [bL,hlen];exact hi
   have lj:j<(vs.map (·.1)).length:=by rw [bL,hlen];exact hj
   have ki:(vs.map (·.1))[i]?=some (Sum.inl k1):=by rw [iK,p2];rfl
   have kj:(vs.map (·.1))[j]?=some (Sum.inl k2):=by rw [iK,p4];rfl
   rw [dB li] at ki;rw [dB lj] at kj;have hee:(vs.map (·.1))[i]=(vs.map (·.1))[j]:=by rw [Option.some.inj ki,Option.some.inj kj,e]
   rcases Nat.lt_or_gt_of_ne hij with g | g
   ·exact nd' i j li lj g hee
   ·exact nd' j i lj li g hee.symm
  rw [b1,b2];refine kat_lt (hk' _ _ g1) rfl (hk' _ _ g2) rfl ?_;refine kat_cons (wpAny_eqBool_int ?_);have hb:(k1==k2)=false:=by rw [beq_eq_false_iff_ne];exact hne
  rw [hb];refine kat_no (oneLt_int ?_);have g:=hC s'.toks;dsimp only at g;rw [c1,c2] at g;exact g
 ·rw [hlv] at hP hU;have hpl:p.toList.length=kvs.length:=by rw [Array.length_toList];exact hP.size
  have hpi:∀ m,m<kvs.length->∃ i,p.toList[m]?=some i/\i<kvs.length/\i=pat p m:=fun m hm=>by
   have hm':m<p.toList.length:=by lia
   refine ⟨p.toList[m],dB hm',?_,?_⟩
   ·have:=hP.lt hm;unfold pat at this;rw [Array.getD,dif_pos (by rw [hP.size];exact hm)] at this
    simpa using this
   ·unfold pat;rw [Array.getD,dif_pos (by rw [hP.size];exact hm)];simp
  have hout:(p.toList.map fun i=>(as.map Value.ref).getD i Value.none)=(p.toList.map fun i=>as.getD i 0).map Value.ref:=by
   rw [List.map_map];refine List.map_congr_left fun i hi=>?_;obtain ⟨m,hm⟩:=List.mem_iff_getElem?.mp hi;obtain ⟨i',g1,g2,_⟩:=hpi m (by have:=(List.getElem?_eq_some_iff.mp hm).1;lia);rw [hm] at g1;cases g1;have hi':i<as.length:=by lia
   show (as.map Value.ref).getD i Value.none=Value.ref (as.getD i 0)
   rw [iw,iK,dB hi',iw,dB hi'];rfl
  rw [hout] at hS;have lsz:∀ b∈as,b<h1.objs.size:=fun b hb=>hG.there hb;have up:∀ b∈as,s.heap.objs.size<=b:=fun b hb=>Nat.le_of_lt (hG.above b hb);have gl:∀ o,s.heap.get? h1.objs.size≠some o:=fun o e=>absurd (Heap.lt_size (hk _ _ e)) (Nat.lt_irrefl _);have gu:∀ b∈as,∀ o,s.heap.get? b≠some o:=fun b hb o e=>absurd (Nat.lt_of_lt_of_le (Heap.lt_size e) (up b hb)) (Nat.lt_irrefl _);have hLn:H h1.objs.size=none:=by
   cases e:H h1.objs.size with
   | none=>rfl
   | some u =>
    obtain ⟨ob,e2⟩:=(I.hok _ _ e).obj;exact absurd e2 (gl ob)
  have hNl:∀ b∈as,b≠h1.objs.size:=fun b hb=>Nat.ne_of_lt (lsz b hb)
  let H2:Hp:=layT H as kvs h1.objs.size (.lst ((p.toList.map fun i=>as.getD i 0).map V.ref))
  have old:∀ b u,H b=some u->H2 b=some u:=fun b u e=>by
   obtain ⟨ob,eb⟩:=(I.hok _ _ e).obj
   show (if b=h1.objs.size then _ else _)=_
   rw [if_neg (show ¬ b=h1.objs.size from fun z=>gl ob (by rw [<- z];exact eb))]
   cases g:(as.zip kvs).lookup b with
   | none=>exact e
   | some y =>
    obtain ⟨j,g1,_⟩:=lookup_mem g;exact absurd eb (gu b (jL g1) ob)
  have tup:∀ (j:Nat) (b:Addr) (y:Int×V),as[j]?=some b->kvs[j]?=some y->H2 b=some (.tup [.int y.1,y.2]):=fun j b y g1 g2=>by
   show (if b=h1.objs.size then _ else _)=_
   rw [if_neg (hNl b (jL g1)),rJ asN g1 g2]
  refine ⟨.ref h1.objs.size,H2,I.a0v (t':=tk2) H2 (fun b u g=>hk' b u (hk b u g)) old (fun b u e n=>?_),rfl,?_⟩
  ·have e':(if b=h1.objs.size then some (HO.lst ((p.toList.map fun i=>as.getD i 0).map V.ref)) else match (as.zip kvs).lookup b with | some y=>some (.tup [.int y.1,y.2]) | none=>H b)=some u:=e
   by_cases hb:b=h1.objs.size
   ·rw [if_pos hb] at e';cases e';subst hb;refine ⟨gl,?_,_,_,uP _,hS⟩;rw [bL,bL,hpl,sizeLine_eq];lia
   ·rw [if_neg hb] at e';cases g:(as.zip kvs).lookup b with
    | none=>rw [g] at e';rw [n] at e';cases e'
    | some y =>
     rw [g] at e';cases e';obtain ⟨j,g1,g2⟩:=lookup_mem g;obtain ⟨k,x,t,u,a1,ru,_,g3⟩:=at_ j b g1;rw [g2] at a1;cases a1;exact ⟨gu b (jL g1),(by show 2<=sizeLine;decide),[Value.int k t,u],.cons ⟨t,rfl⟩ (.cons ru .nil),⟨_,hk' _ _ g3,rfl,_,rfl⟩⟩
  ·refine q h1.objs.size (p.toList.map fun i=>as.getD i 0) (p.toList.map fun i=>kvs.getD i (0,.non)) H2 old hLn ?_ ?_ ?_ ⟨by rw [bL,bL],fun j b y g1 g2=>?_⟩
   ·show (if h1.objs.size=h1.objs.size then _ else _)=_
    rw [if_pos rfl]
   ·have e1:((List.range kvs.length).map fun i=>kvs.getD i (0,.non))=kvs:=by
     apply List.ext_getElem
     ·simp
     ·intro i g1 g2;simp only [List.getElem_map,List.getElem_range];rw [iw,dB g2];rfl
    have g:=(Array.perm_iff_toList_perm.mp hP).map fun i=>kvs.getD i ((0:Int),V.non);rw [show (List.range kvs.length).toArray.toList=List.range kvs.length from rfl,e1] at g
    exact g
   ·rw [List.pairwise_iff_getElem];intro i j g1 g2 g3;rw [bL,hpl] at g1 g2;have:=hU i j g3 g2;have c:=u9 this;obtain ⟨i',w1,_,w3⟩:=hpi i g1;obtain ⟨j',w4,_,w6⟩:=hpi j g2;have l1:i<p.toList.length:=by lia
    have l2:j<p.toList.length:=by lia
    rw [dB l1] at w1;rw [dB l2] at w4;rw [<- w3,<- w6] at c;simp only [List.getElem_map];rw [Option.some.inj w1,Option.some.inj w4];exact c
   ·rw [iK] at g1 g2;obtain ⟨i,w1,w2⟩:=Option.map_eq_some_iff.mp g1;rw [w1] at g2;have hj:j<kvs.length:=by have:=(List.getElem?_eq_some_iff.mp w1).1;lia
    obtain ⟨i',w3,w4,_⟩:=hpi j hj;rw [w1] at w3;cases w3;have e1:kvs.getD i (0,.non)=y:=by simpa using g2
    have ei:i<as.length:=by lia
    refine tup i b y ?_ ?_
    ·rw [<- w2,iw,dB ei];rfl
    ·rw [<- e1,iw,dB w4];rfl
open AutoSeq1 (wpAny_loadPart')
theorem pX (l:Addr) (items:Array Value) (n:Nat) (dct:Option Addr) (sl:Array (Option Value)) (c:Int) (tc:Tok) (hf:Builtin.SmallTypes.fitsIndex c=true) :
  Meets (Builtin.«enumerate.__new__» ⟨[.type "enumerate",.ref l],[(Str.ofString "start",.int c tc)]⟩) (fun _ R s=>s.heap.get? l=some { cls:=.type "list",dict:=dct,data:=.seq items n,slots:=sl } /\
   R (.ok (.ret (.ref (s.heap.push { cls:=.type "list_iterator",data:=.fields #[.ref l,.int 0 0] }).objs.size)))
    { s with heap:=(s.heap.push { cls:=.type "list_iterator",data:=.fields #[.ref l,.int 0 0] }).push { cls:=.type "enumerate",data:=.fields #[.none,.bool false,.ref s.heap.objs.size,rawInt c,.none,.none] } }) :=
 .of_wp fun prog w A R s h=>by
  obtain ⟨hp,g,d,tk,os⟩:=s;obtain ⟨hl,h⟩:=h;have hsb:=sub_enumerate;have hq:Heap.IsList (Shared.heap ⟨hp,g,d,tk,os⟩) l items:=⟨_,hl,rfl,n,rfl⟩
  wp_walk using wpAny_loadPart' hl
  refine wpAny_stack_any fun fr=>wpAny_pure ?_
  split
  ·rename_i cc _ _ _ _ _
   cases (cc==Value.type "enumerate")
   ·wp_walk using wpAny_loadPart' hl,wpAny_pyIter_list hq
    exact ⟨_,rfl,h⟩
   ·wp_walk using wpAny_loadPart' hl,wpAny_pyIter_list hq
    exact ⟨_,rfl,h⟩
  ·wp_walk using wpAny_loadPart' hl,wpAny_pyIter_list hq
   exact ⟨_,rfl,h⟩
def stN:Str:=Str.ofString "start"
theorem Te (a v:Value):checkTypeCall "enumerate" ⟨[a],[(stN,v)]⟩=pure ():=by kernel_rfl
theorem Xv (a v:Value):checkBuiltinCall "enumerate.__new__" ⟨[.type "enumerate",a],[(stN,v)]⟩=pure ():=by kernel_rfl
theorem Tf (o a v:Value):argsOk "object.__init__" ⟨[o,a],[(stN,v)]⟩:=by unfold argsOk;kernel_rfl
theorem Xw {o a v:Value}:Meets (Builtin.«object.__init__» ⟨[o,a],[(stN,v)]⟩) (fun _ R s=>s.TypeIs o "enumerate"/\R (.ok (.ret .none)) s):=by
 refine Meets.of_wp fun prog w A R s hs=>?_;obtain ⟨hT,hq⟩:=hs;have hl:=(F.called_enumerate).init.lookup;have hm:=(F.called_enumerate).made;have hne:(some "enumerate.__new__" != some "object.__new__")=true:=by decide
 repeat (any_goals (first | assumption | wp_step))
 exact ⟨_,rfl,hq⟩
theorem rK {items:Array Value}{c:Int}{tc:Tok} (hL:s.heap.IsList l items) (hf:Builtin.SmallTypes.fitsIndex c=true)
  (k:∀ h',IsEnum h' 0xF s.heap.objs.size c .none->h'.IsListIter s.heap.objs.size l 0->(∀ b o,s.heap.get? b=some o->h'.get? b=some o)->Q (.ref 0xF) { s with heap:=h' }) :
  wpAny 0xB A (call (.type "enumerate") [.ref l] [(stN,.int c tc)]) Q E s:=by
 obtain ⟨⟨cl,dct,dt,sl⟩,hl,hc,n,hd⟩:=hL;obtain rfl:cl=.type "list":=hc;obtain rfl:dt=.seq items n:=hd;have ft:=F.called_enumerate;obtain ⟨c0,tl,hmro⟩:=ft.mro;have hmade:=ft.made;have hsub:=ft.sub;have hct:=Te (.ref l) (.int c tc);refine wpAny_call (codeAny_of_tree (show wpAny _ _ (callAny (.type "enumerate") _) _ _ _ from ?_))
 refine wpAny_pure ⟨Code.quiet_builtin _ 0xE,codeAny_builtin F.entry_type_call ?_⟩;rw [Around.under_plain (weight_type_call_type "enumerate" [.ref l] [(stN,.int c tc)]) (units_type_call_type "enumerate" [.ref l] [(stN,.int c tc)])];have hnt:=ft.notType;have hcc:=ft.canCreate
 repeat (any_goals (first | assumption | wp_step))
 refine codeAny_mono (codeAny_call_builtin ft.plain F.entry_enumerate_new (wpAny_of_eq (Xv (.ref l) (.int c tc)) (pX l items n dct sl c tc hf prog w A.in1 (wants (fun obj s1=>s1.TypeIs obj "enumerate"/\Q obj s1) E) s ⟨hl,?_⟩))) fun r s1 hr=>?_
 ·have hz:(s.heap.push { cls:=.type "list_iterator",data:=.fields #[.ref l,.int 0 0] }).objs.size=s.heap.objs.size+1:=Heap.size_push ..
  show _/\_
  rw [hz];have he:IsEnum ((s.heap.push { cls:=.type "list_iterator",data:=.fields #[.ref l,.int 0 0] }).push { cls:=.type "enumerate",data:=.fields #[.none,.bool false,.ref s.heap.objs.size,rawInt c,.none,.none] }) 0xF s.heap.objs.size c .none:=by
   have g:=Heap.get?_push_size (s.heap.push { cls:=.type "list_iterator",data:=.fields #[.ref l,.int 0 0] }) (o:={ cls:=.type "enumerate",data:=.fields #[.none,.bool false,.ref s.heap.objs.size,rawInt c,.none,.none] }) rfl;rw [hz] at g;exact g
  exact ⟨⟨_,he,rfl⟩,k _ he ⟨_,Heap.get?_push_of_some _ (Heap.get?_push_size _ rfl),rfl,rfl⟩ fun b o x=>Heap.get?_push_of_some _ (Heap.get?_push_of_some _ x)⟩
 cases r with
 | error e=>exact hr
 | ok fl =>
  cases fl with
  | ret obj =>
   obtain ⟨hT,hQ⟩:=hr;have hli:=ft.init.lookup;have hbi:=ft.init.bind obj
   repeat (any_goals (first | assumption | wp_step))
   refine codeAny_mono (codeAny_call_builtin ft.init.plain F.entry_object_init (ft.init.check _ _ _ _ _ _ _ _ hT (Tf obj (.ref l) (.int c tc)) (Xw prog w A.in1 (wants (fun r s2=>r=.none/\Q obj s2) E) s1 ⟨hT,rfl,hQ⟩))) fun r2 s2 hr2=>?_;cases r2 with
   | error e=>exact hr2
   | ok f2 =>
    cases f2 with
    | ret r =>
     obtain ⟨rfl,hq⟩:=hr2
     repeat (any_goals (first | assumption | wp_step))
    | _=>exact hr2.elim
  | _=>exact hr.elim
theorem zN {P:Nat->Value->Prop}{St:Nat->Heap->Prop} (D:Draws prog w A it fp n P St) (c:Nat) :
  Draws prog w A it fp (n+c) (fun i v=>P (i - c) v) (fun i h=>c<=i/\St (i - c) h) where
 live:=fun i h ⟨_,st⟩=>D.live _ h st
 frame:=fun i h h' ⟨z,st⟩ k=>⟨z,D.frame _ h h' st k⟩
 item:=fun i s Q E hi ⟨z,st⟩ hQ=>D.item (i - c) s Q E 0x1 st fun x h' tk p st' sb=>hQ x h' tk p ⟨by lia,by rw [show i+1 - c=i - c+1 by lia];exact st'⟩ sb
 done:=fun s Q E ⟨z,st⟩ hE=>D.done s Q E (by rw [show n+c - c=n by lia] at st;exact st) hE
def Itf (K:PySem.W.Frag) (l:Addr) (c:Nat):It:=⟨fun i H=>∃ xs x,bf K H l xs/\xs[i]?=some x,fun i H v H'=>∃ p x,(∀ xs,bf K H l xs->xs[i]?=some x)/\v=.ref p/\H p=none/\H'=upd H p (.tup [.int ((c+i:Nat):Int),x]),fun i H=>∃ xs,bf K H l xs/\xs.length<=i⟩
theorem Jw {e:Addr}{c:Nat} (hne:e≠it) :
  Turn P w K (.Tuple elts x1 tp) (Itf K l c) [e,it] e (fun i h=>(∃ old,IsEnum h e it ((c+i:Nat):Int) old)/\h.IsListIter it l i) where
 mem:=by simp
 obj:=fun i h ⟨⟨old,he⟩,⟨o,ho,hc,hd⟩⟩ b hb=>by
  simp only [List.mem_cons,List.not_mem_nil,or_false] at hb;rcases hb with rfl | rfl
  ·exact ⟨_,he,fun v z=>by cases z⟩
  ·exact ⟨o,ho,fun v z=>by rw [hd] at z;cases z⟩
 keep:=fun i h h' ⟨⟨old,he⟩,⟨o,ho,r⟩⟩ k=>⟨⟨old,k e 0x4 _ he⟩,⟨o,k it 0x4 o ho,r⟩⟩
 item:=by
  intro X hP hw hK hc i pins s σ H E I hf ⟨⟨old,he⟩,st⟩ ⟨xs,x,hq,hx⟩;subst hP hw hK;obtain ⟨its,rv,p,_⟩:=I.list hq;have nl:=lQ I hf hq;obtain ⟨u,hu,ru⟩:=rv.get hx;have nle:l≠e:=fun z=>nl (by simp [z]);have nli:l≠it:=fun z=>nl (by simp [z]);have hi:i<its.length:=(List.getElem?_eq_some_iff.mp hu).1;refine wpAny_pyNext_enum_itemD (zN (Draws.list (prog:=X.prog) (w:=X.w) (A:=X.A.in1) (I.ok.hd hc) it l nli its.toArray) c) he ⟨by lia,by rw [show c+i - c=i by lia];exact ⟨st,p.isList⟩⟩ (by rw [List.size_toArray];lia) hne (by simp [hne,Ne.symm nle]) fun v h' tk hP ho st' hT hsz hk=>⟨_,rfl,?_⟩
  have hv:v=u:=by
   have:its.toArray[c+i - c]?=some v:=hP;rw [show c+i - c=i by lia] at this
   rw [show its.toArray[i]?=its[i]? by simp,hu] at this
   exact (Option.some.inj this).symm
  subst hv;refine wpAny_letOwnedTupleGo_enum ho fun h2 he2 sb=>?_;have helt:e<s.heap.objs.size:=Heap.lt_size he;obtain ⟨oit,Xl,_⟩:=id st;have hilt:it<s.heap.objs.size:=Heap.lt_size Xl;have hT2:h2.get? s.heap.objs.size=some { cls:=.type "tuple",data:=.seq #[.int ((c+i:Nat):Int) tk,v] }:=sb.extBut _ _ (Nat.ne_of_gt helt) hT;have kk:∀ b o,b∉[e,it]->s.heap.get? b=some o->h2.get? b=some o:=fun b o hb q=>by
   simp only [List.mem_cons,List.not_mem_nil,or_false,not_or] at hb;exact sb.extBut _ _ hb.1 (hk b o hb.1 hb.2 q)
  refine ⟨.ref s.heap.objs.size,upd H s.heap.objs.size (.tup [.int ((c+i:Nat):Int),x]),I.wG (t':=tk+1) hf kk 0x6 ⟨eZ 0x4 |> Nat.le_of_lt,[.int ((c+i:Nat):Int) tk,v],.cons ⟨tk,rfl⟩ (.cons ru .nil),⟨_,hT2,rfl,_,rfl⟩⟩,rfl,⟨_,x,fun ys hy=>by rw [I.qK hy hq];exact hx,rfl,I.fresh,rfl⟩,⟨⟨_,he2⟩,?_⟩,fun b hb=>?_⟩
  ·obtain ⟨_,⟨o,ho',r⟩,_⟩:=st';rw [show c+i+1 - c=i+1 by lia] at r
   exact ⟨o,sb.extBut _ _ (Ne.symm hne) ho',r⟩
  ·simp only [List.mem_cons,List.not_mem_nil,or_false] at hb;rcases hb with rfl | rfl
   ·rw [aA (Nat.ne_of_lt helt)];exact (hf _ 0x4).1
   ·rw [aA (Nat.ne_of_lt hilt)];exact (hf _ 0x4).1
 done:=by
  intro X hP hw hK hc i pins s σ H E I hf ⟨⟨old,he⟩,st⟩ ⟨xs,hq,hx⟩;subst hP hw hK;obtain ⟨its,rv,p,_⟩:=I.list hq;have nl:=lQ I hf hq;have nli:l≠it:=fun z=>nl (by simp [z]);have hlen:=rv.length;have hno:its.toArray[i]?=none:=by simp;lia
  have D:Draws X.prog X.w X.A.in1 it [it,l] 0 (fun _ _=>True) (fun _ h=>h.IsListIter it l i/\h.IsList l its.toArray) :=
   { live:=(fun _ _ z=>let ⟨o,ho,_⟩:=z.1;⟨o,ho⟩),frame:=fun _ _ _ z hk=>⟨z.1.at fun o e=>hk it 0x4 o e,z.2.at fun o e=>hk l 0x4 o e⟩,item:=fun _ _ _ _ z=>absurd z (Nat.not_lt_zero _),done:=fun s Q E z hE=>wpAny_nextOf_list_end (I.ok.hd hc) z.1 z.2 hno hE }
  exact wpAny_pyNext_enum_endD D he ⟨st,p.isList⟩ fun h' eb=>⟨rfl,I.wF (t':=s.toks) hf fun b o hb q=>eb b o (fun z=>hb (by simp [z])) q⟩
 self:=fun A i s Q E ⟨⟨old,he⟩,_⟩ h=>wpAny_pyIter_enum he h
section
variable {M:Model}
theorem wQ {rest:List Expr}{kws:List Keyword}
  (h:wpAny M A (spliced (backTo pos (starEach (e::rest) env))) (fun vs s1=>wpAny M A (evalAll ((backToKw pos (keywordEach kws env)).map (·.2))) (fun kvs s2=>wpAny M A (call (.type T) vs (((backToKw pos (keywordEach kws env)).filterMap (·.1)).zip kvs)) Q E s2) E s1) E s)
  (he:backTo pos (starEach (e::rest) env)=(false,eval e env)::backTo pos (starEach rest env)) (hp:(backTo pos (starEach (e::rest) env)).any (·.1)=false)
  (ha:(backToKw pos (keywordEach kws env)).all (·.1.isSome)=true) (hk:(backToKw pos (keywordEach kws env)).any (·.1.isNone)=false) :
  wpAny M A (callWith pos (.type T) [] (backTo pos (starEach (e::rest) env)) (backToKw pos (keywordEach kws env))) Q E s:=by
 have g:wpAny M A (evalArgs (.type T) true (backTo pos (starEach (e::rest) env)) (backToKw pos (keywordEach kws env))) (fun a s1=>wpAny M A (call (.type T) ([]++a.pos) a.kw) Q E s1) E s:=by
  rw [he] at h ⊢;exact evalArgs_kwB ha h
 unfold callWith;refine wpAny_bind (wpAny_holding (wpAny_mono g (fun a s1 h1=>wpAny_bind (wpAny_standAt ?_)) fun _ _ z=>z));simp only [hp,hk,Bool.or_false];exact wpAny_bind (wpAny_pure (wpAny_bind (wpAny_mono h1 (fun r s2 hr=>wpAny_bind (wpAny_holding (wpAny_point (wpAny_pure hr)))) fun _ _ z=>z)))
end
inductive rM (K:PySem.W.Frag) (R:It->Hp->Prop) (vs:List V) (y:V) (H2:Hp):Prop
 | mk (l:Addr) (xs:List V) (c:Nat) (_:vs=[.ref l]) (_:y=.int (c:Int)) (_:c<2 ^ 62) (_:bf K H2 l xs) (_:R (Itf K l c) H2):rM K R vs y H2
def Xx (K:PySem.W.Frag) (ta:TA) (tb:TE):TI:=fun σ H R=>ta σ H fun vs H1=>tb σ H1 fun y H2=>rM K R vs y H2
theorem Nm {a b:Expr}{ta:TA}{kpos:Pos} (hg:Gl X "enumerate") (hm:X.mg "enumerate"=none) (ha:PA X [a] ta) (hb:PE X b tb) (hs:starEach [a] X.env=[(false,eval a X.env)]:=by rfl) :
  PI X (.Tuple elts x1 tp) (.Call (.Name "enumerate" p) [a] [⟨some (Str.ofString "start"),b,kpos⟩] pos) (Xx X.K ta tb):=by
 intro pins s σ H R I h;refine wpAny_Call_Name_kw (jy I hg hm nH (wQ (cB (ha pos pins s σ H _ I h) fun us s1 ⟨vs,H1,I1,r1,q1⟩=>cB (S8 hb WY pos pins s1 σ H1 (fun zs H2=>match zs with | [y]=>rM X.K R vs y H2 | _=>False) I1 q1) fun ws s2 ⟨zs,H2,I2,r2,q2⟩=>?_) (by rw [hs];rfl) (by rw [hs];rfl) (by rfl) (by rfl)))
 match zs,r2,q2 with
 | [y],r2,q2 =>
  obtain ⟨l,xs,c,rfl,rfl,hc,hq,q⟩:=q2;obtain ⟨u,rfl,ru⟩:=vals1 r1;cases ru;obtain ⟨w,rfl,Ja⟩:=vals1 r2;obtain ⟨tc,rfl⟩:=Ja;obtain ⟨its,rv,pl,_⟩:=I2.list hq
  show wpAny _ _ (call (.type "enumerate") [.ref l] [(stN,.int c tc)]) _ _ s2
  refine rK pl.isList (by
   unfold Builtin.SmallTypes.fitsIndex;rw [Bool.and_eq_true];exact ⟨decide_eq_true 0x1,decide_eq_true 0x1⟩) fun h' he hit hk=>wpAny_pyIter_enum he ?_
  have hne:s2.heap.objs.size+1≠s2.heap.objs.size:=Nat.succ_ne_self _;refine ⟨_,[s2.heap.objs.size+1,s2.heap.objs.size],_,_,H2,rfl,I2.kept (t':=s2.toks) hk,Jw hne,⟨⟨_,he⟩,hit⟩,fun b hb=>?_,q⟩;have hle:s2.heap.objs.size<=b:=by
   simp only [List.mem_cons,List.not_mem_nil,or_false] at hb;rcases hb with rfl | rfl <;> lia
  exact I2.tQ hle (I2.hok.fresh hle)
 | [],_,q2=>exact q2.elim
 | _::_::_,_,q2=>exact q2.elim
theorem CZ {c:Nat} (h:bf K H l xs) :
  (i<xs.length->(Itf K l c).go i H/\∀ v H',(Itf K l c).yN i H v H'->∃ p,v=.ref p/\H p=none/\H'=upd H p (.tup [.int ((c+i:Nat):Int),xs.getD i .non]))/\(xs.length<=i->(Itf K l c).stop i H):=by
 refine ⟨fun hi=>⟨⟨xs,xs[i],h,by simp [hi]⟩,fun v H' ⟨p,x,e1,e2,e3,e4⟩=>⟨p,e2,e3,?_⟩⟩,fun hi=>⟨xs,h,hi⟩⟩;rw [e4,iw,e1 xs h];rfl
inductive Np (xs:List V) (H:Hp) (Q:VK):Prop
 | mk (i j:Int) (_:xs=[.int i,.int j]) (_:∀ p,H p=none->Q (.ref p) (upd H p (.rng i j))):Np xs H Q
def rRng:List V->Hp->VK->Prop:=fun xs H Q=>Np xs H Q
theorem Nq:dF X (.type "range") rRng:=by
 intro pins s σ H xs us Q I r h;obtain ⟨i,j,rfl,q⟩:=h;obtain ⟨u,u',rfl,⟨t,rfl⟩,⟨t',rfl⟩⟩:=vals2 r;exact call_range_2 ⟨.ref s.heap.objs.size,_,I.laid (o:=.rng i j) (t':=s.toks+1) (fun b o e=>Heap.get?_push_of_some _ e) 0x6 ⟨t,t',s.toks,Heap.get?_push_size _ rfl⟩,rfl,q _ (I.hok.fresh 0x6)⟩
inductive zO (xs:List V) (H:Hp) (Q:VK):Prop
 | mk (a:Addr) (lo hi:Int) (_:xs=[.ref a]) (_:H a=some (.rng lo hi)) (_:-(2 ^ 62)<=lo) (_:lo<=hi) (_:hi<2 ^ 62) (_:hi - lo<=1000) (_:∀ p,H p=none->Q (.ref p) (upd H p (.lst ((List.range (hi - lo).toNat).map fun i=>V.int (lo+(i:Nat)))))):zO xs H Q
def Xy:List V->Hp->VK->Prop:=fun xs H Q=>zO xs H Q
theorem rN:∀ (n:Nat) (lo:Int) (us:List Value),us.length=n->(∀ (j:Nat) (v:Value),us[j]?=some v->∃ t,v=.int (lo+j) t)->Vals ((List.range n).map fun i=>V.int (lo+(i:Nat))) us
 | 0,_,[],_,_=>.nil
 | n+1,lo,us,hl,h=>by
  have hlt:n<us.length:=by lia
  have e:us=us.take n++[us[n]]:=by
   rw [List.take_append_getElem hlt,List.take_of_length_le 0x1]
  rw [List.range_succ,jO,e];refine Vals.append (rN n lo (us.take n) (by rw [List.length_take];lia) fun j v hj=>?_) ?_
  ·rw [List.getElem?_take] at hj
   split at hj
   ·exact h j v hj
   ·cases hj
  ·obtain ⟨t,ht⟩:=h n us[n] (dB hlt);exact .cons ⟨t,ht⟩ .nil
theorem Dc (hin:X.A.handled=none):dF X (.type "list") Xy:=by
 intro pins s σ H xs us Q I r h;obtain ⟨a,lo,hi,rfl,ha,l1,l2,l3,l4,q⟩:=h;obtain ⟨u,rfl,ru⟩:=vals1 r;cases ru;obtain ⟨t,t',t'',e⟩:=I.hok _ _ ha;refine call_list_range (n:=(hi - lo).toNat) hin e (small_one l1 0x1 0x1 l3) (by rw [rangeSize_one];split <;> lia) 0x1 fun h' tk acc c hk hS hI=>?_;have hv:=rN (hi - lo).toNat lo acc.toList (by rw [Array.length_toList];exact hI.1) fun j v hj=>by
  obtain ⟨t,ht⟩:=hI.2 j v (by simpa using hj);exact ⟨t,by rw [ht,Int.mul_one]⟩
 exact ⟨.ref s.heap.objs.size,_,I.laid (o:=.lst _) (t':=tk) hk 0x6 ⟨by rw [bL,List.length_range,sizeLine_eq];lia,acc.toList,c,hv,hS⟩,rfl,q _ (I.hok.fresh 0x6)⟩
def jF:V->Bool
 | .int _=>true
 | .str x=>PyData.strOk x
 | _=>false
def jG:V->PyData
 | .int i=>.int i
 | .str x=>.str x
 | _=>.none
theorem zP:∀ xs:List V,xs.all jF=true->cO H xs (xs.map jG)
 | [],_=>.nil
 | x::xs,h=>by
  rw [List.all_cons,Bool.and_eq_true] at h;refine .cons ?_ (zP xs h.2);cases x with
  | int i=>exact .int i
  | str z=>exact .str z
  | _=>cases h.1
theorem Nr {a b:V} (ha:jF a=true) (hb:jF b=true):PyData.eqv (jG a) (jG b)=decide (a=b):=by
 cases a with
 | int i =>
  cases b with
  | int j =>
   show (i==j)=decide (V.int i=V.int j)
   rw [Bool.eq_iff_iff];simp
  | str z=>exact (decide_eq_false (show ¬ V.int i=V.str z from fun e=>by cases e)).symm
  | _=>cases hb
 | str x =>
  cases b with
  | int j=>exact (decide_eq_false (show ¬ V.str x=V.int j from fun e=>by cases e)).symm
  | str z =>
   show (x==z)=decide (V.str x=V.str z)
   rw [Bool.eq_iff_iff];simp
  | _=>cases hb
 | _=>cases ha
theorem pH:∀ xs ys:List V,xs.all jF=true->ys.all jF=true->PyData.eqvAll (xs.map jG) (ys.map jG)=decide (xs=ys)
 | [],[],_,_=>rfl
 | [],_::_,_,_=>(decide_eq_false 0x28).symm
 | _::_,[],_,_=>(decide_eq_false 0x28).symm
 | x::xs,y::ys,hx,hy=>by
  rw [List.all_cons,Bool.and_eq_true] at hx hy
  show (PyData.eqv (jG x) (jG y)&&PyData.eqvAll (xs.map jG) (ys.map jG))=_
  rw [Nr hx.1 hy.1,pH xs ys hx.2 hy.2,Bool.eq_iff_iff];simp
theorem rO:∀ xs:List V,xs.all jF=true->PyData.canLayAll0 (xs.map jG)=true
 | [],_=>rfl
 | x::xs,h=>by
  rw [List.all_cons,Bool.and_eq_true] at h;rw [List.map_cons,PyData.canLayAll0,rO xs h.2];cases x with
  | int i=>rfl
  | str z =>
   show (PyData.strOk z&&true)=true
   rw [show PyData.strOk z=true from h.1];rfl
  | _=>cases h.1
theorem zQ:∀ xs:List V,PyData.depthAll (xs.map jG)<=1
 | []=>by decide
 | x::xs=>by
  rw [List.map_cons,PyData.depthAll];have:=zQ xs;have e:PyData.depth (jG x)<=1:=by cases x <;> exact Nat.le_of_ble_eq_true rfl
  lia
def bD (H:Hp):List Addr->List (List V)->Prop:=Paired fun a r=>H a=some (.tup r)
theorem lU:∀ {as:List Addr}{us:List Value},Vals (as.map V.ref) us->us=as.map Value.ref
 | [],_,r=>by cases r;rfl
 | a::as,_,r=>by
  rw [List.map_cons] at r;cases r with
  | cons r1 r2=>cases r1;rw [lU r2];rfl
inductive Nt (K:PySem.W.Frag) (x y:V) (H:Hp) (Q:VK):Prop
 | mk (p l:Addr) (as:List Addr) (r:List V) (rows:List (List V)) (_:x=.ref p) (_:y=.ref l) (_:bf K H l (as.map V.ref)) (_:H p=some (.tup r)) (_:r.all jF=true) (_:bD H as rows) (_:(∀ q∈rows,q.all jF=true)) (_:Q (.bl (rows.any fun q=>decide (q=r))) H):Nt K x y H Q
def rInR (K:PySem.W.Frag):R2:=fun x y H Q=>Nt K x y H Q
theorem any_rows:∀ {as:List Addr}{rows:List (List V)},bD H as rows->(as.map Value.ref).any (fun u=>match u with | .ref a=>(match H a with | some (.tup q)=>decide (q=r) | _=>false) | _=>false)=rows.any fun q=>decide (q=r)
 | _,_,.nil=>rfl
 | a::as,q::rows,.cons h t=>by
  rw [List.map_cons,List.any_cons,List.any_cons,any_rows t]
  show ((match H a with | some (.tup q)=>decide (q=r) | _=>false)||_)=_
  rw [h]
theorem zR:∀ {as:List Addr}{rows:List (List V)},bD H as rows->∀ a∈as,∃ q∈rows,H a=some (.tup q)
 | _,_,.nil,a,h=>nomatch h
 | _::_,q::_,.cons h t,a,ha=>by
  rcases List.mem_cons.mp ha with rfl | ha
  ·exact ⟨q,List.mem_cons_self,h⟩
  ·obtain ⟨q',m,e⟩:=zR t a ha;exact ⟨q',jw _ m,e⟩
theorem Xz (hu:X.A.units+64<cLine):jM X (compareOp .In) (rInR X.K):=by
 intro pins s σ H x y v u Q I rx ry h;obtain ⟨p,l,as,r,rows,rfl,rfl,hq,hp,hr,hR,hrs,q⟩:=h;cases rx;cases ry;obtain ⟨its,rv,pl,hz⟩:=I.list hq;have Nu:=lU rv;subst Nu;have read:∀ (a:Addr) (z:List V),H a=some (.tup z)->z.all jF=true->∃ bs,Reads s.heap (.ref a) (.tuple (z.map jG)) bs:=fun a z ha hz=>eV.reads I (.tup ha (zP z hz)) rfl;refine SeqAt.in_listAt (fun u=>match u with | .ref a=>(match H a with | some (.tup q)=>decide (q=r) | _=>false) | _=>false) pl.isList (fun w hw=>?_) ⟨.bl _,H,I,rfl,?_⟩
 ·have hw':w∈as.map Value.ref:=by simpa using hw
  obtain ⟨a,ha,rfl⟩:=List.mem_map.mp hw';obtain ⟨z,hz1,hz2⟩:=zR hR a ha;obtain ⟨bs,rb⟩:=read a z hz2 (hrs z hz1);obtain ⟨cs,rc⟩:=read p r hp hr;have g:=SeqAt.eqAt_reads (.tuple (z.map jG)) (.tuple (r.map jG)) X.A.in1 s _ _ bs cs rb rc (rO z (hrs z hz1)) (rO r hr) (by
   have h1:=zQ z;have h2:PyData.depth (.tuple (z.map jG))<=3:=by show PyData.depthAll (z.map jG)+1<=3;lia
   have h3:X.A.in1.units<=X.A.units+32:=by show X.A.units+1<=X.A.units+32;lia
   lia)
  have e:PyData.eqv (.tuple (z.map jG)) (.tuple (r.map jG))=decide (z=r):=pH z r (hrs z hz1) hr;rw [e] at g
  show SeqAt.EqAt _ _ _ _ (match H a with | some (.tup q)=>decide (q=r) | _=>false)
  rw [hz2];exact g
 ·have e:=any_rows (r:=r) hR;have e2:((as.map Value.ref).toArray.any fun u=>match u with | .ref a=>(match H a with | some (.tup q)=>decide (q=r) | _=>false) | _=>false)=rows.any fun q=>decide (q=r):=by rw [<- e];simp
  rw [e2];exact q
section
variable {a b:Expr}{ta:TA}
end
section
variable {a b:Expr}{op:Operator}
theorem XD (ha:PE X (.Subscript a b p) te) (hr:PA X es t):PA X (.Subscript a b p::es) (fD te t):=aj ha hr
theorem XF {c:Const} (ha:PE X (.Constant c j p) te) (hr:PA X es t):PA X (.Constant c j p::es) (fD te t):=aj ha hr
theorem rP:qd (.BinOp a op b p):=fun _ _=>rfl
structure WE (X:Cx) (e:Expr) (t:TE):Prop where
 h:PE X e t
structure WA (X:Cx) (es:List Expr) (t:TA):Prop where
 h:PA X es t
structure WO (X:Cx) (o:Option Expr) (t:_):Prop where
 h:PO X o t
structure WS (X:Cx) (st:Stmt) (t:TS):Prop where
 h:PS X st t
structure tM (X:Cx) (sts:List Stmt) (t:TS):Prop where
 h:yD X sts t
theorem tM.out {D:Ends} (w:∃ t,tM X sts t/\t D σ H):∃ t,yD X sts t/\t D σ H:=by
 obtain ⟨t,⟨h⟩,k⟩:=w;exact ⟨t,h,k⟩
theorem lu:WE X (.Constant (.str x) j p) (tC (.str x)):=⟨aD⟩
theorem cZ {i:Int}:WE X (.Constant (.int i) j p) (tC (.int i)):=⟨au⟩
theorem wv (i:Nat)  (hN:X.N[i]?=some x:=by rfl) (hv:Vis X.env.scope x:=by first | exact Or.inl rfl | exact Or.inr 0x5 | exact Or.inr (Or.inr rfl)) (hd:0x1E=false:=by decide)
  (hcd:(x==("__classdict__" : Str))=false:=by decide):WE X (.Name x p) (pP i):=⟨Kl hN hv hd hcd⟩
theorem lV:WO X none nA:=⟨fZ⟩
theorem lW (h:WE X e te):WO X (some e) (yR te):=⟨cR h.h⟩
theorem dZ:WA X [] oJ:=⟨ao⟩
theorem rQ {c:Const} (ha:WE X (.Constant c j p) te) (hr:WA X es t):WA X (.Constant c j p::es) (fD te t):=⟨XF ha.h hr.h⟩
theorem wR (ha:WE X (.Subscript a b p) te) (hr:WA X es t):WA X (.Subscript a b p::es) (fD te t):=⟨XD ha.h hr.h⟩
theorem wU (ha:WE X (.Name x p) te) (hr:WA X es t):WA X (.Name x p::es) (fD te t):=⟨aj ha.h hr.h⟩
theorem jg (h:WA X es t):WE X (.List es p) (WX t):=⟨cL h.h⟩
theorem fJ {r:R2} (ho:jM X (binaryOp op) r) (ha:WE X a ta) (hb:WE X b tb):WE X (.BinOp a op b p) (Rt r ta tb):=⟨aQ ho ha.h hb.h⟩
theorem lA {r:R2} (hr:Vm X r) (ha:WE X a ta) (hb:WE X b tb) (hs:qd b):WE X (.Subscript a b p) (Rt r ta tb):=⟨aK hr ha.h hb.h hs⟩
theorem aR {c:Const}:qd (.Constant c j p):=fun _ _=>rfl
theorem uQ {lo hi:Option Expr}{tl th:_}{r:V->Option Int->Option Int->Hp->VK->Prop} (hr:SlR X r) (he:WE X e te) (hl:WO X lo tl) (hu:WO X hi th):WE X (.Subscript e (.Slice lo hi none q) p) (tSl r te tl th):=⟨cT hr he.h hl.h hu.h⟩
theorem wV (hg:Gl X "len") (hm:X.mg "len"=none) (ha:WE X (.Name x p2) te):WE X (.Call (.Name "len" p) [.Name x p2] [] q) (tCB (fun xs H Q=>∃ p ys,xs=[.ref p]/\(bf X.K H p ys\/bF X.K H p ys)/\Q (.int ys.length) H) (fD te oJ)) :=
 ⟨aP bQ hg hm PySem.boot_len (aj ha.h ao)⟩
theorem cg (hN:X.N.Nodup) (hi:X.N[i]?=some x) (hx:Loc X.env.scope x) (he:WE X e te) (hs:swapsWith e (some (.Name x pos')) pos.line X.env=pure false:=by rfl) (hf:X.fn x=true\/X.env.scope.names.lookup x=some .local:=by first | exact .inl rfl | exact .inr rfl) :
  WS X (.Assign [.Name x pos'] e pos) (BL te (mZ i)):=⟨bU hN hi hx he.h hs hf⟩
theorem bH (he:WE X e te):WS X (.Return (some e) p) (Ks te):=⟨bG he.h⟩
theorem bI:tM X [] Kr:=⟨bK⟩
theorem aV {st:Stmt} (h:WS X st ts):tM X [st] ts:=⟨aJ h.h⟩
theorem aG {st:Stmt}{us:TS} (h:WS X st ts) (r:tM X sts us):tM X (st::sts) (IK ts us):=⟨aC h.h r.h⟩
end
structure WG (X:Cx) (tg:Expr) (g:TG):Prop where
 h:PG X tg g
section
variable {a b c:Expr}{op:Operator}{ti:TE}
theorem rR (ha:WE X (.BinOp a op b p) te) (hr:WA X es t):WA X (.BinOp a op b p::es) (fD te t):=⟨aj ha.h hr.h⟩
theorem oO (h:WA X es t):WE X (.Tuple es x1 p) (S6 t):=⟨cJ h.h⟩
theorem Nv (ha:WE X a ta):WE X (.UnaryOp .USub a p) (tUn (rU fun i=>.int (-i)) ta):=⟨Ft vZ ha.h⟩
end
theorem rT {g:TG}{tb:TS} (hp:PassesOwn 0x7 X.A X.env X.xe) (hc:X.calm=true) (hi:PI X tg iter wi) (hg:PG X tg g) (hb:tM X body tb)
  (hs:∀ x,foldedSetIterable iter X.env x=pure x:=by intro _;rfl):WS X (.For tg iter body [] pos) (tFor wi g tb):=⟨iy hp hc hi hg hb.h hs⟩
theorem cM {c:Expr}{a b:List Stmt}{tc:TT}{t u:TS} (hc:PT X c tc) (ha:tM X a t) (hb:tM X b u):WS X (.If c a b pos) (vX tc t u):=⟨cH hc ha.h hb.h⟩
end L2
namespace M
open PySem L2
def top (i:Nat):Stmt:=PySem.Challenge.pw_manrent_k47_twins_of_rolls.main.body.getD i (.Pass ⟨0,0,0,0⟩)
abbrev Nx:Stmt:=top 16
abbrev Df:Stmt:=top 17
abbrev Ny:Stmt:=top 18
abbrev Nz:Stmt:=top 19
abbrev XH:Stmt:=top 30
abbrev XJ:Stmt:=top 52
abbrev Dg:Stmt:=top 56
abbrev NK:Stmt:=top 58
abbrev zT:Stmt:=top 59
abbrev wW:Stmt:=top 60
abbrev Dh:Stmt:=top 61
abbrev nT:Stmt:=top 62
abbrev wX:Stmt:=top 63
abbrev NP:Stmt:=top 64
abbrev Tg:Stmt:=top 65
abbrev XM:Stmt:=top 66
abbrev NQ:Stmt:=top 67
abbrev zU:Stmt:=top 68
abbrev zV:Stmt:=top 69
abbrev rW:Stmt:=top 70
abbrev GJ:Stmt:=top 71
abbrev Di:Stmt:=top 72
abbrev XQ:Stmt:=top 73
abbrev GK:Stmt:=top 74
abbrev XR:Stmt:=top 75
abbrev Dj:Stmt:=top 76
abbrev NT:Stmt:=top 77
abbrev wY:Stmt:=top 78
abbrev Dk:Stmt:=inClass (top 55) 0
abbrev Dl:Stmt:=inClass (top 55) 1
abbrev Dm:Stmt:=inClass (top 55) 2
abbrev NZ:Stmt:=inClass (top 55) 3
abbrev O1:Stmt:=inClass (top 55) 4
abbrev Dn:Stmt:=inClass (top 55) 5
abbrev oR:Stmt:=inClass (top 55) 6
abbrev wZ:Stmt:=inClass (top 55) 7
abbrev rY:Stmt:=inClass (top 55) 8
abbrev O4:Stmt:=inClass (top 55) 9
abbrev Dp:Stmt:=inClass (top 55) 10
abbrev O5:Stmt:=inClass (top 55) 13
abbrev Dr:Stmt:=inClass (top 55) 14
abbrev xg:Stmt:=inClass (top 55) 15
theorem aq {p:Addr} (h:H p=none) (o:HO):Same H (upd H p o):=fun b u q=>by rw [aA (aM q h)];exact q
theorem aW {o:HO} (s:Same H H2) (h:H l=none):Same H (upd H2 l o):=fun b u q=>by rw [aA (aM q h)];exact s b u q
theorem small (h:n<=1000000):n<=sizeLine:=Nat.le_trans h 0x8
theorem bY (h:n<1000000):n<sizeLine:=Nat.lt_of_lt_of_le h 0x8
def Ka (v:Int):Prop:=0<=v/\v<1000003
theorem Ds {fs:List Int}{v:Int} (h:∀ x∈fs,Ka x) (hv:Ka v):∀ x∈fs++[v],Ka x:=fun x hx=>by
 rcases List.mem_append.mp hx with z | z
 ·exact h x z
 ·rw [List.mem_singleton.mp z];exact hv
theorem xq (fs:List Int) (v:Int):fs.map V.int++[V.int v]=(fs++[v]).map V.int:=by simp
inductive zW (K:PySem.W.Frag) (vs:List V) (H:Hp) (Q:VK):Prop
 | mk (a:Addr) (ns:List Int) (many:Int) (_:vs=[.ref a,.int many]) (_:bf K H a (ns.map V.int)) (_:ns.length<=63) (_:0<=many) (_:many<=100000) (_:∀ (r:Addr) (H':Hp) (fs:List Int),Same H H'->H r=none->H' r=some (.lst (fs.map V.int))->(fs.length:Int)=many->(∀ v∈fs,Ka v)->Q (.ref r) H'):zW K vs H Q
def O6 (K:PySem.W.Frag):Sp:=fun vs H Q _=>zW K vs H Q
theorem jh {t u:TS}{D:Ends} (h:∀ N:Ends,N.rt=D.rt->(∀ σ H,u D σ H->N.nx σ H)->t N σ H):IK t u D σ H:=h _ rfl fun _ _=>id
theorem a0w {a b:TS}{D:Ends} (W:L2.St->Hp->Prop) (h2:∀ σ' H',W σ' H'->b D σ' H') (h1:∀ N:Ends,(∀ σ' H',W σ' H'->N.nx σ' H')->a N σ H):IK a b D σ H:=h1 _ h2
section
variable {f:Addr}
theorem ji:aY ["_law_script", "_law_many", "_law_feed_here", "_law_salt", "_law_cell", "_law_rest", "_law_k"] ["_law_script", "_law_many"] (aH NK):=0x0
theorem Ti (F:gQ K "_law_feed" "_law_feed" NK f fd) (mr:mg "range"=none) (ml:mg "len"=none):aX P w K mg base cU 1 f fd ["_law_script", "_law_many"] (O6 K):=by
 refine F.ok ji 0xA 0x3
 ·obtain ⟨a,ns,many,rfl,_⟩:=h;rfl
 obtain ⟨a,ns,many,rfl,hS,h63,hm0,hm1,k⟩:=h;refine ⟨_,aC (bU (i:=2) ji.nd rfl 0x5 (cL ao))
  (aC (bU (i:=3) ji.nd rfl 0x5 au)
  (aC (iy PassesOwn.never rfl (fX (cT nD 0x10 fZ (cR au))) (aO (i:=4) ji.nd rfl 0x5)
   (aC (bU (i:=3) ji.nd rfl 0x5 (aQ bO (aQ bZ (aQ bZ (aQ gH (pv 3) au) (aQ bO (pv 4) au)) au) au))
   (aC (bU (i:=5) ji.nd rfl 0x5 (aQ BW (pv 4) (aQ WT au au)))
   (aC (cH (aN a0i (pv 5) au (aZ _))
     (aJ (bW (gw PySem.F.plainAttrs_list PySem.F.slot_list_append PySem.F.type_list_append c7 (pv 2) (aj (aQ bO (pv 4) au) ao)))) bK)
   (aJ (iy PassesOwn.never rfl (dh rfl mr (aj au ao)) (aO (i:=6) ji.nd rfl 0x5)
    (aJ (cH (aN a0j (pv 5) au (aZ _))
     (aC (bW (gw PySem.F.plainAttrs_list PySem.F.slot_list_append PySem.F.type_list_append c7 (pv 2) (aj (aQ bO (pv 5) au) ao)))
     (aJ (bU (i:=5) ji.nd rfl 0x5 (aQ pZ (pv 5) au)))) bK))))))))
  (aC (iy PassesOwn.never rfl (dh rfl mr (aj (aQ BW (pv 1) (aP bQ rfl ml PySem.boot_len (aj (pv 2) ao))) ao)) (aO (i:=6) ji.nd rfl 0x5)
   (aC (bU (i:=3) ji.nd rfl 0x5 (aQ bO (aQ bZ (aQ bZ (aQ bZ (aQ gH (aQ gH (pv 3) (pv 3)) (pv 3)) (aQ gH au (pv 3))) (aQ gH au (pv 6))) au) au))
   (aJ (bW (gw PySem.F.plainAttrs_list PySem.F.slot_list_append PySem.F.type_list_append c7 (pv 2) (aj (aQ bO (aQ pZ (pv 3) au) au) ao))))))
  (aJ (bG (cT nD (pv 2) fZ (cR (pv 1)))))))),?_⟩
 refine jh fun N _ hN=>⟨small 0x4,fun l hl=>hN _ _ ?_⟩;refine jh fun N _ hN=>hN _ _ ?_;have s1:Same H (upd H l (.lst [])):=aq hl _;refine jh fun N _ hN=>⟨_,rfl,_,rfl,a,_,rfl,s1.seq hS,fun p hp=>?_⟩;have npl:p≠l:=fun e=>by rw [e,ak] at hp;cases hp
 have hp0:H p=none:=by rw [aA npl] at hp;exact hp
 refine ⟨p,rfl,⟨_,bf.of ak⟩,qM (K:=K) (a:=p) (xs:=dj (ns.map V.int) none (some 63)) (fun i σ H2=>∃ (fs:List Int) (salt:Int) (c r k:Option V),σ=[some (.ref a),some (.int many),some (.ref l),some (.int salt),c,r,k]/\Same H H2 /\
   H2 p=some (.lst (dj (ns.map V.int) none (some 63)))/\H2 l=some (.lst (fs.map V.int))/\fs.length<=61 * i/\(∀ v∈fs,Ka v)/\0<=salt/\salt<2147483647)
  ⟨[],29,none,none,none,rfl,aW s1 hp0,ak,by rw [aA (Ne.symm npl),ak];rfl,Nat.zero_le _,(fun v hv=>nomatch hv),by decide,by decide⟩ (fun i σ H2 _ ⟨_,_,_,_,_,_,_,hq,_⟩=>bf.of hq) ?_ ?_⟩
 ·rintro i y σ H2 hi ⟨fs,salt,c,r,kk,rfl,s2,hq,hL,hlen,hok,z0,z1⟩;have hil:i<(dj (ns.map V.int) none (some 63)).length:=(List.getElem?_eq_some_iff.mp hi).1;have hcl:=iT (ns.map V.int) none (some 63);rw [bL] at hcl;obtain ⟨cell,rfl⟩:∃ z,y=V.int z:=by
   have hm:y∈dj (ns.map V.int) none (some 63):=jL hi;have hm2:y∈ns.map V.int:=List.mem_of_mem_drop (List.mem_of_mem_take hm);obtain ⟨z,_,rfl⟩:=List.mem_map.mp hm2;exact ⟨z,rfl⟩
  refine jh fun N _ hN=>⟨_,rfl,_,_,rfl,rfl,.inl ⟨by lia,by lia⟩,_,rfl,_,_,rfl,rfl,(by show (0:Int)<2147483629;decide),_,_,rfl,rfl,_,_,rfl,rfl,_,_,rfl,rfl,(by show (0:Int)<2147483647;decide),hN _ _ ?_⟩
  refine jh fun N _ hN=>⟨_,rfl,_,_,rfl,rfl,⟨by decide,by decide,by decide⟩,_,_,rfl,rfl,hN _ _ ?_⟩;have z0':0<=(salt * 69621+cell % 2147483629+11) % 2147483647:=Int.emod_nonneg _ 0x8;have z1':(salt * 69621+cell % 2147483629+11) % 2147483647<2147483647:=Int.emod_lt_of_pos _ 0x8;obtain ⟨W,hW⟩:∃ W:L2.St->Hp->Prop,∀ s h,W s h↔∃ gs:List Int,s=[some (.ref a),some (.int many),some (.ref l),some (.int ((salt * 69621+cell % 2147483629+11) % 2147483647)),some (.int cell),some (.int (cell - 10 ^ 18)),kk]/\Same H h/\h p=some (.lst (dj (ns.map V.int) none (some 63)))/\h l=some (.lst (gs.map V.int))/\gs.length<=61 * i+1/\∀ v∈gs,Ka v:=⟨_,fun _ _=>Iff.rfl⟩;refine a0w W (fun σ3 H3 h3=>?_) fun N hN=>?_
  ·obtain ⟨gs,rfl,s3,hq3,hL3,hg1,hg2⟩:=(hW _ _).mp h3;refine ⟨60,rfl,by decide,by decide,gW (lo:=0) (n:=60) (fun j σ H4=>∃ (hs:List Int) (rest zX:Int) (k:Option V),σ=[some (.ref a),some (.int many),some (.ref l),some (.int zX),some (.int cell),some (.int rest),k]/\0<=zX/\zX<2147483647/\Same H H4 /\
    H4 p=some (.lst (dj (ns.map V.int) none (some 63)))/\H4 l=some (.lst (hs.map V.int))/\hs.length<=61 * i+1+j/\(∀ v∈hs,Ka v)) ⟨gs,_,_,kk,rfl,z0',z1',s3,hq3,hL3,hg1,hg2⟩ ?_ ?_⟩
   ·rintro j σ H4 hj ⟨hs,rest,zX,k',rfl,x0,x1,s4,Vy,Rx,hh1,Vz⟩;refine ⟨_,rfl,_,_,rfl,rfl,_,rfl,?_⟩;refine je (fun c=>?_) (fun c=>?_)
    ·refine jh fun N _ hN=>⟨_,rfl,.inl ⟨rfl,_,bf.of Rx⟩,_,rfl,_,_,rfl,rfl,(by show (0:Int)<1009;decide),l,_,_,rfl,rfl,Rx,(by rw [bL];exact bY 0x1),hN _ _ ?_⟩
     refine ⟨_,rfl,_,_,rfl,rfl,⟨by decide,by decide⟩,?_⟩;exact ⟨hs++[rest % 1009],_,_,_,rfl,x0,x1,aW s4 hl,by rw [aA npl];exact Vy,by rw [ak,xq],by rw [jj,List.length_singleton];lia,
      Ds Vz ⟨Int.emod_nonneg _ 0x8,by have:=Int.emod_lt_of_pos rest (show (0:Int)<1009 by decide);lia⟩⟩
    ·exact ⟨hs,_,_,_,rfl,x0,x1,s4,Vy,Rx,by lia,Vz⟩
   ·rintro σ H4 ⟨hs,rest,zX,k',rfl,x0,x1,s4,Vy,Rx,hh1,Vz⟩;exact ⟨hs,_,_,_,_,rfl,s4,Vy,Rx,by lia,Vz,x0,x1⟩
  refine ⟨_,rfl,_,_,rfl,rfl,_,rfl,?_⟩;refine je (fun c=>?_) (fun c=>?_)
  ·refine ⟨_,rfl,.inl ⟨rfl,_,bf.of hL⟩,_,rfl,_,_,rfl,rfl,(by show (0:Int)<1000003;decide),l,_,_,rfl,rfl,hL,(by rw [bL];exact bY 0x1),?_⟩
   exact hN _ _ ((hW _ _).mpr ⟨fs++[cell % 1000003],rfl,aW s2 hl,by rw [aA npl];exact hq,by rw [ak,xq],by rw [jj,List.length_singleton];lia,Ds hok ⟨Int.emod_nonneg _ 0x8,Int.emod_lt_of_pos _ 0x8⟩⟩)
  ·exact hN _ _ ((hW _ _).mpr ⟨fs,rfl,s2,hq,hL,by lia,hok⟩)
 ·rintro σ H2 ⟨fs,salt,c,r,kk,rfl,s2,hq,hL,hlen,hok,z0,z1⟩;refine hN _ _ ?_;have hcl:=iT (ns.map V.int) none (some 63);rw [bL] at hcl;refine jh fun N _ hN=>⟨_,rfl,_,rfl,l,_,rfl,.inl (bf.of hL),_,_,rfl,rfl,many - (fs.length:Int),(by rw [bL]),by lia,by lia,?_⟩;refine gW (lo:=0) (n:=(many - (fs.length:Int)).toNat) (fun j σ H4=>∃ (hs:List Int) (salt:Int) (k:Option V),σ=[some (.ref a),some (.int many),some (.ref l),some (.int salt),c,r,k]/\Same H H4 /\
    H4 l=some (.lst (hs.map V.int))/\hs.length=fs.length+j/\(∀ v∈hs,Ka v)/\0<=salt/\salt<2147483647) ⟨fs,salt,kk,rfl,s2,hL,rfl,hok,z0,z1⟩ ?_ ?_
  ·rintro j σ H4 hj ⟨hs,salt,k',rfl,s4,Rx,hh1,Vz,y0,y1⟩;refine jh fun N _ hN=>⟨_,rfl,_,rfl,_,_,rfl,rfl,.inl ⟨by lia,by lia⟩,_,rfl,_,_,rfl,rfl,.inr ⟨by lia,by lia⟩,_,rfl,_,_,rfl,rfl,.inl ⟨by decide,by decide⟩,_,_,rfl,rfl,_,rfl,_,_,rfl,rfl,.inl ⟨by decide,by decide⟩,_,_,rfl,rfl,_,_,rfl,rfl,_,_,rfl,rfl,(by show (0:Int)<2147483629;decide),hN _ _ ?_⟩
   refine ⟨_,rfl,.inl ⟨rfl,_,bf.of Rx⟩,_,rfl,_,_,rfl,rfl,⟨by decide,by decide⟩,_,_,rfl,rfl,(by show (0:Int)<1009;decide),l,_,_,rfl,rfl,Rx,(by rw [bL];exact bY 0x1),?_⟩
   refine ⟨hs++[_],_,_,rfl,aW s4 hl,by rw [ak,xq],by rw [jj,List.length_singleton];lia,Ds Vz ⟨Int.emod_nonneg _ 0x8,?_⟩,Int.emod_nonneg _ 0x8,?_⟩
   ·have:=Int.emod_lt_of_pos ((salt * salt * salt+48271 * salt+13 * (0+(j:Int))+5) % 2147483629 / 1013) (show (0:Int)<1009 by decide)
    lia
   ·have:=Int.emod_lt_of_pos (salt * salt * salt+48271 * salt+13 * (0+(j:Int))+5) (show (0:Int)<2147483629 by decide)
    lia
  ·rintro σ H4 ⟨hs,salt,k',rfl,s4,Rx,hh1,Vz,y0,y1⟩;refine hN _ _ ?_;refine ⟨_,rfl,_,rfl,many,rfl,l,_,rfl,bf.of Rx,fun q hq'=>?_⟩;have hcut:dj (hs.map V.int) none (some many)=(hs.take many.toNat).map V.int:=by
    unfold dj;have e1:HT.cX (hs.map V.int).length 0 none=0:=rfl;have e2:HT.cX (hs.map V.int).length (hs.map V.int).length (some many)=min many.toNat (hs.map V.int).length:=by
     have em:many=((many.toNat:Nat):Int):=by lia
     generalize many.toNat=mm at em ⊢;rw [em,HT.fG]
    rw [e1,e2,List.drop_zero,List.map_take,Nat.sub_zero,bL];rw [List.take_eq_take_iff,bL];lia
   refine k q _ (hs.take many.toNat) (aW s4 (s4.free hq')) (s4.free hq') (by rw [ak,hcut]) ?_ fun v hv=>Vz v (List.mem_of_mem_take hv);rw [List.length_take];lia
theorem a0x (a b:Nat):decide ((dW [a]).cps.toList<[b])=decide (a<b):=by
 simp [List.cons_lt_cons_iff]
theorem a0y (a b:Nat):decide ([b]<(dW [a]).cps.toList)=decide (b<a):=by
 simp [List.cons_lt_cons_iff]
def az:Str:="abcdefghijklmnopqrstuvwxyz"
def low (c:Nat):Bool:=decide (97<=c)&&decide (c<=122)
theorem XS:∀ c:_root_.Fin 128,(!(Builtin.Str.occurrences az (dW [c.val]) 0 az.length 1).isEmpty)=low c.val:=by decide +kernel
theorem a0z {c:Nat} (h:c<128):(!(Builtin.Str.occurrences az (dW [c]) 0 az.length 1).isEmpty)=low c:=XS ⟨c,h⟩
def nameB (l:List Nat):Bool:=l.all low&&(decide (1<=l.length)&&decide (l.length<=8))
structure Ms (K:PySem.W.Frag) (mg:Str->Option Value) (x:Str) (g:Addr) (gd:FuncData) (ps:List Str):Prop where
 b:Binds K gd ps []
 k:PySem.W.keepIn K (.ref g)=true
 m:mg x=some (.ref g)
theorem gk {α:Type}{xs:List α}{i:Int} (h0:0<=i) (h1:i<xs.length):∃ v,lK xs i=some v/\v∈xs:=by
 have hi:i.toNat<xs.length:=by lia
 have e:i=((i.toNat:Nat):Int):=by lia
 refine ⟨xs[i.toNat],?_,List.getElem_mem hi⟩;have q:lK xs ((i.toNat:Nat):Int)=some xs[i.toNat]:=bh (by simp [hi]);rw [<- e] at q;exact q
theorem Dt (cs:List Nat):(Txt.join (Str.ofString "") (cs.map fun c=>dW [c]))=dW cs:=by
 have e:(Str.ofString "").cps=#[]:=by decide +kernel
 have fo:∀ (ds:List Nat) (acc:Array Nat),(ds.map fun c=>dW [c]).foldl (fun acc p=>acc++(Str.ofString "").cps++p.cps) acc=acc++ds.toArray:=by
  intro ds
  induction ds with
  | nil=>intro acc;simp
  | cons d r ih =>
   intro acc;rw [List.map_cons,List.foldl_cons,ih,e];simp
 show Builtin.Str.glued (Str.ofString "") (cs.map fun c=>dW [c])=_
 cases cs with
 | nil=>rfl
 | cons c r =>
  unfold Builtin.Str.glued;rw [List.map_cons,List.drop_one,List.tail_cons,fo,List.headD_cons];simp [dW]
theorem Tj {cs:List Nat} (h:cs.length<=1000):JoinOk (Str.ofString "") (cs.map fun c=>dW [c])=true:=by
 have e:(Str.ofString "").length=0:=by decide +kernel
 have fo:∀ (ds:List Nat) (n:Nat),(ds.map fun c=>dW [c]).foldl (fun a p=>a+p.length+(Str.ofString "").length) n=n+ds.length:=by
  intro ds
  induction ds with
  | nil=>intro n;simp
  | cons d r ih =>
   intro n;rw [List.map_cons,List.foldl_cons,ih,e,gb];simp;lia
 unfold JoinOk;rw [List.foldl_toArray',fo]
 ·unfold Builtin.Str.tooLong;have:=small (n:=cs.length) 0x1;simp;lia
 ·rfl
theorem app_list (x y:Str):(x++y).cps.toList=x.cps.toList++y.cps.toList:=by
 show (x.cps++y.cps).toList=_
 simp
theorem Tp (x y:Str):(x++y).length=x.length+y.length:=by
 have e:∀ z:Str,z.length=z.cps.toList.length:=fun z=>by simp [Str.length]
 rw [e,e,e,app_list,jj]
theorem iD {fs:List Int} (h:∀ v∈fs,Ka v) {i:Int} (h0:0<=i) (h1:i<fs.length):∃ v:Int,lK (fs.map V.int) i=some (.int v)/\Ka v:=by
 obtain ⟨x,e,m⟩:=gk (xs:=fs.map V.int) h0 (by rw [bL];exact h1);obtain ⟨v,hv,rfl⟩:=List.mem_map.mp m;exact ⟨v,e,h v hv⟩
inductive zY (vs:List V) (H:Hp) (Q:VK):Prop
 | mk (z:Str) (_:vs=[.str z]) (_:z.length<=1000) (_:Q (.bl (nameB z.cps.toList)) H):zY vs H Q
def O7:Sp:=fun vs H Q _=>zY vs H Q
theorem O8:aY ["text", "sign"] ["text"] (aH Nx):=0x0
theorem Tq (F:gQ K "is_name" "is_name" Nx f fd) {tL:Tok} (mL:mg "LONGEST_NAME"=some (.int 8 tL)) (ml:mg "len"=none):aX P w K mg base cU 1 f fd ["text"] O7:=by
 refine F.ok O8 0xA 0x3
 ·obtain ⟨z,rfl,_⟩:=h;rfl
 obtain ⟨z,rfl,hz,k⟩:=h;refine ⟨_,aC (iy PassesOwn.never rfl (Mi 0x10) (aO (i:=1) O8.nd rfl 0x5)
   (aJ (cH (ud (aN IW (pv 1) aD (aZ _)) (oE (aN Je (pv 1) aD (aZ _)))).pt (aJ (bG dU)) bK)))
  (aJ (bG (qN pB pB au (aP gO rfl ml PySem.boot_len (aj 0x10 ao)) (dM rfl mL ⟨_,rfl⟩ (v:=.int 8))))),?_⟩
 refine ⟨_,rfl,z,rfl,Sx (x:=z) (fun i σ H2=>(∃ v,σ=[some (.str z),v])/\H2=H/\(z.cps.toList.take i).all low=true) ⟨⟨none,rfl⟩,rfl,by simp⟩ ?_ ?_⟩
 ·rintro i c σ H2 hc ⟨⟨v,rfl⟩,rfl,ha⟩;have K7:z.cps.toList.all low=true->low c=true:=fun h=>List.all_eq_true.mp h c (jL hc);have e1:decide ((dW [c]).cps.toList<(("a" : Str)).cps.toList)=decide (c<97):=a0x c 97;have e2:decide ((("z" : Str)).cps.toList<(dW [c]).cps.toList)=decide (122<c):=a0y c 122;have no:low c=false->nameB z.cps.toList=false:=fun h=>by
   unfold nameB;cases q:z.cps.toList.all low with
   | false=>rfl
   | true=>rw [K7 q] at h;cases h
  refine ⟨_,rfl,_,_,rfl,rfl,_,rfl,?_⟩;rw [e1];refine je (fun h=>?_) (fun h=>?_)
  ·have h1:=u9 h;refine bR ?_;have:low c=false:=by simp [low];lia
   show Q (.bl false) H2
   rw [<- no this];exact k
  ·have h1:=of_decide_eq_false (Bool.eq_false_iff.mpr h);refine ⟨_,rfl,_,_,rfl,rfl,_,rfl,?_⟩;rw [e2];refine je (fun h=>?_) (fun h=>?_)
   ·have h1:=u9 h;have:low c=false:=by simp [low];lia
    show Q (.bl false) H2
    rw [<- no this];exact k
   ·have h2:=of_decide_eq_false (Bool.eq_false_iff.mpr h);refine ⟨⟨_,rfl⟩,rfl,?_⟩;rw [List.take_add_one,hc,List.all_append,ha];simp [low];lia
 ·rintro σ H2 ⟨⟨v,rfl⟩,rfl,ha⟩;rw [List.take_length] at ha;refine ⟨_,rfl,z,rfl,small 0x1,_,_,rfl,rfl,_,rfl,?_⟩;have hl:z.length=z.cps.toList.length:=by simp [Str.length]
  refine je (fun h=>?_) (fun h=>?_)
  ·have h1:=u9 h;refine ⟨_,_,rfl,rfl,?_⟩;have e:nameB z.cps.toList=decide ((z.length:Int)<=8):=by
    unfold nameB;rw [ha,hl,decide_eq_true (show 1<=z.cps.toList.length by lia),Bool.true_and,Bool.true_and]
    exact decide_eq_decide.mpr 0x1
   show Q (.bl (decide ((z.length:Int)<=8))) H2
   rw [<- e];exact k
  ·have h1:=of_decide_eq_false (Bool.eq_false_iff.mpr h);have e:nameB z.cps.toList=false:=by
    unfold nameB;rw [decide_eq_false (show ¬ 1<=z.cps.toList.length by lia)]
    simp
   show Q (.bl false) H2
   rw [<- e];exact k
def cW.code:cW->Nat
 | .d=>100 | .n=>110 | .c=>99 | .a=>97 | .s=>115 | .b=>115 | .e=>115
def cW.word:cW->Str
 | .d=>"day" | .n=>"name" | .c=>"name or crown" | .a=>"acres" | .s=>"service" | .b=>"bears" | .e=>"entry"
def cW.num:cW->Bool
 | .d=>true | .n=>false | .c=>false | .a=>true | .s=>true | .b=>true | .e=>true
def cW.row:cW->Bool
 | .b=>false | .e=>false | _=>true
def forms:List (Str×List cW):=[("heir",[.d,.n,.n]),("grant",[.d,.c,.n,.n,.a,.s]),("part",[.d,.n,.n,.n,.a]),("convey",[.d,.n,.n]),("liege",[.d,.n,.c]),("surrender",[.d,.n]),("death",[.d,.n])]
def form (k:Str):Option (List cW):=forms.lookup k
def qt (l:List cW):Str:=dW (l.map cW.code)
def isI:V->Bool
 | .int _=>true
 | _=>false
def Ry (B:Nat) (v:V):Prop:=(∃ n,v=.int n)\/∃ z:Str,v=.str z/\z.length<=B/\∀ c∈z.cps.toList,c<128
def jm:cW->V->Bool
 | .d,.int n=>decide (0<=n)&&decide (n<=9999)
 | .s,.int n=>decide (0<=n)&&decide (n<=9999)
 | .a,.int n=>decide (1<=n)&&decide (n<=9999)
 | .b,.int n=>decide (0<=n)&&decide (n<=99)
 | .e,.int n=>decide (1<=n)&&decide (n<=999999)
 | .n,.str z=>nameB z.cps.toList
 | .c,.str z=>decide (z="")||nameB z.cps.toList
 | _,_=>false
def pI (l:List cW) (rest:List V):Prop:=∀ (i:Nat) (s:cW) (v:V),l[i]?=some s->rest[i]?=some v->isI v=s.num
def two (k:Str):Bool:=decide (k="heir")||decide (k="liege")
def mV (p:cW×V):Bool:=jm p.1 p.2
def pJ (k:Str) (rest:List V):Bool:=match form k with
 | none=>false
 | some l=>decide (rest.length=l.length)&&0x2D
def wm:List V->Bool
 | .str k::rest=>pJ k rest
 | _=>false
structure Row (B:Nat) (k:Str) (rest:List V):Prop where
 len:rest.length<=9
 ok:∀ v∈rest,Ry B v
 kept:∀ l,form k=some l->pI l rest
def O9 (xs:List V) (_:Hp):Prop:=∃ k rest,xs=.str k::rest/\Row 1000 k rest
theorem dH {k:Str}{l:List cW} (h:form k=some l):(k,l)∈forms:=by
 unfold form at h
 revert h
 generalize forms=fs
 induction fs with
 | nil=>intro h;cases h
 | cons p r ih =>
  obtain ⟨k',l'⟩:=p;intro h;rw [List.lookup_cons] at h
  by_cases e:k=k'
  ·subst e;simp at h;subst h;exact List.mem_cons_self
  ·have e':(k==k')=false:=by simpa using e
   rw [e'] at h;exact jw _ (ih h)
theorem nU {k:Str}{l:List cW} (h:form k=some l):2<=l.length/\l.length<=6:=(show ∀ p∈forms,2<=p.2.length/\p.2.length<=6 by decide) _ (dH h)
theorem zZ {k:Str}{l:List cW} (h:form k=some l) {s:cW} (e:l[i]?=some s):s.row=true:=by
 have h0:∀ p∈forms,p.2.all cW.row=true:=by decide
 exact List.all_eq_true.mp (h0 _ (dH h)) s (jL e)
def xr:Option cW->Bool
 | some s=>!s.num
 | none=>true
theorem rZ {k:Str}{l:List cW} (h:form k=some l) (h2:two k=true):l.length=3/\(∀ s,l[1]?=some s->s.num=false)/\∀ s,l[2]?=some s->s.num=false:=by
 have h0:(k,l)∈forms:=dH h;have:∀ p∈forms,two p.1=true->p.2.length=3/\xr p.2[1]?=true/\xr p.2[2]?=true:=by decide
 obtain ⟨a,b,c⟩:=this _ h0 h2;refine ⟨a,fun s e=>?_,fun s e=>?_⟩
 ·simp only at b;rw [e] at b;simpa [xr] using b
 ·simp only at c;rw [e] at c;simpa [xr] using c
theorem cut1 (v:V) (rest:List V):dj (v::rest) (some 1) none=rest:=by
 unfold dj;have e1:HT.cX (v::rest).length 0 (some 1)=1:=by
  rw [show (1:Int)=((1:Nat):Int) by rfl,HT.fG]
  simp
 have e2:HT.cX (v::rest).length (v::rest).length none=(v::rest).length:=rfl;rw [e1,e2,List.drop_one,List.tail_cons,List.take_of_length_le 0x4]
theorem nw1 (v:V) (rest:List V) :¬ (HT.cX (v::rest).length 0 (some 1)=0/\HT.cX (v::rest).length (v::rest).length hi=(v::rest).length):=by
 have e1:HT.cX (v::rest).length 0 (some 1)=1:=by
  rw [show (1:Int)=((1:Nat):Int) by rfl,HT.fG]
  simp
 rw [e1];exact fun h=>absurd h.1 0x8
def Jx (K:PySem.W.Frag) (a:Addr) (xs:List V):Prop:=∃ (o:Obj) (its:Array Value) (n:Nat),K.lookup a=some o/\o.cls=.type "tuple"/\o.data=.seq its n/\its.size<=sizeLine/\Vals xs its.toList
theorem Jx.sq (h:Jx K a xs) (H:Hp):bF K H a xs:=.inr h
def a0A:V->Bool
 | .non | .bl _ | .int _ | .str _=>true
 | _=>false
def Oa (H:Hp):Nat->V->V->Prop
 | 0,_,_=>False
 | n+1,x,y=>(x=y/\a0A x=true)\/(∃ p q xs ys,x=.ref p/\y=.ref q/\H p=some (.tup xs)/\H q=some (.tup ys)/\xs.length=ys.length/\xs.length<=1000/\∀ (i:Nat) (x y:V),xs[i]?=some x->ys[i]?=some y->Oa H n x y) \/
  (∃ p q xs ys,x=.ref p/\y=.ref q/\H p=some (.lst xs)/\H q=some (.lst ys)/\xs.length=ys.length/\xs.length<=1000/\∀ (i:Nat) (x y:V),xs[i]?=some x->ys[i]?=some y->Oa H n x y)
theorem Oa.same (s:Same H H'):∀ {n:Nat}{x y:V},Oa H n x y->Oa H' n x y
 | 0,_,_,h=>h
 | n+1,x,y,h=>by
  rcases h with h | ⟨p,q,xs,ys,e1,e2,e3,e4,e5,e6,e7⟩ | ⟨p,q,xs,ys,e1,e2,e3,e4,e5,e6,e7⟩
  ·exact .inl h
  ·exact .inr (.inl ⟨p,q,xs,ys,e1,e2,s _ _ e3,s _ _ e4,e5,e6,fun i x y h1 h2=>(e7 i x y h1 h2).same s⟩)
  ·exact .inr (.inr ⟨p,q,xs,ys,e1,e2,s _ _ e3,s _ _ e4,e5,e6,fun i x y h1 h2=>(e7 i x y h1 h2).same s⟩)
inductive Aa (n:Nat) (vs:List V) (H:Hp) (Q:VK):Prop
 | mk (x y:V) (_:vs=[x,y]) (_:Oa H n x y) (_:∀ H',Same H H'->Q (.bl true) H'):Aa n vs H Q
def oU (n:Nat):Sp:=fun vs H Q _=>Aa n vs H Q
structure MgS (mg:Str->Option Value):Prop where
 Rz:mg "isinstance"=none
 bool:mg "bool"=none
 int:mg "int"=none
 str:mg "str"=none
 list:mg "list"=none
 tuple:mg "tuple"=none
 len:mg "len"=none
 all:mg "all"=none
 zip:mg "zip"=none
theorem Y0:aY ["_law_found", "_law_due"] ["_law_found", "_law_due"] (aH zT):=0x0
def scS1:Scope:={ kind:=.function,names:=[(".0",.local),("_law_one",.local),("_law_other",.local),("_law_same",.globalImplicit)],isGenerator:=false,isCoroutine:=false }
theorem csS1:dw ["_law_found", "_law_due"] (aH zT) scS1 ["_law_one", "_law_other"] [] []:=0x2
theorem Tr:((["_law_one", "_law_other"]:List Str)++([]:List Str)).Nodup:=by decide +kernel
theorem all_true {bs:List Bool} (h:∀ b∈bs,b=true):bs.all id=true:=List.all_eq_true.mpr fun b hb=>h b hb
theorem Du (n:Nat):List.replicate n (V.bl true)=(List.replicate n true).map V.bl:=by rw [List.map_replicate]
theorem Ob (F:gQ K "_law_same" "_law_same" zT f fd) (m:MgS mg) (M:Ms K mg "_law_same" f fd ["_law_found", "_law_due"]) (G:aX P w K mg base cU n f fd ["_law_found", "_law_due"] (oU n)):aX P w K mg base cU (n+1) f fd ["_law_found", "_law_due"] (oU (n+1)):=by
 refine F.ok Y0 0xA 0x3
 ·obtain ⟨x,y,rfl,_⟩:=h;rfl
 obtain ⟨x,y,rfl,heq,k⟩:=h;refine ⟨_,aC (cH (vV (vU (pv 1))) (aJ (bG (Wx (vU 0x10)))) bK)
  (aC (cH (dX (aP (cA (K:=K)) rfl m.Rz bC (aj (pv 1) (aj (fW rfl m.bool wC rfl (v:=.ty "bool")) ao))))
   (aJ (bG (jz (aP (cA (K:=K)) rfl m.Rz bC (aj 0x10 (aj (fW rfl m.bool wC rfl (v:=.ty "bool")) ao))) (jV (fB cu 0x10 (pv 1) (aZ _)))))) bK)
  (aC (cH (dX (aP (cA (K:=K)) rfl m.Rz bC (aj (pv 1) (aj (fW rfl m.tuple qZ rfl (v:=.ty "tuple")) ao))))
   (aC (cH (PW.pt (ud (eU (dX (aP (cA (K:=K)) rfl m.Rz bC (aj 0x10 (aj (fW rfl m.tuple qZ rfl (v:=.ty "tuple")) ao))))) (oE (aN mq (aP (lO (K:=K)) rfl m.len PySem.boot_len (aj 0x10 ao)) (aP (lO (K:=K)) rfl m.len PySem.boot_len (aj (pv 1) ao)) (aZ _))))) (aJ (bG dU)) bK)
   (aJ (bG (aP (jl (K:=K) rfl hr.hd) rfl m.all qY (aj (eN rfl csS1 (zp rfl m.zip (aj 0x10 (aj (pv 1) ao)))
    (fun s H fp C=>⟨wI (K:=K) (n:=2) rfl (bw (aO (i:=0) Tr rfl 0x5) (bw (aO (i:=1) Tr rfl 0x5) cQ)),dN,bB G hr rfl M.m M.k M.b .nil bN (aj 0x10 (aj (pv 1) ao))⟩)) ao))))) bK)
  (aC (cH (dX (aP (cA (K:=K)) rfl m.Rz bC (aj (pv 1) (aj (fW rfl m.list eO rfl (v:=.ty "list")) ao))))
   (aC (cH (PW.pt (ud (eU (dX (aP (cA (K:=K)) rfl m.Rz bC (aj 0x10 (aj (fW rfl m.list eO rfl (v:=.ty "list")) ao))))) (oE (aN mq (aP (lO (K:=K)) rfl m.len PySem.boot_len (aj 0x10 ao)) (aP (lO (K:=K)) rfl m.len PySem.boot_len (aj (pv 1) ao)) (aZ _))))) (aJ (bG dU)) bK)
   (aJ (bG (aP (jl (K:=K) rfl hr.hd) rfl m.all qY (aj (eN rfl csS1 (rB rfl m.zip (aj 0x10 (aj (pv 1) ao)))
    (fun s H fp C=>⟨wI (K:=K) (n:=2) rfl (bw (aO (i:=0) Tr rfl 0x5) (bw (aO (i:=1) Tr rfl 0x5) cQ)),dN,bB G hr rfl M.m M.k M.b .nil bN (aj 0x10 (aj (pv 1) ao))⟩)) ao))))) bK)
  (aC (cH (dX (aP (cA (K:=K)) rfl m.Rz bC (aj (pv 1) (aj (fW rfl m.str Mq rfl (v:=.ty "str")) ao))))
   (aJ (bG (jz (aP (cA (K:=K)) rfl m.Rz bC (aj 0x10 (aj (fW rfl m.str Mq rfl (v:=.ty "str")) ao))) (jV (fB cu 0x10 (pv 1) (aZ _)))))) bK)
  (aJ (bG (jz (aP (cA (K:=K)) rfl m.Rz bC (aj 0x10 (aj (fW rfl m.int wD rfl (v:=.ty "int")) ao)))
   (jz (vW (aP (cA (K:=K)) rfl m.Rz bC (aj 0x10 (aj (fW rfl m.bool wC rfl (v:=.ty "bool")) ao)))) (jV (fB cu 0x10 (pv 1) (aZ _))))))))))),?_⟩
 rcases heq with ⟨rfl,hsc⟩ | ⟨p,q,xs,ys,rfl,rfl,hp,hq,hl,hz,hi⟩ | ⟨p,q,xs,ys,rfl,rfl,hp,hq,hl,hz,hi⟩
 ·cases x with
  | non=>exact ⟨_,rfl,_,rfl,bR ⟨_,rfl,k _ (Same.refl _)⟩⟩
  | bl b =>
   refine ⟨_,rfl,_,rfl,aL ?_⟩;refine ⟨_,rfl,_,_,_,true,rfl,.bl b,rfl,_,rfl,bR ?_⟩;refine ⟨_,rfl,_,_,_,true,rfl,.bl b,rfl,_,rfl,bR ?_⟩;refine ⟨_,rfl,_,rfl,rfl,?_⟩
   show Q (.bl (decide (V.bl b=V.bl b))) H
   rw [decide_eq_true rfl];exact k _ (Same.refl _)
  | int i =>
   refine ⟨_,rfl,_,rfl,aL ?_⟩;refine ⟨_,rfl,_,_,_,false,rfl,.int i,rfl,_,rfl,aL ?_⟩;refine ⟨_,rfl,_,_,_,false,rfl,.int i,rfl,_,rfl,aL ?_⟩;refine ⟨_,rfl,_,_,_,false,rfl,.int i,rfl,_,rfl,aL ?_⟩;refine ⟨_,rfl,_,_,_,false,rfl,.int i,rfl,_,rfl,aL ?_⟩;refine ⟨_,rfl,_,_,_,true,rfl,.int i,rfl,_,rfl,bR ?_⟩;refine ⟨_,rfl,_,_,_,false,rfl,.int i,rfl,_,rfl,_,rfl,bR ?_⟩;refine ⟨_,rfl,_,rfl,rfl,?_⟩
   show Q (.bl (decide (V.int i=V.int i))) H
   rw [decide_eq_true rfl];exact k _ (Same.refl _)
  | str z =>
   refine ⟨_,rfl,_,rfl,aL ?_⟩;refine ⟨_,rfl,_,_,_,false,rfl,.str z,rfl,_,rfl,aL ?_⟩;refine ⟨_,rfl,_,_,_,false,rfl,.str z,rfl,_,rfl,aL ?_⟩;refine ⟨_,rfl,_,_,_,false,rfl,.str z,rfl,_,rfl,aL ?_⟩;refine ⟨_,rfl,_,_,_,true,rfl,.str z,rfl,_,rfl,bR ?_⟩;refine ⟨_,rfl,_,_,_,true,rfl,.str z,rfl,_,rfl,bR ?_⟩;refine ⟨_,rfl,_,rfl,rfl,?_⟩
   show Q (.bl (decide (V.str z=V.str z))) H
   rw [decide_eq_true rfl];exact k _ (Same.refl _)
  | yC _=>cases hsc
  | flt _=>cases hsc
  | ref _=>cases hsc
  | ty _=>cases hsc
 ·refine ⟨_,rfl,_,rfl,aL ?_⟩;refine ⟨_,rfl,_,_,_,false,rfl,.tup hq,rfl,_,rfl,aL ?_⟩;refine ⟨_,rfl,_,_,_,true,rfl,.tup hq,rfl,_,rfl,bR ?_⟩;refine ⟨_,rfl,_,_,_,true,rfl,.tup hp,rfl,_,rfl,aL ?_⟩;refine ⟨_,rfl,p,xs,rfl,.inr (bF.of hp),_,rfl,q,ys,rfl,.inr (bF.of hq),rfl,_,rfl,?_⟩;refine uz (by rw [hl]) ?_;refine ⟨_,rfl,_,rfl,p,q,rfl,⟨_,bF.of hp⟩,⟨_,bF.of hq⟩,fun D hD=>?_⟩;refine rC (n:=xs.length) (fx:=fun i=>xs.getD i .non) (fy:=fun i=>ys.getD i .non) (fun i zs H2=>zs=List.replicate i (V.bl true)/\Same H H2/\H2 D=some (.lst zs)) (fun i zs H2 ⟨_,s2,_⟩=>pF (bF.of (s2 _ _ hp)) (bF.of (s2 _ _ hq)) hl) ⟨rfl,aq hD _,ak⟩ (fun i zs H2 h=>h.2.2) ?_ ?_
  ·rintro i zs H2 r hir ⟨rfl,s2,hD2⟩ hr2;have nrD:D≠r:=aM hD2 hr2;have e1:xs[i]?=some (xs.getD i .non):=by rw [iw,dB hir];rfl
   have e2:ys[i]?=some (ys.getD i .non):=by rw [iw,dB 0x1];rfl
   have s3:Same H (upd H2 r (.tup [xs.getD i .non,ys.getD i .non])):=aW s2 (s2.free hr2);refine ⟨r,_,rfl,bF.of ak,rfl,_,_,rfl,_,_,rfl,rfl,Kp.set rfl (Kp.set rfl (Kp.refl _)),?_⟩;refine dG ?_;refine ⟨_,rfl,_,rfl,_,_,rfl,(hi i _ _ e1 e2).same s3,fun H4 s4=>⟨s4 _ _ (by rw [aA nrD];exact hD2),?_,?_,aW (s3.trans s4) hD,ak⟩⟩
   ·rw [List.length_replicate];exact bY 0x1
   ·rw [List.replicate_succ']
  ·rintro zs H2 ⟨rfl,s2,hD2⟩;refine ⟨D,List.replicate xs.length true,rfl,bf.of (by rw [<- Du];exact hD2),?_⟩;rw [all_true fun b hb=>List.eq_of_mem_replicate hb];exact k _ s2
 ·refine ⟨_,rfl,_,rfl,aL ?_⟩;refine ⟨_,rfl,_,_,_,false,rfl,.lst hq,rfl,_,rfl,aL ?_⟩;refine ⟨_,rfl,_,_,_,false,rfl,.lst hq,rfl,_,rfl,aL ?_⟩;refine ⟨_,rfl,_,_,_,true,rfl,.lst hq,rfl,_,rfl,bR ?_⟩;refine ⟨_,rfl,_,_,_,true,rfl,.lst hp,rfl,_,rfl,aL ?_⟩;refine ⟨_,rfl,p,xs,rfl,.inl (bf.of hp),_,rfl,q,ys,rfl,.inl (bf.of hq),rfl,_,rfl,?_⟩;refine uz (by rw [hl]) ?_;refine ⟨_,rfl,_,rfl,p,q,rfl,⟨_,bf.of hp⟩,⟨_,bf.of hq⟩,fun D hD=>?_⟩;refine rC (n:=xs.length) (fx:=fun i=>xs.getD i .non) (fy:=fun i=>ys.getD i .non) (fun i zs H2=>zs=List.replicate i (V.bl true)/\Same H H2/\H2 D=some (.lst zs)) (fun i zs H2 ⟨_,s2,_⟩=>kO (bf.of (s2 _ _ hp)) (bf.of (s2 _ _ hq)) hl) ⟨rfl,aq hD _,ak⟩ (fun i zs H2 h=>h.2.2) ?_ ?_
  ·rintro i zs H2 r hir ⟨rfl,s2,hD2⟩ hr2;have nrD:D≠r:=aM hD2 hr2;have e1:xs[i]?=some (xs.getD i .non):=by rw [iw,dB hir];rfl
   have e2:ys[i]?=some (ys.getD i .non):=by rw [iw,dB 0x1];rfl
   have s3:Same H (upd H2 r (.tup [xs.getD i .non,ys.getD i .non])):=aW s2 (s2.free hr2);refine ⟨r,_,rfl,bF.of ak,rfl,_,_,rfl,_,_,rfl,rfl,Kp.set rfl (Kp.set rfl (Kp.refl _)),?_⟩;refine dG ?_;refine ⟨_,rfl,_,rfl,_,_,rfl,(hi i _ _ e1 e2).same s3,fun H4 s4=>⟨s4 _ _ (by rw [aA nrD];exact hD2),?_,?_,aW (s3.trans s4) hD,ak⟩⟩
   ·rw [List.length_replicate];exact bY 0x1
   ·rw [List.replicate_succ']
  ·rintro zs H2 ⟨rfl,s2,hD2⟩;refine ⟨D,List.replicate xs.length true,rfl,bf.of (by rw [<- Du];exact hD2),?_⟩;rw [all_true fun b hb=>List.eq_of_mem_replicate hb];exact k _ s2
theorem GP (F:gQ K "_law_same" "_law_same" zT f fd) (m:MgS mg) (M:Ms K mg "_law_same" f fd ["_law_found", "_law_due"]):∀ n:Nat,aX P w K mg base cU n f fd ["_law_found", "_law_due"] (oU n)
 | 0=>⟨fun vs H Q E ⟨x,y,_,h,_⟩=>h.elim,fun A outer s H args us vs Q E _ _ _ _ ⟨x,y,_,h,_⟩=>h.elim⟩
 | n+1=>Ob F m M (GP F m M n)
structure Y4 (K:PySem.W.Frag) (P:Params) (mg:Str->Option Value):Prop where
 bounds:∃ a b1 b2 b3 b4 b5 b6 b7,mg "BOUNDS"=some (.ref a)/\KD K P a [("day",.ref b1),("acres",.ref b2),("service",.ref b3),("bears",.ref b4),("edge",.ref b5),("number",.ref b6),("entry",.ref b7)]/\Jx K b1 [.int 0,.int 9999]/\Jx K b2 [.int 1,.int 9999]/\Jx K b3 [.int 0,.int 9999]/\Jx K b4 [.int 0,.int 99]/\Jx K b7 [.int 1,.int 999999]
 forms:∃ a kvs,mg "FORMS"=some (.ref a)/\KD K P a kvs/\∀ k,(form k=none->kvs.lookup k=none)/\∀ l,form k=some l->∃ b,kvs.lookup k=some (.ref b)/\Jx K b (l.map fun s=>.str s.word)
 two:∃ a,mg "OF_TWO_MEN"=some (.ref a)/\Jx K a [.str "heir",.str "liege"]
 crown:∃ t,mg "CROWN"=some (.str "" t)
inductive Ab (vs:List V) (H:Hp) (Q:VK):Prop
 | mk (s:M.cW) (v:V) (_:vs=[.str s.word,v]) (_:isI v=s.num) (_:Ry 1000 v) (_:Q (.bl (jm s v)) H):Ab vs H Q
def xu:Sp:=fun vs H Q _=>Ab vs H Q
theorem Dv:aY ["sort", "piece", "least", "greatest"] ["sort", "piece"] (aH Nz):=0x0
theorem Tt (F:gQ K "fits" "fits" Nz f fd) (mo:Y4 K w.params mg)  (G1:aX P w K mg base cU 1 g1 d1 ["text"] O7) (M1:Ms K mg "is_name" g1 d1 ["text"]):aX P w K mg base cU 2 f fd ["sort", "piece"] xu:=by
 obtain ⟨aB,b1,b2,b3,b4,b5,b6,b7,mB,kB,t1,t2,t3,t4,t7⟩:=mo.bounds;obtain ⟨tc,mC⟩:=mo.crown;refine F.ok Dv 0xA 0x3
 ·obtain ⟨s,v,rfl,_⟩:=h;rfl
 obtain ⟨s,v,rfl,hi,hv,k⟩:=h;refine ⟨_,aC (cH (aN T8 0x10 (dM rfl mB rfl (v:=.ref aB)) 0x16)
   (aC (gG (aK Vx (dM rfl mB rfl (v:=.ref aB)) 0x10 0x9) (fu rfl (bw (aO (i:=2) Dv.nd rfl 0x5) (bw (aO (i:=3) Dv.nd rfl 0x5) cQ))))
   (aJ (bG (qN pB pB (pv 2) (pv 1) (pv 3))))) bK)
  (aC (cH (PW.pt (jU (aN cu 0x10 aD (aZ _)) (iQ (aN cu (pv 1) (dM rfl mC ⟨_,rfl⟩ (v:=.str "")) (aZ _))))) (aJ (bG dU)) bK)
  (aJ (bG (bB G1 hr rfl M1.m M1.k M1.b .nil bN (aj (pv 1) ao))))),?_⟩
 refine ⟨_,rfl,_,aB,_,rfl,rfl,kB,_,rfl,?_⟩;have hB:s.num=true->∃ b lo hi,([("day",V.ref b1),("acres",V.ref b2),("service",V.ref b3),("bears",V.ref b4),("edge",V.ref b5),("number",V.ref b6),("entry",V.ref b7)]:List (Str×V)).lookup s.word=some (.ref b)/\Jx K b [.int lo,.int hi]/\∀ n,jm s (.int n)=(decide (lo<=n)&&decide (n<=hi)):=by
  cases s with
  | d=>exact fun _=>⟨b1,0,9999,rfl,t1,fun n=>rfl⟩
  | a=>exact fun _=>⟨b2,1,9999,rfl,t2,fun n=>rfl⟩
  | s=>exact fun _=>⟨b3,0,9999,rfl,t3,fun n=>rfl⟩
  | b=>exact fun _=>⟨b4,0,99,rfl,t4,fun n=>rfl⟩
  | e=>exact fun _=>⟨b7,1,999999,rfl,t7,fun n=>rfl⟩
  | n=>exact fun h=>nomatch h
  | c=>exact fun h=>nomatch h
 have hN:s.num=false->([("day",V.ref b1),("acres",V.ref b2),("service",V.ref b3),("bears",V.ref b4),("edge",V.ref b5),("number",V.ref b6),("entry",V.ref b7)]:List (Str×V)).lookup s.word=none:=by
  cases s <;> first | exact fun _=>rfl | (intro h;cases h)
 cases hn:s.num with
 | true =>
  obtain ⟨b,lo,hi',hb,hk,hf⟩:=hB hn;obtain ⟨n,rfl⟩:∃ n,v=.int n:=by
   rw [hn] at hi;cases v <;> first | exact ⟨_,rfl⟩ | cases hi
  have hf':=hf n;rw [hb];refine bR ?_;refine ⟨_,rfl,aB,_,_,_,rfl,rfl,kB,hb,?_⟩;refine ⟨b,_,rfl,hk.sq _,rfl,_,_,rfl,_,_,rfl,rfl,?_⟩;refine ⟨_,rfl,_,rfl,_,_,rfl,rfl,_,rfl,?_⟩;refine je (fun h1=>?_) (fun h1=>?_)
  ·refine ⟨_,rfl,_,_,rfl,rfl,?_⟩;rw [h1,Bool.true_and] at hf';rw [hf'] at k;exact k
  ·rw [Bool.eq_false_iff.mpr h1,Bool.false_and] at hf';rw [hf'] at k;exact k
 | false =>
  rw [hN hn];obtain ⟨z,rfl,hl,hc⟩:∃ z:Str,v=.str z/\z.length<=1000/\∀ c∈z.cps.toList,c<128:=by
   rcases hv with ⟨n,rfl⟩ | h
   ·rw [hn] at hi;cases hi
   ·exact h
  refine aL ?_;cases s with
  | d=>cases hn
  | a=>cases hn
  | s=>cases hn
  | b=>cases hn
  | e=>cases hn
  | n =>
   refine ⟨_,rfl,rfl,_,rfl,aL (aL ?_)⟩;exact ⟨_,rfl,z,rfl,hl,k⟩
  | c =>
   refine ⟨_,rfl,rfl,_,rfl,bR ?_⟩;refine ⟨_,rfl,rfl,_,rfl,?_⟩;have e0:jm .c (.str z)=(decide (z="")||nameB z.cps.toList):=rfl;rw [e0] at k;refine je (fun h1=>?_) (fun h1=>?_)
   ·have h2:z="":=by
     have:=u9 h1;injection this
    rw [decide_eq_true h2,Bool.true_or] at k;exact k
   ·have h2:¬ z="":=fun e=>h1 (by rw [e];rfl);rw [decide_eq_false h2,Bool.false_or] at k;exact ⟨_,rfl,z,rfl,hl,k⟩
inductive uR (C:Addr) (good:List V->Hp->Prop) (wm:List V->Bool) (K:PySem.W.Frag) (vs:List V) (H:Hp) (Q:VK) (E:XK):Prop
 | mk (a:Addr) (xs:List V) (_:vs=[.ref a]) (_:bF K H a xs) (_:good xs H) (_:if wm xs=true then (∀ H',Same H H'->Q .non H') else ∀ H',Same H H'->E (.ref C) none H'):uR C good wm K vs H Q E
def xG (C:Addr) (good:List V->Hp->Prop) (wm:List V->Bool) (K:PySem.W.Frag):Sp:=fun vs H Q E=>uR C good wm K vs H Q E
inductive Ac (good:List V->Hp->Prop) (wm:List V->Bool) (K:PySem.W.Frag) (vs:List V) (H:Hp) (Q:VK):Prop
 | mk (a:Addr) (xs:List V) (_:vs=[.ref a]) (_:bF K H a xs) (_:good xs H) (_:∀ H',Same H H'->Q (.bl (wm xs)) H'):Ac good wm K vs H Q
def Oc (good:List V->Hp->Prop) (wm:List V->Bool) (K:PySem.W.Frag):Sp:=fun vs H Q _=>Ac good wm K vs H Q
theorem Ad {l:List (cW×V)}{p:cW×V} (h:l[i]?=some p) (h0:(l.take i).all mV=true) (h1:mV p=true):(l.take (i+1)).all mV=true:=by
 rw [List.take_add_one,h,List.all_append,h0];simp [h1]
theorem Dw {l:List (cW×V)}{p:cW×V} (h:l[i]?=some p) (h1:mV p=false):l.all mV=false:=by
 cases e:l.all mV with
 | false=>rfl
 | true=>rw [List.all_eq_true.mp e p (jL h)] at h1;cases h1
theorem xH {l:List cW}{s:cW} (h1:l[i]?=some s) (h2:rest[i]?=some v):(l.zip rest)[i]?=some (s,v):=by
 rw [List.getElem?_zip_eq_some];exact ⟨h1,h2⟩
theorem at_getD {α:Type}{l:List α}{x d:α} (h:l[i]?=some x):l.getD i d=x:=by rw [iw,h];rfl
theorem Ae (a b:Str):(a==b)=decide (b=a):=by
 rw [Bool.eq_iff_iff];simp only [beq_iff_eq,decide_eq_true_eq];exact eq_comm
theorem Od (k:Str):inV (V.str k) [V.str "heir",V.str "liege"]=two k:=by
 show ((("heir" : Str)==k)||((("liege" : Str)==k)||false))=two k
 unfold two;rw [Bool.or_false,Ae,Ae]
theorem su:aY ["row", "form", "pieces", "sort", "piece"] ["row"] (aH Ny):=0x0
theorem at0 (v:V) (rest:List V):lK (v::rest) 0=some v:=bh (j:=0) rfl
theorem mW {x:V} (h:rest[j]?=some x) (i:Int) (hi:i=((j+1:Nat):Int)):lK (v::rest) i=some x:=by
 rw [hi];exact bh (by simpa using h)
theorem Tv (F:gQ K "is_well_made" "is_well_made" Ny f fd) (mo:Y4 K w.params mg) (ml:mg "len"=none) (mz:mg "zip"=none)  (G1:aX P w K mg base cU 2 g1 d1 ["sort", "piece"] xu) (M1:Ms K mg "fits" g1 d1 ["sort", "piece"]):aX P w K mg base cU 3 f fd ["row"] (Oc O9 wm K):=by
 obtain ⟨aF,kvs,mF,kF,hF⟩:=mo.forms;obtain ⟨a2,m2,t2⟩:=mo.two;refine F.ok su 0xA 0x3
 ·obtain ⟨a,xs,rfl,_⟩:=h;rfl
 obtain ⟨a,xs,rfl,hS,⟨k,rest,rfl,R⟩,kk⟩:=h;refine ⟨_,aC (cH (aN CK (aK bA 0x10 au 0x9) (dM rfl mF rfl (v:=.ref aF)) 0x16) (aJ (bG dU)) bK)
  (aC (bU (i:=1) su.nd rfl 0x5 (aK Vx (dM rfl mF rfl (v:=.ref aF)) (aK bA 0x10 au 0x9) 0x9))
  (aC (bU (i:=2) su.nd rfl 0x5 (cT jd 0x10 (cR au) fZ))
  (aC (cH (aN mq (aP bQ rfl ml PySem.boot_len (aj (pv 2) ao)) (aP bQ rfl ml PySem.boot_len (aj (pv 1) ao)) (aZ _)) (aJ (bG dU)) bK)
  (aC (iy PassesOwn.never rfl (zp rfl mz (aj (pv 1) (aj (pv 2) ao))) (fu rfl (bw (aO (i:=3) su.nd rfl 0x5) (bw (aO (i:=4) su.nd rfl 0x5) cQ)))
   (aJ (cH (eU (dX (bB G1 hr rfl M1.m M1.k M1.b .nil bN (aj (pv 3) (aj (pv 4) ao))))) (aJ (bG dU)) bK)))
  (aJ (bG (a0d (fB jC (aK bA 0x10 au 0x9) (dM rfl m2 rfl (v:=.ref a2)) 0x16)
   (jV (fB mq (aK bA 0x10 au 0x9) (aK bA 0x10 au 0x9) (aZ _)))))))))),?_⟩
 have ew:wm (.str k::rest)=pJ k rest:=rfl;rw [ew] at kk;refine ⟨_,rfl,a,_,_,_,rfl,rfl,hS,at0 _ _,k,aF,kvs,rfl,rfl,kF,_,rfl,?_⟩;cases hf:form k with
 | none =>
  rw [(hF k).1 hf];have e:pJ k rest=false:=by unfold pJ;rw [hf]
  rw [e] at kk;exact bR (kk H (Same.refl _))
 | some l =>
  obtain ⟨b,hb,hk⟩:=(hF k).2 l hf;have tW:pJ k rest=(decide (rest.length=l.length)&&0x2D):=by unfold pJ;rw [hf]
  rw [hb];refine aL ?_;refine ⟨_,rfl,a,_,_,_,rfl,rfl,hS,at0 _ _,aF,kvs,k,_,rfl,rfl,kF,hb,?_⟩;refine ⟨_,rfl,_,rfl,a,_,rfl,hS,nw1 _ _,fun p hp=>?_⟩;rw [cut1];have s1:Same H (upd H p (.tup rest)):=aq hp _;refine ⟨_,rfl,p,_,rfl,.inr (bF.of ak),_,rfl,b,_,rfl,.inr (hk.sq _),rfl,_,rfl,?_⟩
  by_cases hl:rest.length=l.length
  ·refine uz (by rw [bL,hl]) ?_;rw [decide_eq_true hl,Bool.true_and] at tW;refine ⟨_,rfl,_,rfl,b,p,rfl,⟨_,hk.sq _⟩,⟨_,bF.of ak⟩,nP (n:=l.length) (fx:=fun i=>V.str (l.getD i .d).word) (fy:=fun i=>rest.getD i .non)
    (fun i σ H2=>(∃ u v,σ=[some (.ref a),some (.ref b),some (.ref p),u,v])/\Same (upd H p (.tup rest)) H2/\((l.zip rest).take i).all mV=true) ?_ ⟨⟨none,none,rfl⟩,Same.refl _,rfl⟩ ?_ ?_⟩
   ·rintro i σ H2 ⟨_,sm,_⟩;have st:=pF (i:=i) (hk.sq H2) (sm.wO (bF.of ak)) (by rw [bL];exact hl.symm);rw [bL] at st;refine ⟨fun hi=>⟨(st.1 hi).1,fun v H' y=>?_⟩,st.2⟩;obtain ⟨q,e1,e2,e3⟩:=(st.1 hi).2 v H' y;refine ⟨q,e1,e2,?_⟩;rw [e3];have e4:(l.map fun s=>V.str s.word).getD i .non=V.str (l.getD i .d).word:=by
     rw [iw,iw,iK,dB hi];rfl
    rw [e4]
   ·rintro i σ H2 q hi ⟨⟨u,v,rfl⟩,sm,ha⟩ hq;have h1:l[i]?=some l[i]:=dB hi;have hi2:i<rest.length:=by lia
    have h2:rest[i]?=some rest[i]:=dB hi2;rw [at_getD h1,at_getD h2];have sq:Same H2 (upd H2 q (.tup [V.str (l[i]).word,rest[i]])):=aq hq _;refine ⟨q,_,rfl,bF.of ak,rfl,_,_,rfl,_,_,rfl,rfl,?_⟩;refine ⟨_,rfl,_,rfl,l[i],rest[i],rfl,R.kept l hf i _ _ h1 h2,R.ok _ (List.getElem_mem hi2),_,rfl,?_⟩;cases hfit:jm l[i] rest[i] with
    | true=>exact aL ⟨⟨_,_,rfl⟩,sm.trans sq,Ad (xH h1 h2) ha hfit⟩
    | false =>
     refine bR ?_;rw [Dw (xH h1 h2) hfit,Bool.false_and] at tW;rw [tW] at kk;exact kk _ (s1.trans (sm.trans sq))
   ·rintro σ H2 ⟨⟨u,v,rfl⟩,sm,ha⟩;rw [List.take_of_length_le (by rw [List.length_zip];lia)] at ha;rw [ha,Bool.true_and] at tW;have S2:=(s1.trans sm).wO hS;refine ⟨_,rfl,a,_,_,_,rfl,rfl,S2,at0 _ _,a2,_,rfl,.inr (t2.sq _),rfl,rfl,_,rfl,?_⟩;have e2:=Od k
    show if (!inV (V.str k) [V.str "heir",V.str "liege"])=true then _ else _
    rw [e2];cases h2:two k with
    | false =>
     rw [h2] at tW;refine bR ?_;have:pJ k rest=true:=tW;rw [this] at kk;exact kk _ (s1.trans sm)
    | true =>
     rw [h2,Bool.true_and] at tW;obtain ⟨l3,n1,n2⟩:=rZ hf h2;refine aL ?_;have i1:(1:Nat)<rest.length:=by lia
     have i2:(2:Nat)<rest.length:=by lia
     have r1:rest[1]?=some rest[1]:=dB i1;have r2:rest[2]?=some rest[2]:=dB i2;have q1:l[1]?=some l[1]:=dB 0x1;have q2:l[2]?=some l[2]:=dB 0x1;have v1:isI rest[1]=false:=(R.kept l hf 1 _ _ q1 r1).trans (n1 _ q1);have v2:isI rest[2]=false:=(R.kept l hf 2 _ _ q2 r2).trans (n2 _ q2);have o1:=R.ok _ (List.getElem_mem i1);have o2:=R.ok _ (List.getElem_mem i2);rw [r1,r2] at tW;refine ⟨_,rfl,a,_,_,_,rfl,rfl,S2,mW r1 2 rfl,_,rfl,a,_,_,_,rfl,rfl,S2,mW r2 3 rfl,?_⟩;generalize rest[1]=x1 at *
     generalize rest[2]=x2 at *
     rcases o1 with ⟨n,rfl⟩ | ⟨z1,rfl,_⟩
     ·cases v1
     rcases o2 with ⟨n,rfl⟩ | ⟨z2,rfl,_⟩
     ·cases v2
     refine ⟨rfl,?_⟩;have e3:pJ k rest=!decide (V.str z1=V.str z2):=by
      rw [tW]
      congr 1
      exact decide_eq_decide.mpr ⟨fun e=>Option.some.inj e,fun e=>by rw [e]⟩
     rw [e3] at kk;exact kk _ (s1.trans sm)
  ·have e:pJ k rest=false:=by rw [tW,decide_eq_false hl,Bool.false_and]
   rw [e] at kk;have hne:(!decide (V.int ((rest.length:Nat):Int)=V.int (((l.map fun s=>V.str s.word).length:Nat):Int)))=true:=by
    rw [bL];have:¬ V.int ((rest.length:Nat):Int)=V.int ((l.length:Nat):Int):=fun e=>hl (by injection e with e;lia);rw [decide_eq_false this];rfl
   rw [hne];exact bR (kk _ s1)
theorem Tw:aY ["row"] ["row"] (aH Df):=0x0
theorem Oe {good:List V->Hp->Prop}{wm:List V->Bool} (F:gQ K "check_row" "check_row" Df f fd)  (mC:mg "NoForm"=some (.ref C)) (hC:PySem.W.excIn K C tV "ValueError.__new__"=true) {g:Addr} (G:aX P w K mg base cU 3 g gd ["row"] (Oc good wm K))
  (MG:Ms K mg "is_well_made" g gd ["row"]):aX P w K mg base (iC P w) 4 f fd ["row"] (xG C good wm K):=by
 obtain ⟨oc,od,kV,doc,pm,an,cdv,ct,osl,rfl,lk,hcd⟩:=F.ex;refine jZ lk hcd Tw 0xA fun A outer s H vs Q E hr h=>?_
 ·obtain ⟨a,xs,rfl,_⟩:=h;rfl
 obtain ⟨a,xs,rfl,hS,hg,h⟩:=h;refine ⟨_,aJ (cH (eU (dX (bB (E:=E0) G hr rfl MG.m MG.k MG.b .nil (fun _ _ _ _ _ _ _ z=>z.elim) (aj 0x10 ao))))
  (aJ (kW (C:=C) (E:=E) rfl (fun pins σ H1 s1 h' e C' vs I hx q=>fH I hx q) rfl mC hC (aj aD ao))) bK),?_⟩
 refine ⟨_,rfl,a,xs,rfl,hS,hg,fun H' sm=>⟨_,rfl,?_⟩⟩;cases e:wm xs with
 | true=>rw [e,if_pos rfl] at h;exact aL (h H' sm)
 | false=>rw [e,if_neg Bool.false_ne_true] at h;exact bR ⟨eZ 0x4 |> Nat.le_of_lt,h H' sm⟩
theorem a0B:∀ i:_root_.Fin 26,az.cps.toList[i.val]?=some (97+i.val):=by decide +kernel
theorem Og {i:Int} (h0:0<=i) (h1:i<26):lK az.cps.toList i=some (97+i.toNat):=by
 have e:i=((i.toNat:Nat):Int):=by lia
 have q:lK az.cps.toList ((i.toNat:Nat):Int)=some (97+i.toNat):=bh (a0B ⟨i.toNat,by lia⟩);rw [<- e] at q;exact q
theorem Oh (h:i<26):low (97+i)=true:=by simp [low];lia
theorem rep1 (n c:Nat):nJ n [c]=List.replicate n c:=by
 unfold nJ
 induction n with
 | zero=>rfl
 | succ n ih=>rw [List.replicate_succ,List.flatten_cons,ih];rfl
theorem Tz {α:Type}{xs:List α} (h:j<=xs.length):pW xs none (some (j:Int))=xs.take j:=by
 unfold pW;have e1:HT.cX xs.length 0 none=0:=rfl;rw [e1,HT.fG,List.drop_zero,Nat.sub_zero,Nat.min_eq_left h]
theorem Jy {α:Type}{xs:List α} (h:j<=xs.length):pW xs (some (j:Int)) none=xs.drop j:=by
 unfold pW;have e2:HT.cX xs.length xs.length none=xs.length:=rfl;rw [e2,HT.fG,Nat.min_eq_left h,List.take_of_length_le (by rw [List.length_drop];exact Nat.le_refl _)]
def Told (p:Nat) (e:Int) (zs:List Str):Prop:=∀ (j:Nat) (z:Str),zs[j]?=some z->z.cps.toList[p]?=some (97+((e+7 * (j:Int)) % 26).toNat)/\nameB z.cps.toList=true
theorem Told.nodup {p:Nat}{e:Int}{zs:List Str} (h:Told p e zs) (hl:zs.length<=26):zs.Nodup:=by
 unfold List.Nodup;rw [List.pairwise_iff_getElem];intro i j hi hj hij he;have h1:=(h i _ (dB hi)).1;have h2:=(h j _ (dB hj)).1;rw [he,h2] at h1;have h3:=Option.some.inj h1;lia
theorem Told.snoc {p:Nat}{e:Int}{zs:List Str} (h:Told p e zs) (h1:z.cps.toList[p]?=some (97+((e+7 * (zs.length:Int)) % 26).toNat)) (h2:nameB z.cps.toList=true):Told p e (zs++[z]):=by
 intro j y hj
 by_cases hlt:j<zs.length
 ·rw [List.getElem?_append_left hlt] at hj;exact h j y hj
 ·have hj':j<(zs++[z]).length:=(List.getElem?_eq_some_iff.mp hj).1;have e:j=zs.length:=by rw [jj,List.length_singleton] at hj';lia
  subst e;rw [List.getElem?_append_right 0x6,Nat.sub_self] at hj;have:z=y:=by simpa using hj
  subst this;exact ⟨h1,h2⟩
theorem Af {l:List Nat} (h:∀ c∈l,low c=true) (h1:1<=l.length) (h2:l.length<=8):nameB l=true:=by
 unfold nameB;rw [List.all_eq_true.mpr h,decide_eq_true h1,decide_eq_true h2];rfl
inductive uT (K:PySem.W.Frag) (vs:List V) (H:Hp) (Q:VK):Prop
 | mk (a:Addr) (ds:List Int) (many:Int) (_:vs=[.ref a,.int many]) (_:bf K H a (ds.map V.int)) (_:4<=ds.length) (_:(∀ v∈ds,Ka v)) (_:0<=many) (_:many<=26) (_:∀ (r:Addr) (H':Hp) (zs:List Str),Same H H'->H r=none->H' r=some (.lst (zs.map V.str))->zs.length=many.toNat->(∀ z∈zs,nameB z.cps.toList=true)->zs.Nodup->Q (.ref r) H'):uT K vs H Q
def GQ (K:PySem.W.Frag):Sp:=fun vs H Q _=>uT K vs H Q
theorem gU:aY ["_law_d", "_law_many", "_law_letters", "_law_k", "_law_base", "_law_at", "_law_names_here", "_law_sign", "_law_name"] ["_law_d", "_law_many"] (aH wW):=0x0
def scN1:Scope:={ kind:=.function,names:=[(".0",.local),("_law_k",.local),("_law_d",.free),("_law_letters",.free)],isGenerator:=false,isCoroutine:=false }
theorem csN1:dw ["_law_d", "_law_many", "_law_letters", "_law_k", "_law_base", "_law_at", "_law_names_here", "_law_sign", "_law_name"] (aH wW) scN1 ["_law_k"] ["_law_d", "_law_letters"] [0,2]:=0x2
theorem ndN1:((["_law_k"]:List Str)++(["_law_d", "_law_letters"]:List Str)).Nodup:=by decide +kernel
theorem Oi (F:gQ K "_law_names" "_law_names" wW f fd) (ml:mg "len"=none) (mr:mg "range"=none):aX P w K mg base cU 1 f fd ["_law_d", "_law_many"] (GQ K):=by
 refine F.ok gU 0xA 0x3
 ·obtain ⟨a,ds,many,rfl,_⟩:=h;rfl
 obtain ⟨a,ds,many,rfl,hS,hlen,hok,m0,m1,k⟩:=h;refine ⟨_,aC (bU (i:=2) gU.nd rfl (Or.inr rfl) aD)
  (aC (bU (i:=4) gU.nd rfl 0x5 (gw PySem.F.plainAttrs_str PySem.F.slot_str_join PySem.F.type_str_join Gf aD (aj
    (eN rfl csN1
     (dh rfl mr (aj (aQ bO (aK aU 0x10 au 0x9) au) ao))
     (fun s H fp C=>⟨aO (i:=0) ndN1 rfl 0x5,dN,aK Lg (pv 2) (aQ bO (aQ bZ (aK (iB (K:=K)) (pv 1) au 0x9)
      (aQ gH (aQ bZ 0x10 au) (aQ pZ (aK (iB (K:=K)) (pv 1) au 0x9) au))) au) 0x9⟩)) ao)))
  (aC (bU (i:=5) gU.nd rfl 0x5 (aQ bO (aK aU 0x10 au 0x9) (aQ bZ (aP gO rfl ml PySem.boot_len (aj (pv 4) ao)) au)))
  (aC (bU (i:=6) gU.nd rfl 0x5 (cL ao))
  (aC (iy PassesOwn.never rfl (dh rfl mr (aj (pv 1) ao)) (aO (i:=3) gU.nd rfl 0x5)
   (aC (bU (i:=7) gU.nd rfl 0x5 (aK Lg (pv 2) (aQ bO (aQ bZ (aK aU 0x10 au 0x9) (aQ gH au (pv 3))) au) 0x9))
   (aC (bU (i:=8) gU.nd rfl 0x5 (aQ qP (aQ qP (cT Mg (pv 4) fZ (cR (pv 5))) (pv 7)) (cT Mg (pv 4) (cR (pv 5)) fZ)))
   (aC (cH (aN cu (aQ bO (aQ pZ (aK aU 0x10 au 0x9) au) au) au (aZ _))
    (aJ (bU (i:=8) gU.nd rfl 0x5 (aQ Cz (pv 7) (aQ bZ au (aQ bO (aQ bZ (aK aU 0x10 au 0x9) (aQ gH au (pv 3))) au))))) bK)
   (aJ (bW (gw PySem.F.plainAttrs_list PySem.F.slot_list_append PySem.F.type_list_append c7 (pv 6) (aj (pv 8) ao))))))))
  (aJ (bG (pv 6))))))),?_⟩
 obtain ⟨d0,e0,o0⟩:=iD hok (i:=0) 0x8 0x1;obtain ⟨d1,e1,o1⟩:=iD hok (i:=1) 0x8 0x1;obtain ⟨d2,e2,o2⟩:=iD hok (i:=2) 0x8 0x1;obtain ⟨d3,e3,o3⟩:=iD hok (i:=3) 0x8 0x1;obtain ⟨o0a,o0b⟩:=o0;obtain ⟨o1a,o1b⟩:=o1;obtain ⟨o2a,o2b⟩:=o2;obtain ⟨o3a,o3b⟩:=o3;refine ⟨rfl,_,rfl,a,_,_,_,rfl,rfl,hS,e1,_,_,rfl,rfl,(by show (0:Int)<8;decide),d1 % 8,rfl,by lia,by lia,fun D hD=>?_⟩
 refine jD (lo:=0) (n:=(d1 % 8).toNat) (fun i ys H2=>∃ cs:List Nat,ys=cs.map (fun c=>V.str (dW [c]))/\cs.length=i/\(∀ c∈cs,low c=true)/\Same H H2/\H2 D=some (.lst ys))
  ⟨[],rfl,rfl,(fun c hc=>nomatch hc),aq hD _,ak⟩ (fun i ys H2 ⟨cs,_,_,_,_,h⟩=>h) ?_ ?_
 ·rintro i ys H2 hi ⟨cs,rfl,hl,hc,s2,h2⟩;have S2:=s2.seq hS;refine 0x21;refine dG ?_;have hm0:=Int.emod_nonneg (d0+(0+(i:Int)+1) * (d1 / 8)) (show (26:Int)≠0 by decide)
  have hm1:=Int.emod_lt_of_pos (d0+(0+(i:Int)+1) * (d1 / 8)) (show (0:Int)<26 by decide)
  have hT:((d0+(0+(i:Int)+1) * (d1 / 8)) % 26).toNat<26:=by
   generalize (d0+(0+(i:Int)+1) * (d1 / 8)) % 26=T at hm0 hm1 ⊢;lia
  refine ⟨_,rfl,_,rfl,a,_,_,_,rfl,rfl,S2,e0,_,rfl,_,_,rfl,rfl,_,rfl,a,_,_,_,rfl,rfl,S2,e1,_,_,rfl,rfl,⟨by decide,by decide⟩,_,_,rfl,rfl,.inl ⟨by lia,by lia⟩,_,_,rfl,rfl,_,_,rfl,rfl,(by show (0:Int)<26;decide),
   _,_,_,rfl,rfl,(by show az.length<=sizeLine;decide +kernel),Og hm0 hm1,h2,?_,?_⟩
  ·rw [bL];exact bY 0x1
  ·exact ⟨cs++[97+((d0+(0+(i:Int)+1) * (d1 / 8)) % 26).toNat],by rw [jO];rfl,by simp [hl],(fun d hd=>by
    rcases List.mem_append.mp hd with z | z
    ·exact hc d z
    ·rw [List.mem_singleton.mp z];exact Oh hT),aW s2 hD,ak⟩
 ·rintro ys H2 ⟨cs,rfl,hl,hc,s2,h2⟩;have hm:cs.map (fun c=>V.str (dW [c]))=(cs.map (fun c=>dW [c])).map V.str:=by simp
  refine ⟨_,D,cs.map (fun c=>dW [c]),rfl,rfl,bf.of (by rw [<- hm];exact h2),Tj 0x1,?_⟩;rw [Dt];have S2:=s2.seq hS;have lc:(dW cs).length=cs.length:=gb cs;refine ⟨_,rfl,a,_,_,_,rfl,rfl,S2,e2,_,rfl,_,rfl,(by rw [lc];exact small 0x1),_,_,rfl,rfl,_,_,rfl,rfl,(by rw [lc];lia),?_⟩;rw [lc];have q0:0<=d2 % ((cs.length:Int)+1):=Int.emod_nonneg _ 0x1;have q1:d2 % ((cs.length:Int)+1)<(cs.length:Int)+1:=Int.emod_lt_of_pos _ 0x1;obtain ⟨at_,hat⟩:∃ n:Nat,d2 % ((cs.length:Int)+1)=(n:Int):=⟨(d2 % ((cs.length:Int)+1)).toNat,by lia⟩;rw [hat] at q0 q1;refine ⟨small 0x4,fun l hl0=>?_⟩;have hl1:H l=none:=s2.free hl0;refine ⟨_,rfl,many,rfl,by lia,by lia,?_⟩;refine gW (lo:=0) (n:=many.toNat) (fun j σ H4=>∃ (zs:List Str) (u1 u2 u3:Option V),σ=[some (.ref a),some (.int many),some (.str az),u1,some (.str (dW cs)),some (.int (at_:Int)),some (.ref l),u2,u3]/\Same H H4/\H4 l=some (.lst (zs.map V.str))/\zs.length=j/\Told (if d2 / 8 % 2=1 then 0 else at_) d3 zs)
   ⟨[],none,none,none,(by rw [<- hat];rfl),aW s2 hl1,ak,rfl,fun j z h=>by simp at h⟩ ?_ ?_
  ·rintro j σ H4 hj ⟨zs,u1,u2,u3,rfl,s4,hL,hz,ht⟩;have S4:=s4.seq hS;have hm0:=Int.emod_nonneg (d3+7 * (0+(j:Int))) (show (26:Int)≠0 by decide)
   have hm1:=Int.emod_lt_of_pos (d3+7 * (0+(j:Int))) (show (0:Int)<26 by decide)
   refine ⟨_,rfl,_,rfl,a,_,_,_,rfl,rfl,S4,e3,_,rfl,_,_,rfl,rfl,.inl ⟨by decide,by decide⟩,_,_,rfl,rfl,_,_,rfl,rfl,(by show (0:Int)<26;decide),_,_,_,rfl,rfl,(by show az.length<=sizeLine;decide +kernel),Og hm0 hm1,?_⟩
   have hc0:low (97+((d3+7 * (0+(j:Int))) % 26).toNat)=true:=Oh 0x1;have hcj:97+((d3+7 * (0+(j:Int))) % 26).toNat=97+((d3+7 * (zs.length:Int)) % 26).toNat:=by rw [hz,Int.zero_add]
   generalize 97+((d3+7 * (0+(j:Int))) % 26).toNat=c at hc0 hcj ⊢;refine ⟨_,rfl,_,rfl,_,rfl,_,rfl,(by rw [lc];exact small 0x1),_,rfl,?_⟩;have f1:pW (dW cs).cps.toList none (some (at_:Int))=cs.take at_:=Tz (by show at_<=cs.length;lia)
   have f2:pW (dW cs).cps.toList (some (at_:Int)) none=cs.drop at_:=Jy (by show at_<=cs.length;lia)
   rw [f1];have l1:(dW (cs.take at_)++dW [c]).length=at_+1:=by rw [Tp,gb,gb,List.length_take,Nat.min_eq_left 0x1];rfl
   refine ⟨_,_,rfl,rfl,(by rw [gb,gb,List.length_take];exact small (by simp;lia)),?_⟩;refine ⟨_,rfl,_,rfl,_,rfl,_,rfl,(by rw [lc];exact small 0x1),?_⟩;rw [f2];refine ⟨_,_,rfl,rfl,(by rw [l1,gb,List.length_drop];exact small 0x1),?_⟩;have en:(dW (cs.take at_)++dW [c]++dW (cs.drop at_)).cps.toList=cs.take at_++[c]++cs.drop at_:=by rw [app_list,app_list]
   refine ⟨_,rfl,a,_,_,_,rfl,rfl,S4,e2,_,_,rfl,rfl,⟨by decide,by decide⟩,_,_,rfl,rfl,(by show (0:Int)<2;decide),rfl,_,rfl,?_⟩
   refine je (fun hb=>?_) (fun hb=>?_)
   ·have hb1:d2 / 8 % 2=1:=by
     have:=u9 hb;injection this
    rw [if_pos hb1] at ht ⊢;refine ⟨_,rfl,_,rfl,a,_,_,_,rfl,rfl,S4,e0,_,rfl,_,_,rfl,rfl,.inl ⟨by decide,by decide⟩,_,_,rfl,rfl,_,_,rfl,rfl,(by show (0:Int)<8;decide),_,_,rfl,rfl,?_⟩
    have r0:=Int.emod_nonneg (d0+3 * (0+(j:Int))) (show (8:Int)≠0 by decide)
    have r1:=Int.emod_lt_of_pos (d0+3 * (0+(j:Int))) (show (0:Int)<8 by decide)
    refine ⟨_,_,rfl,rfl,by lia,by lia,(by show (dW [c]).length<=1000;rw [gb];simp),?_⟩
    have ec:(dW [c]).cps.toList=[c]:=rfl;rw [ec,rep1];refine ⟨_,rfl,.inl ⟨rfl,_,bf.of hL⟩,_,rfl,l,_,_,rfl,rfl,hL,(by rw [bL];exact bY 0x1),?_⟩;refine ⟨zs++[dW (List.replicate (1+(d0+3 * (0+(j:Int))) % 8).toNat c)],_,_,_,rfl,aW s4 hl1,by rw [ak,jO];rfl,by rw [jj,List.length_singleton,hz],ht.snoc ?_ ?_⟩
    ·rw [<- hcj]
     show (List.replicate _ c)[0]?=some c
     rw [List.getElem?_replicate,if_pos 0x1]
    ·refine Af (fun x hx=>?_) ?_ ?_
     ·have:=(List.mem_replicate.mp hx).2;rw [this];exact hc0
     ·show 1<=(List.replicate _ c).length
      rw [List.length_replicate];lia
     ·show (List.replicate _ c).length<=8
      rw [List.length_replicate];lia
   ·have hb1:¬ d2 / 8 % 2=1:=fun e=>hb (by show decide (V.int (d2 / 8 % 2)=V.int 1)=true;rw [e];rfl)
    rw [if_neg hb1] at ht ⊢;refine ⟨_,rfl,.inl ⟨rfl,_,bf.of hL⟩,_,rfl,l,_,_,rfl,rfl,hL,(by rw [bL];exact bY 0x1),?_⟩;refine ⟨zs++[dW (cs.take at_)++dW [c]++dW (cs.drop at_)],_,_,_,rfl,aW s4 hl1,by rw [ak,jO];rfl,by rw [jj,List.length_singleton,hz],ht.snoc ?_ ?_⟩
    ·rw [en,<- hcj,List.append_assoc,List.getElem?_append_right (by rw [List.length_take];lia),List.length_take,Nat.min_eq_left 0x1,Nat.sub_self];rfl
    ·rw [en];refine Af (fun x hx=>?_) ?_ ?_
     ·rcases List.mem_append.mp hx with z | z
      ·rcases List.mem_append.mp z with z | z
       ·exact hc x (List.mem_of_mem_take z)
       ·rw [List.mem_singleton.mp z];exact hc0
      ·exact hc x (List.mem_of_mem_drop z)
     ·rw [jj,jj,List.length_singleton];lia
     ·rw [jj,jj,List.length_take,List.length_drop,List.length_singleton];lia
  ·rintro σ H4 ⟨zs,u1,u2,u3,rfl,s4,hL,hz,ht⟩;refine ⟨_,rfl,k l H4 zs s4 hl1 hL hz (fun z hzm=>?_) (ht.nodup 0x1)⟩;obtain ⟨i,hi,rfl⟩:=List.mem_iff_getElem.mp hzm;exact (ht i _ (dB hi)).2
def oV:List V:=[.str "heir",.str "grant",.str "part",.str "convey",.str "liege",.str "surrender",.str "death"]
def GR:Sp:=fun vs H Q _=>vs=[]/\∀ p,H p=none->Q (.ref p) (upd H p (.lst oV))
theorem TF:aY [] [] (aH Dh):=0x0
theorem Oj (F:gQ K "_law_kinds" "_law_kinds" Dh f fd):aX P w K mg base cU 1 f fd [] GR:=by
 refine F.ok TF 0xA 0x3
 ·obtain ⟨rfl,_⟩:=h;rfl
 obtain ⟨rfl,k⟩:=h;refine ⟨_,aJ (bG (cL (aj aD (aj aD (aj aD (aj aD (aj aD (aj aD (aj aD ao))))))))),?_⟩;exact ⟨small 0x4,k⟩
def cD:List (Key×V):=[(.inr "heir",.str "dnn"),(.inr "grant",.str "dcnnas"),(.inr "part",.str "dnnna"),(.inr "convey",.str "dnn"),(.inr "liege",.str "dnc"),(.inr "surrender",.str "dn"),(.inr "death",.str "dn")]
theorem xJ:dY [] cD=cD:=by decide +kernel
theorem sE (k:Str):jE cD (.inr k)=(form k).map fun l=>V.str (qt l):=by
 unfold form forms cD;have key:∀ (r:List (Key×V)) (q:List (Str×List cW)) (x:Str) (t:Str) (l:List cW),t=qt l->jE r (.inr k)=(q.lookup k).map (fun l=>V.str (qt l))->jE ((Sum.inr x,V.str t)::r) (.inr k)=(((x,l)::q).lookup k).map fun l=>V.str (qt l):=by
  intro r q x t l ht h
  by_cases e:k=x
  ·subst e;rw [kY rfl,List.lookup_cons];simp [ht]
  ·have e':(k==x)=false:=by simpa using e
   have e2:¬ (Sum.inr x:Key)=Sum.inr k:=fun h=>e (by injection h with h;exact h.symm);rw [kZ e2,List.lookup_cons,e'];exact h
 refine key _ _ _ _ _ 0xE (key _ _ _ _ _ 0xE (key _ _ _ _ _ 0xE (key _ _ _ _ _ 0xE (key _ _ _ _ _ 0xE (key _ _ _ _ _ 0xE (key _ _ _ _ _ 0xE rfl))))))
def sG:Sp:=fun vs H Q _=>vs=[]/\∀ p,H p=none->Q (.ref p) (upd H p (.dK cD))
theorem Ol:aY [] [] (aH nT):=0x0
theorem Ag:∃ j0 p0 j1 p1 j2 p2 j3 p3 j4 p4 j5 p5 j6 p6 j7 p7 j8 p8 j9 p9 j10 p10 j11 p11 j12 p12 j13 p13 q q',gP nT=[.Return (some (.Dict [some (.Constant (.str "heir") j0 p0),some (.Constant (.str "grant") j1 p1),some (.Constant (.str "part") j2 p2),some (.Constant (.str "convey") j3 p3),some (.Constant (.str "liege") j4 p4),some (.Constant (.str "surrender") j5 p5),some (.Constant (.str "death") j6 p6)] [.Constant (.str "dnn") j7 p7,.Constant (.str "dcnnas") j8 p8,.Constant (.str "dnnna") j9 p9,.Constant (.str "dnn") j10 p10,.Constant (.str "dnc") j11 p11,.Constant (.str "dn") j12 p12,.Constant (.str "dn") j13 p13] q)) q']:=⟨_,_,_,_,_,_,_,_,_,_,_,_,_,_,_,_,_,_,_,_,_,_,_,_,_,_,_,_,_,_,rfl⟩
theorem Dy:yD X (gP nT) (Ks (nO [(tC (.str "heir"),tC (.str "dnn")),(tC (.str "grant"),tC (.str "dcnnas")),(tC (.str "part"),tC (.str "dnnna")),(tC (.str "convey"),tC (.str "dnn")),(tC (.str "liege"),tC (.str "dnc")),(tC (.str "surrender"),tC (.str "dn")),(tC (.str "death"),tC (.str "dn"))])):=by
 obtain ⟨j0,p0,j1,p1,j2,p2,j3,p3,j4,p4,j5,p5,j6,p6,j7,p7,j8,p8,j9,p9,j10,p10,j11,p11,j12,p12,j13,p13,q,q',h⟩:=Ag;rw [h];refine aJ ?_;refine bG ?_;refine wN ?h ?a ?b ?c ?d
 case a=>exact rfl
 case b=>exact rfl
 case c=>exact List.cons_ne_nil _ _
 case d=>exact Nat.le_of_ble_eq_true rfl
 case h=>exact (cP aD aD (cP aD aD (cP aD aD (cP aD aD (cP aD aD (cP aD aD (cP aD aD wM)))))))
theorem iG {a b:V}{r:List (TE×TE)}{Q:List (V×V)->Hp->Prop} (h:mQ r σ H fun ps H3=>Q ((a,b)::ps) H3):mQ ((tC a,tC b)::r) σ H Q:=h
theorem Om {Q:List (V×V)->Hp->Prop} (h:Q [] H):mQ [] σ H Q:=h
theorem xK:([(.str "heir",.str "dnn"),(.str "grant",.str "dcnnas"),(.str "part",.str "dnnna"),(.str "convey",.str "dnn"),(.str "liege",.str "dnc"),(.str "surrender",.str "dn"),(.str "death",.str "dn")]:List (V×V))=cD.map fun kv=>(kV kv.1,kv.2):=rfl
theorem tRD {D:Ends} (h:∀ p,H p=none->mQ K9 σ (upd H p (.dK [])) fun ps H2=>H2 p=some (.dK [])/\∃ kvs:List (Key×V),ps=kvs.map (fun kv=>(kV kv.1,kv.2))/\kvs.length<=15/\D.rt (.ref p) (upd H2 p (.dK (dY [] kvs)))):Ks (nO K9) D σ H:=h
theorem Jz (F:gQ K "_law_shapes" "_law_shapes" nT f fd):aX P w K mg base cU 1 f fd [] sG:=by
 refine F.ok Ol 0xA 0x3
 ·obtain ⟨rfl,_⟩:=h;rfl
 obtain ⟨rfl,k⟩:=h;refine ⟨Ks (nO _),@Dy _,?y⟩;refine tRD fun p hp=>?_;refine iG (iG (iG (iG (iG (iG (iG (Om ?_)))))));refine ⟨ak,cD,xK,Nat.le_of_ble_eq_true rfl,?_⟩;rw [pY,xJ];exact k p hp
theorem u1 {k:Nat} (r:cI k A):A.units+1<cLine:=by have:=r.un;lia
theorem Oo (s:cW):(!(Builtin.Str.occurrences "das" (dW [s.code]) 0 (Str.length "das") 1).isEmpty)=s.num:=by cases s <;> decide +kernel
theorem Oq (s:cW):decide (V.str (dW [s.code])=V.str "a")=decide (s=.a):=by cases s <;> decide +kernel
theorem Ot (s:cW):decide (V.str (dW [s.code])=V.str "c")=decide (s=.c):=by cases s <;> decide +kernel
theorem lC (l:List cW):(qt l).cps.toList=l.map cW.code:=by simp [qt]
theorem qu (l:List cW):(qt l).length=l.length:=by rw [qt,gb,bL]
theorem Ah {l:List cW} (h:i<l.length):(qt l).cps.toList.getD i 0=(l.getD i .d).code:=by
 rw [lC,iw,iw,iK,dB h];rfl
theorem TJ (s:cW) (n:Int) (h:s.num=true) (hr:s.row=true):jm s (.int n)=(decide ((if decide (s=.a)=true then 1 else 0)<=n)&&decide (n<=9999)):=by
 cases s <;> first | rfl | (cases hr;done) | (cases h;done)
theorem GX (s:cW) (z:Str) (h:s.num=false):jm s (.str z)=(nameB z.cps.toList||(decide (s=.c)&&decide (z=""))):=by
 cases s with
 | n=>show nameB z.cps.toList=(nameB z.cps.toList||(false&&decide (z="")));simp
 | c=>show (decide (z="")||nameB z.cps.toList)=(nameB z.cps.toList||(true&&decide (z="")));rw [Bool.true_and,Bool.or_comm]
 | d=>cases h
 | a=>cases h
 | s=>cases h
 | b=>cases h
 | e=>cases h
theorem ni {y:Str}:decide (V.str x=V.str y)=decide (x=y):=decide_eq_decide.mpr ⟨fun e=>by injection e,fun e=>by rw [e]⟩
def xM (l:List cW) (rest:List V):Prop:=∀ (i:Nat) (s:cW) (v:V),l[i]?=some s->rest[i]?=some v->jm s v=true
theorem Ou {l:List cW}{s:cW} (h:xM l rest) (hs:l[rest.length]?=some s) (hv:jm s v=true):xM l (rest++[v]):=by
 intro j t u e1 e2
 by_cases hlt:j<rest.length
 ·rw [List.getElem?_append_left hlt] at e2;exact h j t u e1 e2
 ·have hj':j<(rest++[v]).length:=(List.getElem?_eq_some_iff.mp e2).1;have e:j=rest.length:=by rw [jj,List.length_singleton] at hj';lia
  subst e;rw [List.getElem?_append_right 0x6,Nat.sub_self] at e2;have:v=u:=by simpa using e2
  subst this;rw [hs] at e1;cases e1;exact hv
theorem TQ {l:List cW} (h:xM l rest) (hv:∀ s,l[j]?=some s->jm s v=true):xM l (rest.set j v):=by
 intro i t u e1 e2
 by_cases hij:i=j
 ·subst hij;have hl:=(List.getElem?_eq_some_iff.mp e2).1;rw [List.length_set] at hl;rw [List.getElem?_set_self hl] at e2;cases e2;exact hv t e1
 ·rw [List.getElem?_set_ne (fun e=>hij e.symm)] at e2;exact h i t u e1 e2
theorem TV {l:List cW} (h:xM l rest):(l.zip rest).all mV=true:=by
 rw [List.all_eq_true];intro p hp;obtain ⟨i,hi⟩:=List.mem_iff_getElem?.mp hp;have h2:=List.getElem?_zip_eq_some.mp hi;exact h i _ _ h2.1 h2.2
theorem sH {s:cW} (h:nameB z.cps.toList=true) (hs:s.num=false):jm s (.str z)=true:=by
 rw [GX s z hs,h];rfl
theorem Y5 {k:Str}{l:List cW} (hf:form k=some l) (hl:rest.length=l.length) (h:xM l rest) (h2:two k=false\/rest[1]?≠rest[2]?):pJ k rest=true:=by
 unfold pJ;rw [hf]
 show (decide (rest.length=l.length)&&0x2D)=true
 rw [decide_eq_true hl,TV h];rcases h2 with h2 | h2
 ·rw [h2];rfl
 ·rw [decide_eq_false h2];simp
theorem kinds_ok:∀ i:_root_.Fin 7,(match oV[i.val]? with | some (.str k)=>(form k).isSome | _=>false)=true:=by decide +kernel
theorem Ov {i:Int} (h0:0<=i) (h1:i<7):∃ k l,lK oV i=some (.str k)/\form k=some l:=by
 have e:i=((i.toNat:Nat):Int):=by lia
 have h:=kinds_ok ⟨i.toNat,by lia⟩;simp only at h
 split at h
 ·rename_i k hk
  obtain ⟨l,hl⟩:=Option.isSome_iff_exists.mp h;refine ⟨k,l,?_,hl⟩;have q:lK oV ((i.toNat:Nat):Int)=some (.str k):=bh hk;rw [<- e] at q;exact q
 ·cases h
theorem num5 {x:Int} (hx0:0<=x) (hx1:x<=9999) {j:Int} (h0:0<=j) (h1:j<5):∃ n,lK [V.int x,V.int x,V.int 9999,V.int 1,V.int 0] j=some (V.int n)/\0<=n/\n<=9999:=by
 obtain ⟨v,e,m⟩:=gk (xs:=[V.int x,V.int x,V.int 9999,V.int 1,V.int 0]) h0 h1;simp only [List.mem_cons,List.not_mem_nil,or_false] at m;rcases m with rfl | rfl | rfl | rfl | rfl
 ·exact ⟨_,e,hx0,hx1⟩
 ·exact ⟨_,e,hx0,hx1⟩
 ·exact ⟨_,e,by decide,by decide⟩
 ·exact ⟨_,e,by decide,by decide⟩
 ·exact ⟨_,e,by decide,by decide⟩
theorem TX {s:cW}{n:Int} (hs:s.num=true) (hr:s.row=true) (h0:0<=n) (h1:n<=9999):jm s (.int (if (if decide (V.str (dW [s.code])=V.str "a") then (1:Int) else 0) > n then (if decide (V.str (dW [s.code])=V.str "a") then (1:Int) else 0) else n))=true:=by
 rw [Oq];cases s with
 | n=>cases hs
 | c=>cases hs
 | b=>cases hr
 | e=>cases hr
 | d =>
  have e:decide (cW.d=cW.a)=false:=rfl;rw [e,if_neg (show ¬ (if (false=true) then (1:Int) else 0) > n by rw [if_neg Bool.false_ne_true];lia)]
  show (decide (0<=n)&&decide (n<=9999))=true
  rw [decide_eq_true h0,decide_eq_true h1];rfl
 | s =>
  have e:decide (cW.s=cW.a)=false:=rfl;rw [e,if_neg (show ¬ (if (false=true) then (1:Int) else 0) > n by rw [if_neg Bool.false_ne_true];lia)]
  show (decide (0<=n)&&decide (n<=9999))=true
  rw [decide_eq_true h0,decide_eq_true h1];rfl
 | a =>
  have e:decide (cW.a=cW.a)=true:=rfl;rw [e,if_pos rfl]
  by_cases h:(1:Int) > n
  ·rw [if_pos h];rfl
  ·rw [if_neg h]
   show (decide (1<=n)&&decide (n<=9999))=true
   rw [decide_eq_true (show 1<=n by lia),decide_eq_true h1];rfl
theorem sI {α:Type} [DecidableEq α] (x:α):∀ (zs:List α),zs.Nodup->zs.length<=(zs.filter fun z=>!decide (z=x)).length+1
 | [],_=>by simp
 | z::zs,h=>by
  have h1:=List.nodup_cons.mp h
  by_cases e:z=x
  ·subst e;have:(zs.filter fun y=>!decide (y=z))=zs:=by
    rw [List.filter_eq_self];intro y hy;have:y≠z:=fun e=>h1.1 (e ▸ hy);simp [this]
   rw [List.filter_cons_of_neg 0x4,this,jT];exact Nat.le_refl _
  ·have ih:=sI x zs h1.2;rw [List.filter_cons_of_pos (by simp [e]),jT,jT];lia
theorem JB {l:List cW}{s:cW} (h:pI l rest) (hs:l[rest.length]?=some s) (hv:isI v=s.num):pI l (rest++[v]):=by
 intro j t u e1 e2
 by_cases hlt:j<rest.length
 ·rw [List.getElem?_append_left hlt] at e2;exact h j t u e1 e2
 ·have hj':j<(rest++[v]).length:=(List.getElem?_eq_some_iff.mp e2).1;have e:j=rest.length:=by rw [jj,List.length_singleton] at hj';lia
  subst e;rw [List.getElem?_append_right 0x6,Nat.sub_self] at e2;have:v=u:=by simpa using e2
  subst this;rw [hs] at e1;cases e1;exact hv
theorem Ow {l:List cW}{w:V} (h:pI l rest) (hw:rest[j]?=some w) (hv:isI v=isI w):pI l (rest.set j v):=by
 intro i t u e1 e2
 by_cases hij:i=j
 ·subst hij;have hl:=(List.getElem?_eq_some_iff.mp hw).1;rw [List.getElem?_set_self hl] at e2;cases e2;rw [hv];exact h i t w e1 hw
 ·rw [List.getElem?_set_ne (fun e=>hij e.symm)] at e2;exact h i t u e1 e2
theorem xO (h:nameB z.cps.toList=true):Ry 20 (.str z):=by
 unfold nameB at h;rw [Bool.and_eq_true,Bool.and_eq_true] at h;obtain ⟨h1,h2,h3⟩:=h;have h3':=u9 h3;refine .inr ⟨z,rfl,(by have:z.length=z.cps.toList.length:=(by simp [Str.length]);lia),fun c hc=>?_⟩;have:=List.all_eq_true.mp h1 c hc;unfold low at this;rw [Bool.and_eq_true] at this;have:=u9 this.2;lia
inductive GZ (K:PySem.W.Frag) (vs:List V) (H:Hp) (Q:VK):Prop
 | mk (a b:Addr) (ds:List Int) (zs:List Str) (_:vs=[.ref a,.ref b]) (_:bf K H a (ds.map V.int)) (_:14<=ds.length) (_:(∀ v∈ds,Ka v)) (_:bf K H b (zs.map V.str)) (_:2<=zs.length) (_:zs.length<=7) (_:(∀ z∈zs,nameB z.cps.toList=true)) (_:zs.Nodup) (_:∀ p k rest H',Same H H'->H' p=some (.tup (.str k::rest))->rest.length<=6->Row 20 k rest->pJ k rest=true->Q (.ref p) H'):GZ K vs H Q
def VB (K:PySem.W.Frag):Sp:=fun vs H Q _=>GZ K vs H Q
theorem uU:aY ["_law_d", "_law_names_here", "_law_kind", "_law_row", "_law_k", "_law_sort", "_law_number"] ["_law_d", "_law_names_here"] (aH Tg):=0x0
def scY1:Scope:={ kind:=.function,names:=[(".0",.local),("_law_one",.local),("_law_row",.free)],isGenerator:=false,isCoroutine:=false }
theorem csY1:dw ["_law_d", "_law_names_here", "_law_kind", "_law_row", "_law_k", "_law_sort", "_law_number"] (aH Tg) scY1 ["_law_one"] ["_law_row"] [3]:=0x2
theorem ndY1:((["_law_one"]:List Str)++(["_law_row"]:List Str)).Nodup:=by decide +kernel
theorem Y6 (F:gQ K "_law_any_row" "_law_any_row" Tg f fd) (ml:mg "len"=none) (mt:mg "int"=none) (me:mg "enumerate"=none) (mx:mg "max"=none) (mu:mg "tuple"=none)  (G1:aX P w K mg base cU 1 g1 d1 [] sG) (M1:Ms K mg "_law_shapes" g1 d1 [])
  (G2:aX P w K mg base cU 1 g2 d2 [] GR) (M2:Ms K mg "_law_kinds" g2 d2 []):aX P w K mg base cU 2 f fd ["_law_d", "_law_names_here"] (VB K):=by
 refine F.ok uU 0xA 0x3
 ·obtain ⟨a,b,ds,zs,rfl,_⟩:=h;rfl
 obtain ⟨a,b,ds,zs,rfl,hS,hlen,hok,hB,h7,h7',hnm,hnd,kk⟩:=h;refine ⟨_,aC (bU (i:=2) uU.nd rfl 0x5 (aK aU (nq G2 hr rfl M2.m M2.k M2.b .nil bN) (aQ bO (aK aU 0x10 au 0x9) au) 0x9))
  (aC (bU (i:=3) uU.nd rfl (Or.inr rfl) (cL (aj (pv 2) ao)))
  (aC (iy PassesOwn.never rfl (N8 rfl me (aj (cC (u1 hr) (nq G1 hr rfl M1.m M1.k M1.b .nil bN) (pv 2) 0x9) ao)) (fu rfl (bw (aO (i:=4) uU.nd rfl 0x5) (bw (aO (i:=5) uU.nd rfl 0x5) cQ)))
   (aC (bU (i:=6) uU.nd rfl 0x5 (aK aU (cL (aj (aQ bO (aK aU 0x10 (aQ bZ au (pv 4)) 0x9) au) (aj (aQ bO (aK aU 0x10 (aQ bZ au (pv 4)) 0x9) au)
     (aj au (aj au (aj au ao)))))) (aQ bO (aK aU 0x10 (aQ bZ au (pv 4)) 0x9) au) 0x9))
   (aJ (cH (aN oF (pv 5) aD 0x16)
    (aJ (bW (gw PySem.F.plainAttrs_list PySem.F.slot_list_append PySem.F.type_list_append c7 (pv 3) (aj (aP (J0 rfl) rfl mx Xa (aj (pv 6) (aj (bM oG rfl mt wD (aj (fB cu (pv 5) aD (aZ _)) ao)) ao))) ao))))
    (aJ (cH (PW.pt (jU (aN cu (pv 5) aD (aZ _)) (iQ (aN cu (aQ bO (aK aU 0x10 (aQ bZ au (pv 4)) 0x9) au) au (aZ _)))))
     (aJ (bW (gw PySem.F.plainAttrs_list PySem.F.slot_list_append PySem.F.type_list_append c7 (pv 3) (aj aD ao))))
     (aJ (bW (gw PySem.F.plainAttrs_list PySem.F.slot_list_append PySem.F.type_list_append c7 (pv 3) (aj (aK aU (pv 1) (aQ bO (aK aU 0x10 (aQ bZ au (pv 4)) 0x9) (aP bQ rfl ml PySem.boot_len (aj (pv 1) ao))) 0x9) ao))))))))))
  (aC (cH (PW.pt (jU (aN jk (pv 2) (cJ (aj aD (aj aD ao))) 0x16) (iQ (aN cu (aK aU (pv 3) au 0x9) (aK aU (pv 3) au 0x9) (aZ _)))))
   (aJ (gG (aK aU (eN rfl csY1 (fX (pv 1)) (fun s H fp C=>⟨aO (i:=0) ndY1 rfl 0x5,wB (aN mq 0x10 (aK (iB (K:=K)) (pv 1) au 0x9) (aZ _)),pv 0⟩))
     (aQ bO (aK aU 0x10 au 0x9) (aQ BW (aP bQ rfl ml PySem.boot_len (aj (pv 1) ao)) au)) 0x9) (vY (pv 3) au set_list))) bK)
  (aJ (bG (bM tU rfl mu qZ (aj (pv 3) ao))))))),?_⟩
 obtain ⟨d0,e0,o0⟩:=iD hok (i:=0) 0x8 0x1;obtain ⟨d7,e7,o7⟩:=iD hok (i:=7) 0x8 0x1;obtain ⟨k,l,ek,hf⟩:=Ov (i:=d0 % 7) (Int.emod_nonneg _ 0x8) (Int.emod_lt_of_pos _ 0x8);obtain ⟨l2,l6⟩:=nU hf;refine ⟨rfl,fun p hp=>?_⟩;have s1:Same H (upd H p (.lst oV)):=aq hp _;refine ⟨_,rfl,a,_,_,_,rfl,rfl,s1.seq hS,e0,_,_,rfl,rfl,(by show (0:Int)<7;decide),p,_,_,_,rfl,rfl,bf.of ak,ek,?_⟩
 generalize upd H p (.lst oV)=H1 at s1 ⊢;refine ⟨_,rfl,small 0x4,fun r hr1=>?_⟩;have hr0:H r=none:=s1.free hr1;have s2:Same H (upd H1 r (.lst [V.str k])):=aW s1 hr0;have r2:(upd H1 r (.lst [V.str k])) r=some (.lst [V.str k]):=ak;generalize upd H1 r (.lst [V.str k])=H2 at s2 r2 ⊢;refine ⟨rfl,fun q hq=>?_⟩;have s3:Same H2 (upd H2 q (.dK cD)):=aq hq _;have g3:gR (upd H2 q (.dK cD)) q (V.str k) (some (V.str (qt l))):=by
  have:=gR.k (k:=.inr k) (show (upd H2 q (.dK cD)) q=some (.dK cD) from ak)
  rw [sE,hf] at this;exact this
 refine ⟨_,rfl,q,_,rfl,g3,qt l,rfl,?_⟩;have r3:=s3 _ _ r2;have t3:=s2.trans s3;generalize upd H2 q (.dK cD)=H3 at t3 r3 ⊢;refine nP (n:=l.length) (fx:=fun i=>V.int (i:Int)) (fy:=fun i=>V.str (dW [(l.getD i .d).code]))
  (fun i σ Hx=>∃ (rest:List V) (u4 u5 u6:Option V),σ=[some (.ref a),some (.ref b),some (.str k),some (.ref r),u4,u5,u6]/\Same H Hx/\Hx r=some (.lst (.str k::rest))/\rest.length=i/\(∀ v∈rest,Ry 20 v)/\pI l rest/\xM l rest) ?_
  ⟨[],none,none,none,rfl,t3,r3,rfl,(fun v hv=>nomatch hv),(fun i s v _ h=>by simp at h),fun i s v _ h=>by simp at h⟩ ?_ ?_
 ·rintro i σ Hx _;have st:=CJ (z:=qt l) (H:=Hx) (i:=i);rw [lC,bL] at st;refine ⟨fun hi=>⟨(st.1 hi).1,fun v H' y=>?_⟩,st.2⟩;obtain ⟨t,e1,e2,e3⟩:=(st.1 hi).2 v H' y;refine ⟨t,e1,e2,?_⟩;have e4:=Ah hi;rw [lC] at e4;rw [e3,e4]
 ·rintro i σ Hx t hi ⟨rest,u4,u5,u6,rfl,sx,rx,hl,hrk,hkp,hft⟩ ht;have h1:l[i]?=some l[i]:=dB hi;rw [at_getD h1];have s4:Same Hx (upd Hx t (.tup [V.int (i:Int),V.str (dW [(l[i]).code])])):=aq ht _;refine ⟨t,_,rfl,bF.of ak,rfl,_,_,rfl,_,_,rfl,rfl,?_⟩;have r4:=s4 _ _ rx;have t4:=sx.trans s4;generalize upd Hx t (.tup [V.int (i:Int),V.str (dW [(l[i]).code])])=H4 at t4 r4 ⊢;obtain ⟨v1,e1,o1⟩:=iD hok (i:=1+(i:Int)) 0x1 0x1;obtain ⟨v8,e8,o8⟩:=iD hok (i:=8+(i:Int)) 0x1 0x1;obtain ⟨n,en,n0,n1⟩:=num5 (x:=v1 % 10000) (Int.emod_nonneg _ 0x8) (by have:=Int.emod_lt_of_pos v1 (show (0:Int)<10000 by decide);lia) (j:=v8 % 5) (Int.emod_nonneg _ 0x8) (Int.emod_lt_of_pos _ 0x8)
  refine ⟨_,rfl,_,rfl,_,_,rfl,rfl,a,_,_,_,rfl,rfl,t4.seq hS,e1,_,_,rfl,rfl,(by show (0:Int)<10000;decide),?_⟩
  refine ⟨_,rfl,_,rfl,_,_,rfl,rfl,a,_,_,_,rfl,rfl,t4.seq hS,e1,_,_,rfl,rfl,(by show (0:Int)<10000;decide),small 0x4,fun c hc=>?_⟩
  have s5:Same H4 (upd H4 c (.lst [V.int (v1 % 10000),V.int (v1 % 10000),V.int 9999,V.int 1,V.int 0])):=aq hc _;refine ⟨_,rfl,_,rfl,_,_,rfl,rfl,a,_,_,_,rfl,rfl,(t4.trans s5).seq hS,e8,_,_,rfl,rfl,(by show (0:Int)<5;decide),c,_,_,_,rfl,rfl,bf.of ak,en,?_⟩
  have r5:=s5 _ _ r4;have t5:=t4.trans s5;generalize upd H4 c (.lst [V.int (v1 % 10000),V.int (v1 % 10000),V.int 9999,V.int 1,V.int 0])=H5 at t5 r5 ⊢;have fin:∀ v,Ry 20 v->isI v=(l[i]).num->jm (l[i]) v=true->∃ (rest':List V) (u4 u5 u6:Option V),([some (V.ref a),some (V.ref b),some (V.str k),some (V.ref r),some (V.int (i:Int)),some (V.str (dW [(l[i]).code])),some (V.int n)]:List (Option V))=[some (.ref a),some (.ref b),some (.str k),some (.ref r),u4,u5,u6]/\Same H (upd H5 r (.lst (V.str k::rest++[v]))) /\
    (upd H5 r (.lst (V.str k::rest++[v]))) r=some (.lst (.str k::rest'))/\rest'.length=i+1/\(∀ v∈rest',Ry 20 v)/\pI l rest'/\xM l rest':=fun v hv hvi hvf =>
   ⟨rest++[v],_,_,_,rfl,aW t5 hr0,ak,by rw [jj,List.length_singleton,hl],fun u hu=>by
    rcases List.mem_append.mp hu with z | z
    ·exact hrk u z
    ·rw [List.mem_singleton.mp z];exact hv,JB hkp (by rw [hl];exact h1) hvi,Ou hft (by rw [hl];exact h1) hvf⟩
  have sz:(V.str k::rest).length<sizeLine:=by rw [jT];exact bY 0x1
  refine ⟨_,rfl,_,_,rfl,rfl,_,rfl,?_⟩;rw [Oo];have S5:=t5.seq hS;have B5:=t5.seq hB;refine je (fun c1=>?_) (fun c1=>?_)
  ·exact ⟨_,rfl,.inl ⟨rfl,_,bf.of r5⟩,_,rfl,_,rfl,rfl,.inr ⟨_,rfl,_,_,rfl,r,_,_,rfl,rfl,r5,sz,fin _ (.inl ⟨_,rfl⟩) (by rw [c1];rfl) (TX c1 (zZ hf h1) n0 n1)⟩⟩
  ·have c1':(l[i]).num=false:=Bool.eq_false_iff.mpr c1;have nam:∃ z,lK (zs.map V.str) (v1 % ((zs.map V.str).length:Int))=some (V.str z)/\nameB z.cps.toList=true:=by
    have hl7:2<=(zs.map V.str).length:=by rw [bL];exact h7
    obtain ⟨x,ex,mx'⟩:=gk (xs:=zs.map V.str) (i:=v1 % ((zs.map V.str).length:Int)) (Int.emod_nonneg _ 0x1) (Int.emod_lt_of_pos _ 0x1);obtain ⟨z,hz,rfl⟩:=List.mem_map.mp mx';exact ⟨z,ex,hnm z hz⟩
   obtain ⟨z,ez,hz⟩:=nam;refine ⟨_,rfl,rfl,_,rfl,?_⟩;refine je (fun c2=>?_) (fun c2=>?_)
   ·have hcf:jm (l[i]) (V.str "")=true:=by
     have hcc:l[i]=cW.c:=u9 ((Ot _).symm.trans c2);rw [hcc];decide +kernel
    refine ⟨_,rfl,_,rfl,_,_,rfl,rfl,a,_,_,_,rfl,rfl,S5,e8,_,_,rfl,rfl,(by show (0:Int)<3;decide),rfl,_,rfl,?_⟩
    refine je (fun c3=>?_) (fun c3=>?_)
    ·exact ⟨_,rfl,.inl ⟨rfl,_,bf.of r5⟩,r,_,_,rfl,rfl,r5,sz,fin _ (.inr ⟨_,rfl,by decide +kernel,by decide +kernel⟩) (by rw [c1'];rfl) hcf⟩
    ·exact 0x22
   ·refine aL ?_;exact 0x22
 ·rintro σ Hx ⟨rest,u4,u5,u6,rfl,sx,rx,hl,hrk,hkp,hft⟩;have done:∀ (rest':List V) (Hy:Hp),Same H Hy->Hy r=some (.lst (.str k::rest'))->rest'.length=l.length->(∀ v∈rest',Ry 20 v)->pI l rest'->xM l rest'->(two k=false\/rest'[1]?≠rest'[2]?)->∀ p,Hy p=none->Q (.ref p) (upd Hy p (.tup (.str k::rest'))):=fun rest' Hy sy ry hly hry hky hfy h2y p hp =>
   kk p k rest' _ (aW sy (sy.free hp)) ak 0x1 ⟨by lia,hry,fun l' hl'=>by rw [hf] at hl';cases hl';exact hky⟩ (Y5 hf hly hfy h2y)
  refine ⟨_,rfl,small 0x4,fun t ht=>?_⟩;have st:Same Hx (upd Hx t (.tup [V.str "heir",V.str "liege"])):=aq ht _;refine ⟨t,_,rfl,.inr (bF.of ak),rfl,rfl,_,rfl,?_⟩
  show if inV (V.str k) [V.str "heir",V.str "liege"]=true then _ else _
  rw [Od];have ry:=st _ _ rx;have sy:=sx.trans st;generalize upd Hx t (.tup [V.str "heir",V.str "liege"])=Hy at ry sy ⊢;refine je (fun h2=>?_) (fun h2=>?_)
  ·obtain ⟨l3,n1,n2⟩:=rZ hf h2;have i1:(1:Nat)<rest.length:=by lia
   have i2:(2:Nat)<rest.length:=by lia
   have q1:rest[1]?=some rest[1]:=dB i1;have q2:rest[2]?=some rest[2]:=dB i2;have w1:l[1]?=some l[1]:=dB 0x1;have w2:l[2]?=some l[2]:=dB 0x1;have v1:isI rest[1]=false:=(hkp 1 _ _ w1 q1).trans (n1 _ w1);have v2:isI rest[2]=false:=(hkp 2 _ _ w2 q2).trans (n2 _ w2);have o1:=hrk _ (List.getElem_mem i1);have o2:=hrk _ (List.getElem_mem i2);refine ⟨_,rfl,r,_,_,_,rfl,rfl,bf.of ry,mW q1 2 rfl,_,rfl,r,_,_,_,rfl,rfl,bf.of ry,mW q2 3 rfl,?_⟩;generalize rest[1]=x1 at *
   generalize rest[2]=x2 at *
   rcases o1 with ⟨n,rfl⟩ | ⟨z1,rfl,_⟩
   ·cases v1
   rcases o2 with ⟨n,rfl⟩ | ⟨z2,rfl,_⟩
   ·cases v2
   refine ⟨rfl,_,rfl,?_⟩;refine je (fun c1=>?_) (fun c1=>?_)
   ·refine ⟨_,rfl,b,rfl,⟨_,sy.seq hB⟩,fun D hD=>?_⟩;have ney:r≠D:=aM ry hD;refine gY (K:=K) (a:=b) (xs:=zs.map V.str) (fun i ys Hz=>ys=((zs.take i).filter fun z=>!decide (z=z1)).map V.str/\Same Hy Hz/\Hz D=some (.lst ys)) (fun i ys Hz h=>(sy.trans h.2.1).seq hB)
     ⟨by simp,aq hD _,ak⟩ (fun i ys Hz h=>h.2.2) ?_ ?_
    ·rintro i ys Hz x hx ⟨rfl,sz,hDz⟩;rw [iK] at hx;obtain ⟨z,hz,rfl⟩:=Option.map_eq_some_iff.mp hx;refine 0x21;refine ⟨_,rfl,_,rfl,r,_,_,_,rfl,rfl,bf.of (sz _ _ ry),mW q1 2 rfl,rfl,_,rfl,?_⟩;have et:(zs.take (i+1)).filter (fun z=>!decide (z=z1))=(zs.take i).filter (fun z=>!decide (z=z1))++(if (!decide (z=z1))=true then [z] else []):=by
      rw [List.take_add_one,hz,List.filter_append]
      congr 1
      by_cases e:z=z1 <;> simp [e]
     rw [ni];refine je (fun c=>?_) (fun c=>?_)
     ·refine ⟨_,rfl,hDz,?_,?_,aW sz hD,ak⟩
      ·rw [bL];have:=List.length_filter_le (fun z=>!decide (z=z1)) (zs.take i);rw [List.length_take] at this;exact bY 0x1
      ·rw [et,if_pos c,jO];rfl
     ·refine ⟨?_,sz,hDz⟩;rw [et,if_neg c,List.append_nil]
    ·rintro ys Hz ⟨rfl,sz,hDz⟩;rw [bL,List.take_length] at hDz;have S7:=(sy.trans sz).seq hS;have B7:=(sy.trans sz).seq hB;have hfl:=sI z1 zs hnd;have Y7:(0:Int)<((zs.map V.str).length:Int) - 1:=by rw [bL];lia
     refine ⟨_,rfl,a,_,_,_,rfl,rfl,S7,e7,_,rfl,b,_,rfl,.inl B7,_,_,rfl,rfl,_,_,rfl,rfl,Y7,?_⟩;have m0:=Int.emod_nonneg d7 (Int.ne_of_gt Y7);have m1:=Int.emod_lt_of_pos d7 Y7;obtain ⟨x,ex,mx'⟩:=gk (xs:=((zs.filter fun z=>!decide (z=z1)).map V.str)) (i:=d7 % (((zs.map V.str).length:Int) - 1)) m0 (by
      have e1:(zs.map V.str).length=zs.length:=bL ..;generalize d7 % (((zs.map V.str).length:Int) - 1)=dd at m0 m1 ⊢;have e2:((zs.filter fun z=>!decide (z=z1)).map V.str).length=(zs.filter fun z=>!decide (z=z1)).length:=bL ..;rw [e2];rw [e1] at m1;lia)
     obtain ⟨z,hz,rfl⟩:=List.mem_map.mp mx';refine ⟨D,_,_,_,rfl,rfl,bf.of hDz,ex,?_⟩;have hzn:=hnm z (List.mem_filter.mp hz).1;refine ⟨_,rfl,r,_,_,3,rfl,rfl,sz _ _ ry,(by unfold FW;rw [if_pos 0x8,if_pos (by rw [jT];lia)];rfl),?_⟩;have tz:=sy.trans sz;have ex3:(V.str k::rest).set 3 (V.str z)=V.str k::rest.set 2 (V.str z):=rfl;rw [ex3];refine ⟨_,rfl,r,_,rfl,.inl ⟨bf.of ak,fun p hp=>?_⟩⟩;refine done (rest.set 2 (V.str z)) _ (aW tz hr0) ak (by rw [List.length_set];exact hl) (fun v hv=>?_) (Ow hkp q2 rfl) (TQ hft fun s hs=>sH hzn (n2 s hs)) (.inr (by
      rw [List.getElem?_set_ne 0x8,q1,List.getElem?_set_self 0x1];intro e;have e':=Option.some.inj e;injection e' with e';have hne:=(List.mem_filter.mp hz).2;rw [<- e',decide_eq_true rfl] at hne;cases hne)) p hp
     rcases List.mem_or_eq_of_mem_set hv with h | h
     ·exact hrk v h
     ·rw [h];exact xO hzn
   ·refine ⟨_,rfl,r,_,rfl,.inl ⟨bf.of ry,fun p hp=>?_⟩⟩;refine done rest Hy sy ry hl hrk hkp hft (.inr ?_) p hp;rw [q1,q2];intro e;exact c1 (decide_eq_true (Option.some.inj e))
  ·refine aL ?_;refine ⟨_,rfl,r,_,rfl,.inl ⟨bf.of ry,fun p hp=>?_⟩⟩;exact done rest Hy sy ry hl hrk hkp hft (.inl (Bool.eq_false_iff.mpr h2)) p hp
inductive uV (vs:List V) (H:Hp) (Q:VK):Prop
 | mk (z:Str) (_:vs=[.str z]) (_:z.length<=1000) (_:(∀ c∈z.cps.toList,c<128)) (_:∀ H',Same H H'->Q (.bl (nameB z.cps.toList)) H'):uV vs H Q
def Hf:Sp:=fun vs H Q _=>uV vs H Q
theorem TY:aY ["_law_word"] ["_law_word"] (aH wX):=0x0
def scM1:Scope:={ kind:=.function,names:=[(".0",.local),("_law_sign",.local)],isGenerator:=false,isCoroutine:=false }
theorem csM1:dw ["_law_word"] (aH wX) scM1 ["_law_sign"] [] []:=0x2
theorem ndM1:((["_law_sign"]:List Str)++([]:List Str)).Nodup:=by decide +kernel
theorem Ox (F:gQ K "_law_named" "_law_named" wX f fd) (ml:mg "len"=none) (ma:mg "all"=none):aX P w K mg base cU 1 f fd ["_law_word"] Hf:=by
 refine F.ok TY 0xA 0x3
 ·obtain ⟨z,rfl,_⟩:=h;rfl
 obtain ⟨z,rfl,K7,hzc,k⟩:=h;refine ⟨_,aJ (bG (jz (qN pB pB au (aP gO rfl ml PySem.boot_len (aj 0x10 ao)) au)
  (jV (aP (jl (K:=K) rfl hr.hd) rfl ma qY (aj (eN rfl csM1 (Mi 0x10) (fun s H fp C=>⟨aO (i:=0) ndM1 rfl 0x5,dN,fB oF 0x10 aD 0x16⟩)) ao))))),?_⟩
 have ez:z.length=z.cps.toList.length:=by simp [Str.length]
 refine ⟨_,rfl,z,rfl,small 0x1,_,_,rfl,rfl,_,rfl,?_⟩;have no:¬ (1<=z.cps.toList.length/\z.cps.toList.length<=8)->nameB z.cps.toList=false:=fun h=>by
  unfold nameB
  by_cases h1:1<=z.cps.toList.length
  ·rw [decide_eq_false (show ¬ z.cps.toList.length<=8 from fun h2=>h ⟨h1,h2⟩)];simp
  ·rw [decide_eq_false h1];simp
 refine je (fun h1=>?_) (fun h1=>?_)
 ·have h1':=u9 h1;refine ⟨_,_,rfl,rfl,_,rfl,?_⟩;refine je (fun h2=>?_) (fun h2=>?_)
  ·have h2':=u9 h2;refine ⟨_,rfl,z,rfl,fun D' hD'=>?_⟩;refine Mj (x:=z) (fun i ys H4=>ys=((z.cps.toList.take i).map low).map V.bl/\Same H H4/\H4 D'=some (.lst ys)) ⟨rfl,aq hD' _,ak⟩ (fun i ys H4 h=>h.2.2) ?_ ?_
   ·rintro j ys H4 c hc ⟨rfl,Vy,Hg⟩;refine 0x21;refine dG ?_;refine ⟨_,rfl,_,_,rfl,rfl,Hg,?_,?_,aW Vy hD',ak⟩
    ·rw [bL,bL,List.length_take];exact bY 0x1
    ·have e:=a0z (hzc c (jL hc));rw [List.take_add_one,hc,jO,jO]
     show _++[V.bl (!(Builtin.Str.occurrences az (dW [c]) 0 az.length 1).isEmpty)]=_
     rw [e];rfl
   ·rintro ys H4 ⟨rfl,Vy,Hg⟩;rw [List.take_length] at Hg;refine ⟨D',_,rfl,bf.of Hg,?_⟩;have eall:(z.cps.toList.map low).all id=z.cps.toList.all low:=by rw [List.all_map];rfl
    rw [eall];have e:nameB z.cps.toList=z.cps.toList.all low:=by
     unfold nameB;rw [decide_eq_true (show 1<=z.cps.toList.length by lia),decide_eq_true (show z.cps.toList.length<=8 by lia)];simp
    rw [<- e];exact k _ Vy
  ·have h2':=of_decide_eq_false (Bool.eq_false_iff.mpr h2);rw [no 0x1] at k;exact k _ (Same.refl _)
 ·have h1':=of_decide_eq_false (Bool.eq_false_iff.mpr h1);rw [no 0x1] at k;exact ⟨_,rfl,aL (k _ (Same.refl _))⟩
inductive Ai (K:PySem.W.Frag) (vs:List V) (H:Hp) (Q:VK):Prop
 | mk (a:Addr) (k:Str) (rest:List V) (_:vs=[.ref a]) (_:bF K H a (.str k::rest)) (_:Row 1000 k rest) (_:∀ H',Same H H'->Q (.bl (pJ k rest)) H'):Ai K vs H Q
def Dz (K:PySem.W.Frag):Sp:=fun vs H Q _=>Ai K vs H Q
theorem a0C {l:List cW} (h:2<=l.length):decide (V.str (qt l)=V.str "?")=false:=by
 refine decide_eq_false fun e=>?_;have e2:qt l="?":=by injection e
 have:=congrArg Str.length e2;rw [qu] at this;have e3:Str.length "?"=1:=by decide +kernel
 lia
theorem xP:aY ["_law_row", "_law_shape", "_law_thing", "_law_kind"] ["_law_row"] (aH NP):=0x0
theorem U0 (F:gQ K "_law_good" "_law_good" NP f fd) (ml:mg "len"=none) (mt:mg "int"=none) (mz:mg "zip"=none)  (G1:aX P w K mg base cU 1 g1 d1 [] sG) (M1:Ms K mg "_law_shapes" g1 d1 [])
  (G2:aX P w K mg base cU 1 g2 d2 ["_law_word"] Hf) (M2:Ms K mg "_law_named" g2 d2 ["_law_word"]):aX P w K mg base cU 2 f fd ["_law_row"] (Dz K):=by
 refine F.ok xP 0xA 0x3
 ·obtain ⟨a,k,rest,rfl,_⟩:=h;rfl
 obtain ⟨a,k,rest,rfl,hS,R,kk⟩:=h;refine ⟨_,aC (bU (i:=1) xP.nd rfl 0x5 (zF (u1 hr) (nq G1 hr rfl M1.m M1.k M1.b .nil bN) (aK bA 0x10 au 0x9) aD ⟨rfl,rfl,rfl,rfl⟩))
  (aC (cH (PW.pt (ud (aN mq (aP bQ rfl ml PySem.boot_len (aj 0x10 ao)) (aQ bZ au (aP gO rfl ml PySem.boot_len (aj (pv 1) ao))) (aZ _))
    (oE (aN cu (pv 1) aD (aZ _))))) (aJ (bG dU)) bK)
  (aC (iy PassesOwn.never rfl (N7 rfl mz (aj (cT jd 0x10 (cR au) fZ) (aj (pv 1) ao))) (fu rfl (bw (aO (i:=2) xP.nd rfl 0x5) (bw (aO (i:=3) xP.nd rfl 0x5) cQ)))
   (aJ (cH (aN oF (pv 3) aD 0x16)
    (aJ (cH (eU (KC pB pB (bM oG rfl mt wD (aj (fB cu (pv 3) aD (aZ _)) ao)) (pv 2) au)) (aJ (bG dU)) bK))
    (aJ (cH (PW.pt (jU (eU (dX (bB G2 hr rfl M2.m M2.k M2.b .nil bN (aj (pv 2) ao)))) (iQ (eU (PW.pt (jU (aN cu (pv 3) aD (aZ _)) (iQ (aN cu (pv 2) aD (aZ _))))))))) (aJ (bG dU)) bK)))))
  (aJ (bG (vW (jz (fB jk (aK bA 0x10 au 0x9) (cJ (aj aD (aj aD ao))) 0x16)
   (jV (fB cu (aK bA 0x10 au 0x9) (aK bA 0x10 au 0x9) (aZ _))))))))),?_⟩
 refine ⟨rfl,fun p hp=>⟨p,rfl,.inl ⟨_,.inl ak⟩,?_⟩⟩;have s1:Same H (upd H p (.dK cD)):=aq hp _;refine ⟨_,rfl,a,_,_,_,rfl,rfl,s1.wO hS,at0 _ _,jE cD (.inr k),gR.k (k:=.inr k) ak,?_⟩;rw [sE];cases hf:form k with
 | none =>
  have e:pJ k rest=false:=by unfold pJ;rw [hf]
  rw [e] at kk;refine ⟨_,rfl,a,_,rfl,.inr (s1.wO hS),_,rfl,_,rfl,(by show Str.length "?"<=sizeLine;decide +kernel),_,_,rfl,rfl,rfl,_,rfl,?_⟩
  refine je (fun _=>bR (kk _ s1)) (fun _=>?_);exact ⟨_,rfl,rfl,_,rfl,bR (kk _ s1)⟩
 | some l =>
  have tW:pJ k rest=(decide (rest.length=l.length)&&0x2D):=by unfold pJ;rw [hf]
  obtain ⟨l2,l6⟩:=nU hf;have lq:(qt l).length<=sizeLine:=by rw [qu];exact small 0x1
  refine ⟨_,rfl,a,_,rfl,.inr (s1.wO hS),_,rfl,qt l,rfl,lq,_,_,rfl,rfl,rfl,_,rfl,?_⟩
  by_cases hl:rest.length=l.length
  ·have hn:V.int (((V.str k::rest).length:Nat):Int)=V.int (1+((qt l).length:Int)):=by
    rw [qu,jT,hl];congr 1;lia
   refine uz hn ?_;refine ⟨_,rfl,rfl,_,rfl,?_⟩;rw [show decide ((Option.map (fun l=>V.str (qt l)) (some l)).getD (V.str "?")=V.str "?")=false from a0C l2]
   refine aL ?_;rw [decide_eq_true hl,Bool.true_and] at tW;refine ⟨_,rfl,_,rfl,a,_,rfl,s1.wO hS,nw1 _ _,fun q hq=>?_⟩;rw [cut1];have hq0:H q=none:=s1.free hq;have s2:Same H (upd (upd H p (.dK cD)) q (.tup rest)):=aW s1 hq0;generalize hHc:upd (upd H p (.dK cD)) q (.tup rest)=Hc at s2 ⊢;have hqc:Hc q=some (.tup rest):=by rw [<- hHc];exact ak
   refine ⟨_,rfl,q,qt l,rfl,⟨_,bF.of hqc⟩,nP (n:=l.length) (fx:=fun i=>rest.getD i .non) (fy:=fun i=>V.str (dW [(l.getD i .d).code]))
    (fun i σ H2=>(∃ u v,σ=[some (.ref a),some (.str (qt l)),u,v])/\Same Hc H2/\((l.zip rest).take i).all mV=true) ?_ ⟨⟨none,none,rfl⟩,Same.refl _,rfl⟩ ?_ ?_⟩
   ·rintro i σ H2 ⟨_,sm,_⟩;have st:=zG (K:=K) (z:=qt l) (i:=i) (bF.of (sm _ _ hqc));rw [lC,bL,hl,Nat.min_self] at st;refine ⟨fun hi=>⟨(st.1 hi).1,fun v H' y=>?_⟩,st.2⟩;obtain ⟨r,e1,e2,e3⟩:=(st.1 hi).2 v H' y;refine ⟨r,e1,e2,?_⟩;have e4:=Ah hi;rw [lC] at e4;rw [e3,e4]
   ·rintro i σ H2 r hi ⟨⟨u,v,rfl⟩,sm,ha⟩ VD;have h1:l[i]?=some l[i]:=dB hi;have hi2:i<rest.length:=by lia
    have h2:rest[i]?=some rest[i]:=dB hi2;rw [at_getD h1,at_getD h2];have sq:Same H2 (upd H2 r (.tup [rest[i],V.str (dW [(l[i]).code])])):=aq VD _;have hkp:=R.kept l hf i _ _ h1 h2;have hz:=xH h1 h2;refine ⟨r,_,rfl,bF.of ak,rfl,_,_,rfl,_,_,rfl,rfl,?_⟩;refine ⟨_,rfl,_,_,rfl,rfl,_,rfl,?_⟩;rw [Oo];have yes:jm l[i] rest[i]=true->∀ H3,Same H2 H3->(∃ u v,([some (V.ref a),some (V.str (qt l)),some rest[i],some (V.str (dW [(l[i]).code]))]:List (Option V))=[some (.ref a),some (.str (qt l)),u,v])/\Same Hc H3/\((l.zip rest).take (i+1)).all mV=true :=
     fun e H3 s3=>⟨⟨_,_,rfl⟩,sm.trans s3,Ad hz ha e⟩
    have no:jm l[i] rest[i]=false->∀ H3,Same H2 H3->Q (V.bl false) H3:=fun e H3 s3=>by
     rw [Dw hz e,Bool.false_and] at tW;rw [tW] at kk;exact kk _ (s2.trans (sm.trans s3))
    have hrw:(l[i]).row=true:=zZ hf h1;generalize l[i]=si at *
    rcases R.ok _ (List.getElem_mem hi2) with ⟨n,hn⟩ | ⟨z,hz',K7,hzc⟩
    ·rw [hn] at hkp yes no sq ⊢;have hnum:si.num=true:=hkp.symm;rw [hnum];refine bR ?_;rw [TJ si n hnum hrw] at yes no;refine ⟨_,rfl,rfl,.inr ⟨_,rfl,_,rfl,_,_,rfl,rfl,_,rfl,?_⟩⟩;rw [Oq];refine je (fun c1=>?_) (fun c1=>?_)
     ·rw [c1,Bool.true_and] at yes no;refine ⟨_,_,rfl,rfl,_,rfl,?_⟩;cases c2:decide (n<=9999) with
      | true=>exact aL (yes c2 _ sq)
      | false=>exact bR (no c2 _ sq)
     ·rw [Bool.eq_false_iff.mpr c1,Bool.false_and] at no;exact ⟨_,rfl,bR (no rfl _ sq)⟩
    ·rw [hz'] at hkp yes no sq ⊢;have hnum:si.num=false:=hkp.symm;rw [hnum];refine aL ?_;rw [GX si z hnum] at yes no;refine ⟨_,rfl,z,rfl,K7,hzc,fun H3 s3=>⟨_,rfl,?_⟩⟩;cases c1:nameB z.cps.toList with
     | true =>
      rw [c1,Bool.true_or] at yes;exact aL (aL (yes rfl _ (sq.trans s3)))
     | false =>
      rw [c1,Bool.false_or] at yes no;refine bR ⟨_,rfl,rfl,_,rfl,?_⟩;rw [Ot];refine je (fun c2=>?_) (fun c2=>?_)
      ·rw [c2,Bool.true_and] at yes no;refine ⟨_,rfl,rfl,_,rfl,?_⟩;rw [ni];cases c3:decide (z=("" : Str)) with
       | true=>exact aL (yes c3 _ (sq.trans s3))
       | false=>exact bR (no c3 _ (sq.trans s3))
      ·rw [Bool.eq_false_iff.mpr c2,Bool.false_and] at no;exact bR (no rfl _ (sq.trans s3))
   ·rintro σ H2 ⟨⟨u,v,rfl⟩,sm,ha⟩;rw [List.take_of_length_le (by rw [List.length_zip];lia)] at ha;rw [ha,Bool.true_and] at tW;have S2:=(s2.trans sm).wO hS;refine ⟨_,rfl,a,_,_,_,rfl,rfl,S2,at0 _ _,small 0x4,fun t ht=>?_⟩;have st:Same H2 (upd H2 t (.tup [V.str "heir",V.str "liege"])):=aq ht _;refine ⟨t,_,rfl,.inr (bF.of ak),rfl,rfl,_,rfl,?_⟩;have e2:=Od k
    show if inV (V.str k) [V.str "heir",V.str "liege"]=true then _ else _
    rw [e2];have S3:=st.wO S2;cases h2:two k with
    | false =>
     rw [h2] at tW;have:pJ k rest=true:=tW;rw [this] at kk;exact aL ⟨_,rfl,kk _ (s2.trans (sm.trans st))⟩
    | true =>
     rw [h2,Bool.true_and] at tW;obtain ⟨l3,n1,n2⟩:=rZ hf h2;refine bR ?_;have i1:(1:Nat)<rest.length:=by lia
     have i2:(2:Nat)<rest.length:=by lia
     have r1:rest[1]?=some rest[1]:=dB i1;have r2:rest[2]?=some rest[2]:=dB i2;have q1:l[1]?=some l[1]:=dB 0x1;have q2:l[2]?=some l[2]:=dB 0x1;have v1:isI rest[1]=false:=(R.kept l hf 1 _ _ q1 r1).trans (n1 _ q1);have v2:isI rest[2]=false:=(R.kept l hf 2 _ _ q2 r2).trans (n2 _ q2);have o1:=R.ok _ (List.getElem_mem i1);have o2:=R.ok _ (List.getElem_mem i2);rw [r1,r2] at tW;refine ⟨_,rfl,a,_,_,_,rfl,rfl,S3,mW r1 2 rfl,_,rfl,a,_,_,_,rfl,rfl,S3,mW r2 3 rfl,?_⟩;generalize rest[1]=x1 at *
     generalize rest[2]=x2 at *
     rcases o1 with ⟨n,rfl⟩ | ⟨z1,rfl,_⟩
     ·cases v1
     rcases o2 with ⟨n,rfl⟩ | ⟨z2,rfl,_⟩
     ·cases v2
     refine ⟨rfl,_,rfl,?_⟩;have e3:pJ k rest=!decide (V.str z1=V.str z2):=by
      rw [tW]
      congr 1
      exact decide_eq_decide.mpr ⟨fun e=>Option.some.inj e,fun e=>by rw [e]⟩
     rw [e3] at kk;exact kk _ (s2.trans (sm.trans st))
  ·have e:pJ k rest=false:=by rw [tW,decide_eq_false hl,Bool.false_and]
   rw [e] at kk;have hne:(!decide (V.int (((V.str k::rest).length:Nat):Int)=V.int (1+((qt l).length:Int))))=true:=by
    rw [qu,jT];have:¬ V.int (((rest.length+1:Nat)):Int)=V.int (1+(l.length:Int)):=fun e=>hl (by injection e with e;lia);rw [decide_eq_false this];rfl
   rw [hne];exact bR (bR (kk _ s1))
open PyProof.Rows
theorem qw:bootBuiltins "dict"=some (.type "dict"):=by decide +kernel
def BJ (n:Int):Bool:=decide (1<=n)&&decide (n<=9999)
def okB (n:Int):Bool:=decide (0<=n)&&decide (n<=99)
inductive Hh (vs:List V) (H:Hp) (Q:VK):Prop
 | mk (n:Int) (_:vs=[.int n]) (_:BJ n=true) (_:Q .non H):Hh vs H Q
def VF:Sp:=fun vs H Q _=>Hh vs H Q
inductive Hi (vs:List V) (H:Hp) (Q:VK):Prop
 | mk (n m:Int) (_:vs=[.int n,.int m]) (_:(BJ n&&okB m)=true) (_:Q .non H):Hi vs H Q
def VG:Sp:=fun vs H Q _=>Hi vs H Q
theorem a0D:aY ["acres"] ["acres"] (aH XH):=0x0
theorem Y8 (F:gQ K "check_acres" "check_acres" XH f fd) {g:Addr} (G:aX P w K mg base cU 2 g gd ["sort", "piece"] xu) (MG:Ms K mg "fits" g gd ["sort", "piece"]):aX P w K mg base cU 3 f fd ["acres"] VF:=by
 refine F.ok a0D 0xA 0x3
 ·obtain ⟨n,rfl,_⟩:=h;rfl
 obtain ⟨n,rfl,hn,k⟩:=h;refine ⟨_,aJ (cH (eU (dX (bB G hr rfl MG.m MG.k MG.b .nil bN (aj aD (aj 0x10 ao))))) ug bK),?_⟩;refine ⟨_,rfl,.a,.int n,rfl,rfl,.inl ⟨n,rfl⟩,_,rfl,?_⟩;rw [show jm .a (.int n)=BJ n from rfl,hn]
 exact aL k
theorem a0E:aY ["acres", "bears"] ["acres", "bears"] (aH XJ):=0x0
theorem Y9 (F:gQ K "check_land" "check_land" XJ f fd) {g:Addr} (G:aX P w K mg base cU 2 g gd ["sort", "piece"] xu) (MG:Ms K mg "fits" g gd ["sort", "piece"])
  (G1:aX P w K mg base cU 3 g1 d1 ["acres"] VF) (M1:Ms K mg "check_acres" g1 d1 ["acres"]):aX P w K mg base cU 4 f fd ["acres", "bears"] VG:=by
 refine F.ok a0E 0xA 0x3
 ·obtain ⟨n,m,rfl,_⟩:=h;rfl
 obtain ⟨n,m,rfl,hnm,k⟩:=h;obtain ⟨hn,hm⟩:=Bool.and_eq_true_iff.mp hnm;refine ⟨_,aC (bW (bB G1 hr rfl M1.m M1.k M1.b .nil bN (aj 0x10 ao)))
  (aJ (cH (eU (dX (bB G (hr.mono 0x8) rfl MG.m MG.k MG.b .nil bN (aj aD (aj (pv 1) ao))))) ug bK)),?_⟩
 refine ⟨_,rfl,n,rfl,hn,?_⟩;refine ⟨_,rfl,.b,.int m,rfl,rfl,.inl ⟨m,rfl⟩,_,rfl,?_⟩;rw [show jm .b (.int m)=okB m from rfl,hm]
 exact aL k
end
structure fO (K:PySem.W.Frag) (C:Addr):Prop where
 cl:Cls K C
 n1:iz K C "many_acres"
 n2:iz K C "coins"
 n3:iz K C "standing"
 n4:iz K C "earlier"
 n5:iz K C "later"
abbrev FR (n m:Int) (st e l:Addr):List (Str×V):=[("many_acres",.int n),("coins",.int m),("standing",.ref st),("earlier",.ref e),("later",.ref l)]
structure bV (C:Addr) (H:Hp) (x dx st d e l:Addr) (n m fr:Int) (kvs:List (Int×V)) (es ls:List V):Prop where
 o:H x=some (.ins C dx (FR n m st e l))
 s:H st=some (.tup [.int fr,.ref d])
 k:H d=some (.dK (fj kvs))
 e:H e=some (.lst es)
 l:H l=some (.lst ls)
theorem bV.same {x e:Addr}{n m fr:Int}{es:List V} (r:bV C H x dx st d e l n m fr kvs es ls) (s:∀ b u,H b=some u->H' b=some u):bV C H' x dx st d e l n m fr kvs es ls:=⟨s _ _ r.o,s _ _ r.s,s _ _ r.k,s _ _ r.e,s _ _ r.l⟩
inductive uW (C:Addr) (vs:List V) (H:Hp) (Q:VK):Prop
 | mk (x dx:Addr) (n m:Int) (_:vs=[.ref x,.int n,.int m]) (_:H x=some (.ins C dx [])) (_:(BJ n&&okB m)=true) (_:∀ st d e l H',(∀ c o,c≠x->H c=some o->H' c=some o)->bV C H' x dx st d e l n m 1 [] [] []->H st=none->H d=none->H e=none->H l=none->x≠e->x≠l->x≠st->x≠d->e≠l->Q .non H'):uW C vs H Q
def xQ (C:Addr):Sp:=fun vs H Q _=>uW C vs H Q
inductive Hj (C:Addr) (vs:List V) (H:Hp) (Q:VK):Prop
 | mk (x dx st d e l:Addr) (n m fr:Int) (kvs:List (Prod Int V)) (es ls:List V) (_:vs=[.ref x]) (_:bV C H x dx st d e l n m fr kvs es ls) (_:Q (.int n) H):Hj C vs H Q
def VH (C:Addr):Sp:=fun vs H Q _=>Hj C vs H Q
inductive Hl (C:Addr) (vs:List V) (H:Hp) (Q:VK):Prop
 | mk (x dx st d e l:Addr) (n m fr:Int) (kvs:List (Prod Int V)) (es ls:List V) (_:vs=[.ref x]) (_:bV C H x dx st d e l n m fr kvs es ls) (_:Q (.int m) H):Hl C vs H Q
def VJ (C:Addr):Sp:=fun vs H Q _=>Hl C vs H Q
inductive Ho (C:Addr) (vs:List V) (H:Hp) (Q:VK):Prop
 | mk (x dx st d e l:Addr) (n m fr:Int) (kvs:List (Prod Int V)) (es ls:List V) (_:vs=[.ref x]) (_:bV C H x dx st d e l n m fr kvs es ls) (_:Q (.int fr) H):Ho C vs H Q
def VL (C:Addr):Sp:=fun vs H Q _=>Ho C vs H Q
inductive uX (C:Addr) (vs:List V) (H:Hp) (Q:VK):Prop
 | mk (x dx st d e l:Addr) (n m fr:Int) (kvs:List (Prod Int V)) (es ls:List V) (_:vs=[.ref x]) (_:bV C H x dx st d e l n m fr kvs es ls) (_:kvs.length<64) (_:∀ (q:Addr) (as:List Addr) (ys:List (Int×V)) (H':Hp),(∀ b u,H b=some u->H' b=some u)->H q=none->H' q=some (.lst (as.map V.ref))->ys.Perm kvs->ys.Pairwise (fun x y=>x.1<y.1)->Items H' as ys->Q (.ref q) H'):uX C vs H Q
def xR (C:Addr):Sp:=fun vs H Q _=>uX C vs H Q
section
variable {f:Addr}
theorem U3:aY ["self", "acres", "bears"] ["self", "acres", "bears"] (aH Dk):=0x0
theorem Oz (T:fO K C) (F:gQ K "__init__" "Roll.__init__" Dk f fd)  (G1:aX P w K mg base cU 4 g1 d1 ["acres", "bears"] VG) (M1:Ms K mg "check_land" g1 d1 ["acres", "bears"]):aX P w K mg base cU 5 f fd ["self", "acres", "bears"] (xQ C):=by
 refine F.ok U3 0xA 0x3
 ·obtain ⟨x,dx,n,m,rfl,_⟩:=h;rfl
 obtain ⟨x,dx,n,m,rfl,hx,hnm,h⟩:=h;refine ⟨_,aC (bW (bB G1 hr rfl M1.m M1.k M1.b .nil bN (aj (pv 1) (aj (pv 2) ao))))
  (aC (gJ 0x10 (pv 1) rfl)
  (aC (gJ 0x10 (pv 2) rfl)
  (aC (gJ 0x10 (cJ (aj au (aj N5 ao))) rfl)
  (aC (gJ 0x10 (cL ao) rfl)
  (aJ (gJ 0x10 (cL ao) rfl)))))),?_⟩
 refine ⟨_,rfl,_,rfl,n,m,rfl,hnm,?_⟩;refine ⟨_,rfl,_,rfl,x,C,dx,_,rfl,hx,T.cl,T.n1,Nat.lt_of_sub_eq_succ rfl,?_⟩;refine ⟨_,rfl,_,rfl,x,C,dx,_,rfl,ak,T.cl,T.n2,Nat.lt_of_sub_eq_succ rfl,?_⟩;rw [pY,show jQ "coins" (V.int m) (jQ "many_acres" (V.int n) [])=([("many_acres",V.int n),("coins",V.int m)]:List (Str×V)) from rfl]
 have x2:(upd H x (.ins C dx [("many_acres",.int n),("coins",.int m)])) x=some (.ins C dx [("many_acres",.int n),("coins",.int m)]):=ak;have f2:∀ c o,c≠x->H c=some o->(upd H x (.ins C dx [("many_acres",.int n),("coins",.int m)])) c=some o:=fun c o hc ho=>by rw [aA hc];exact ho
 have z2:∀ c,(upd H x (.ins C dx [("many_acres",.int n),("coins",.int m)])) c=none->H c=none/\x≠c:=fun c hc=>by
  have hne:x≠c:=aM x2 hc;rw [aA (Ne.symm hne)] at hc;exact ⟨hc,hne⟩
 generalize upd H x (.ins C dx [("many_acres",.int n),("coins",.int m)])=H2 at x2 f2 z2 ⊢;refine fun d hd=>⟨small 0x4,fun st hst=>?_⟩;have nd:x≠d:=aM x2 hd;have d3:(upd H2 d (.dK [])) d=some (.dK []):=ak;have nst:st≠d:=Ne.symm (aM d3 hst);have hst2:H2 st=none:=by rw [aA nst] at hst;exact hst
 have JC:x≠st:=aM x2 hst2;refine ⟨_,rfl,x,C,dx,_,rfl,by rw [aA JC,aA nd];exact x2,T.cl,T.n3,Nat.lt_of_sub_eq_succ rfl,?_⟩;generalize DG:upd _ x _=H3;have x3:H3 x=some (.ins C dx [("many_acres",.int n),("coins",.int m),("standing",.ref st)]):=by rw [<- DG,ak];rfl
 have s3:H3 st=some (.tup [.int 1,.ref d]):=by rw [<- DG,aA (Ne.symm JC),ak]
 have k3:H3 d=some (.dK []):=by rw [<- DG,aA (Ne.symm nd),aA (Ne.symm nst),ak]
 have f3:∀ c o,c≠x->H2 c=some o->H3 c=some o:=fun c o hc ho=>by rw [<- DG,aA hc,aA (aM ho hst2),aA (aM ho hd)];exact ho
 clear DG;refine ⟨small 0x4,fun e he=>?_⟩;have ne:x≠e:=aM x3 he;refine ⟨_,rfl,x,C,dx,_,rfl,by rw [aA ne];exact x3,T.cl,T.n4,Nat.lt_of_sub_eq_succ rfl,?_⟩;generalize RD:upd _ x _=H4;have x4:H4 x=some (.ins C dx [("many_acres",.int n),("coins",.int m),("standing",.ref st),("earlier",.ref e)]):=by rw [<- RD,ak];rfl
 have e4:H4 e=some (.lst []):=by rw [<- RD,aA (Ne.symm ne),ak]
 have f4:∀ c o,c≠x->H3 c=some o->H4 c=some o:=fun c o hc ho=>by rw [<- RD,aA hc,aA (aM ho he)];exact ho
 clear RD;refine ⟨small 0x4,fun l hl=>?_⟩;have nl:x≠l:=aM x4 hl;refine ⟨_,rfl,x,C,dx,_,rfl,by rw [aA nl];exact x4,T.cl,T.n5,Nat.lt_of_sub_eq_succ rfl,?_⟩;generalize hH5:upd _ x _=H5;have x5:H5 x=some (.ins C dx (FR n m st e l)):=by rw [<- hH5,ak];rfl
 have l5:H5 l=some (.lst []):=by rw [<- hH5,aA (Ne.symm nl),ak]
 have f5:∀ c o,c≠x->H4 c=some o->H5 c=some o:=fun c o hc ho=>by rw [<- hH5,aA hc,aA (aM ho hl)];exact ho
 clear hH5;have back:∀ (Ha Hb:Hp),(∀ c o,c≠x->Ha c=some o->Hb c=some o)->∀ c,c≠x->Hb c=none->Ha c=none:=fun Ha Hb ff c hc hb=>by
  cases q:Ha c with
  | none=>rfl
  | some u=>rw [ff c u hc q] at hb;cases hb
 refine h st d e l H5 (fun c o hc ho=>f5 _ _ hc (f4 _ _ hc (f3 _ _ hc (f2 _ _ hc ho)))) ⟨x5,f5 _ _ (Ne.symm JC) (f4 _ _ (Ne.symm JC) s3),f5 _ _ (Ne.symm nd) (f4 _ _ (Ne.symm nd) k3),f5 _ _ (Ne.symm ne) e4,l5⟩
  (z2 st hst2).1 (z2 d hd).1 (z2 e (back H2 H3 f3 e (Ne.symm ne) he)).1 (z2 l (back H2 H3 f3 l (Ne.symm nl) (back H3 H4 f4 l (Ne.symm nl) hl))).1 ne nl JC nd (aM e4 hl)
theorem a0F:aY ["self"] ["self"] (aH Dl):=0x0
theorem Yb (T:fO K C) (F:gQ K "acres" "Roll.acres" Dl f fd):aX P w K mg base cU 1 f fd ["self"] (VH C):=by
 refine F.ok a0F 0xA 0x3
 ·obtain ⟨x,dx,st,d,e,l,n,m,fr,kvs,es,ls,rfl,_⟩:=h;rfl
 obtain ⟨x,dx,st,d,e,l,n,m,fr,kvs,es,ls,rfl,R,k⟩:=h;refine ⟨_,aJ (bG (cF 0x10 rfl)),?_⟩;exact ⟨_,rfl,x,C,dx,_,_,rfl,R.o,T.cl,T.n1,rfl,k⟩
theorem a0G:aY ["self"] ["self"] (aH Dm):=0x0
theorem Yc (T:fO K C) (F:gQ K "bears" "Roll.bears" Dm f fd):aX P w K mg base cU 1 f fd ["self"] (VJ C):=by
 refine F.ok a0G 0xA 0x3
 ·obtain ⟨x,dx,st,d,e,l,n,m,fr,kvs,es,ls,rfl,_⟩:=h;rfl
 obtain ⟨x,dx,st,d,e,l,n,m,fr,kvs,es,ls,rfl,R,k⟩:=h;refine ⟨_,aJ (bG (cF 0x10 rfl)),?_⟩;exact ⟨_,rfl,x,C,dx,_,_,rfl,R.o,T.cl,T.n2,rfl,k⟩
theorem a0H:aY ["self"] ["self"] (aH NZ):=0x0
theorem Yd (T:fO K C) (F:gQ K "free" "Roll.free" NZ f fd):aX P w K mg base cU 1 f fd ["self"] (VL C):=by
 refine F.ok a0H 0xA 0x3
 ·obtain ⟨x,dx,st,d,e,l,n,m,fr,kvs,es,ls,rfl,_⟩:=h;rfl
 obtain ⟨x,dx,st,d,e,l,n,m,fr,kvs,es,ls,rfl,R,k⟩:=h;refine ⟨_,aJ (bG (aK bA (cF 0x10 rfl) au 0x9)),?_⟩;exact ⟨_,rfl,x,C,dx,_,_,rfl,R.o,T.cl,T.n3,rfl,st,_,_,_,rfl,rfl,bF.of R.s,bh (j:=0) rfl,k⟩
theorem U4:aY ["self"] ["self"] (aH O1):=0x0
theorem OD (T:fO K C) (F:gQ K "rows" "Roll.rows" O1 f fd) (ms:mg "sorted"=none):aX P w K mg base cU 1 f fd ["self"] (xR C):=by
 refine F.ok U4 0xA 0x3
 ·obtain ⟨x,dx,st,d,e,l,n,m,fr,kvs,es,ls,rfl,_⟩:=h;rfl
 obtain ⟨x,dx,st,d,e,l,n,m,fr,kvs,es,ls,rfl,R,h64,k⟩:=h;refine ⟨_,aJ (bG (aP (CW hr.hd) rfl ms Jf (aj (Nk (aK bA (cF 0x10 rfl) au 0x9)) ao))),?_⟩;refine ⟨_,rfl,x,C,dx,_,_,rfl,R.o,T.cl,T.n3,rfl,st,_,_,_,rfl,rfl,bF.of R.s,bh (j:=1) rfl,d,_,rfl,R.k,fun v hv=>?_⟩;have s1:=aq hv (rH v d);exact ⟨v,d,kvs,rfl,ak,s1 _ _ R.k,h64,fun q as ys H' hs hq hl hp hw hi=>k q as ys H' (fun b u e=>hs b u (s1 b u e)) (by
  cases e:H q with
  | none=>rfl
  | some u=>rw [s1 q u e] at hq;cases hq) hl hp hw hi⟩
end
end M
namespace L2
open PySem
open PySem.SetTable (Probe Slot Met)
def VN (l:List Nat):Prop:=l.Pairwise (·<·)
theorem sJ {xs:Array Nat} (hs:VN xs.toList):∀ (fuel lo hi:Nat),lo<=hi->hi<=xs.size->hi - lo<=fuel->(∀ m,m<lo->xs.getD m 0<j)->(∀ m,hi<=m->m<xs.size->j<=xs.getD m 0) ->
  let r:=SetTable.below.go xs j fuel lo hi
  r<=xs.size/\(∀ m,m<r->xs.getD m 0<j)/\∀ m,r<=m->m<xs.size->j<=xs.getD m 0
 | 0,lo,hi,h1,h2,h3,h4,h5=>by
  have e:lo=hi:=by lia
  subst e;exact ⟨h2,h4,h5⟩
 | fuel+1,lo,hi,h1,h2,h3,h4,h5=>by
  have mono:∀ a b,a<=b->b<xs.size->xs.getD a 0<=xs.getD b 0:=fun a b hab hb=>by
   by_cases e:a=b
   ·rw [e];exact Nat.le_refl _
   ·have:=List.pairwise_iff_getElem.mp hs a b (by simpa using (by lia:a<xs.size)) (by simpa using hb) 0x1;simp only [Array.getElem_toList] at this;have ha:a<xs.size:=by lia
    rw [Array.getD_eq_getD_getElem?,Array.getD_eq_getD_getElem?,Array.getElem?_eq_getElem ha,Array.getElem?_eq_getElem hb];exact Nat.le_of_lt this
  show let r:=(if lo<hi then (if xs.getD ((lo+hi) / 2) j<j then SetTable.below.go xs j fuel ((lo+hi) / 2+1) hi else SetTable.below.go xs j fuel lo ((lo+hi) / 2)) else lo);r<=xs.size/\(∀ m,m<r->xs.getD m 0<j)/\∀ m,r<=m->m<xs.size->j<=xs.getD m 0
  by_cases hlt:lo<hi
  ·rw [if_pos hlt];have hm:(lo+hi) / 2<xs.size:=by lia
   have eg:xs.getD ((lo+hi) / 2) j=xs.getD ((lo+hi) / 2) 0:=by
    rw [Array.getD_eq_getD_getElem?,Array.getD_eq_getD_getElem?,Array.getElem?_eq_getElem hm];rfl
   by_cases hc:xs.getD ((lo+hi) / 2) j<j
   ·rw [if_pos hc];refine sJ hs fuel _ hi 0x1 h2 0x1 (fun m hm'=>?_) h5;have:=mono m ((lo+hi) / 2) 0x1 hm;lia
   ·rw [if_neg hc];refine sJ hs fuel lo _ 0x1 0x1 0x1 h4 (fun m hm1 hm2=>?_);have:=mono ((lo+hi) / 2) m hm1 hm2;lia
  ·rw [if_neg hlt];have e:lo=hi:=by lia
   subst e;exact ⟨h2,h4,h5⟩
theorem sO {xs:Array Nat} (j:Nat) (hs:VN xs.toList):SetTable.below xs j<=xs.size/\(∀ m,m<SetTable.below xs j->xs.getD m 0<j)/\∀ m,SetTable.below xs j<=m->m<xs.size->j<=xs.getD m 0 :=
 sJ hs xs.size 0 xs.size (Nat.zero_le _) 0x6 0x1 (fun m h=>by lia) (fun m h1 h2=>by lia)
theorem below_at {xs:Array Nat} (hs:VN xs.toList) (h:xs[i]?=some j):SetTable.below xs j=i:=by
 obtain ⟨b1,b2,b3⟩:=sO j hs;have hi:i<xs.size:=(Array.getElem?_eq_some_iff.mp h).1;have ei:xs.getD i 0=j:=by rw [Array.getD_eq_getD_getElem?,h];rfl
 have inj:∀ a b,a<b->b<xs.size->xs.getD a 0<xs.getD b 0:=fun a b hab hb=>by
  have:=List.pairwise_iff_getElem.mp hs a b (by simpa using (by lia:a<xs.size)) (by simpa using hb) hab;simp only [Array.getElem_toList] at this;have ha:a<xs.size:=by lia
  rw [Array.getD_eq_getD_getElem?,Array.getD_eq_getD_getElem?,Array.getElem?_eq_getElem ha,Array.getElem?_eq_getElem hb];exact this
 by_cases h1:SetTable.below xs j<i
 ·have:=b3 (SetTable.below xs j) 0x6 0x1;have:=inj _ _ h1 hi;lia
 ·by_cases h2:i<SetTable.below xs j
  ·have:=b2 i h2;lia
  ·lia
def lE (m:Nat):Prop:=m=7\/m=31\/m=127\/m=511
structure Tab (t:SetTable):Prop where
 srt:VN t.place.toList
 bnd:∀ j∈t.place.toList,j<=t.mask
 Ye:t.dummies=#[]
 Yg:lE t.mask
 few:t.place.size<=t.mask
theorem Tab.live {t:SetTable} (h:Tab t)  (e:t.place[i]?=some j):t.slot j=.live i:=by
 unfold SetTable.slot;rw [below_at h.srt e];simp [e]
theorem Tab.empty {t:SetTable} (h:Tab t)  (e:j∉t.place.toList):t.slot j=.empty:=by
 unfold SetTable.slot;have h1:(t.place[SetTable.below t.place j]?==some j)=false:=by
  rw [Bool.eq_false_iff];intro hc;have hc':=eq_of_beq hc;exact e (List.mem_iff_getElem?.mpr ⟨_,by rw [Array.getElem?_toList];exact hc'⟩)
 have h2:SetTable.has t.dummies j=false:=by
  rw [h.Ye];unfold SetTable.has;simp
 simp only [h1,h2];rfl
theorem Tab.cases {t:SetTable} (h:Tab t) (j:Nat):(j∉t.place.toList/\t.slot j=.empty)\/∃ i,t.place[i]?=some j/\t.slot j=.live i:=by
 by_cases e:j∈t.place.toList
 ·obtain ⟨i,hi⟩:=List.mem_iff_getElem?.mp e;rw [Array.getElem?_toList] at hi;exact .inr ⟨i,hi,h.live hi⟩
 ·exact .inl ⟨e,h.empty e⟩
def eY (m:Nat) (p:Probe):Probe:=if p.more > 0 then { p with j:=p.j+1,more:=p.more - 1 } else { p with j:=(0x2F).1,more:=SetTable.runEnd m (0x2F).1 - (0x2F).1,i:=(0x2F).1,perturb:=(0x2F).2 }
theorem OJ (t:SetTable) (p:Probe):t.advance p=eY t.mask p:=by
 unfold SetTable.advance eY
 split <;> rfl
def prs (m:Nat) (p:Probe):Nat->Probe
 | 0=>p
 | n+1=>prs m (eY m p) n
theorem sU (m:Nat):∀ (n:Nat) (p:Probe),prs m p (n+1)=eY m (prs m p n)
 | 0,p=>rfl
 | n+1,p=>by
  show prs m (eY m p) (n+1)=eY m (prs m (eY m p) n)
  exact sU m n (eY m p)
theorem fK (m:Nat) (p:Probe):∀ (a b:Nat),prs m p (a+b)=prs m (prs m p a) b
 | 0,b=>by rw [Nat.zero_add];rfl
 | a+1,b=>by
  rw [show a+1+b=(a+b)+1 by lia]
  show prs m (eY m p) (a+b)=prs m (prs m (eY m p) a) b
  exact fK m (eY m p) a b
def stM (m:Nat) (h:Int):Probe:={ j:=SetTable.bits h % (m+1),more:=SetTable.runEnd m (SetTable.bits h % (m+1)) - SetTable.bits h % (m+1),i:=SetTable.bits h % (m+1),perturb:=SetTable.bits h,dummy:=none }
def Hr (m i pt:Nat) (p:Probe):Prop:=p.j=i/\p.more=SetTable.runEnd m i - i/\p.i=i/\p.perturb=pt
theorem Yh (m i:Nat):SetTable.runEnd m i - i<=9:=by unfold SetTable.runEnd;split <;> lia
theorem xT (m:Nat):∀ (k:Nat) (p:Probe),p.more=k->(prs m p k).more=0/\(prs m p k).i=p.i/\(prs m p k).perturb=p.perturb
 | 0,p,h=>⟨h,rfl,rfl⟩
 | k+1,p,h=>by
  have e:eY m p={ p with j:=p.j+1,more:=p.more - 1 }:=by unfold eY;rw [if_pos 0x1]
  have ih:=xT m k (eY m p) (by rw [e];show p.more - 1=k;lia)
  rw [e] at ih
  show (prs m (eY m p) k).more=0/\(prs m (eY m p) k).i=p.i/\(prs m (eY m p) k).perturb=p.perturb
  rw [e];exact ih
theorem xU {pt:Nat}{p:Probe} (h:Hr m i pt p):∃ n,n<=10/\Hr m ((i * 5+1+pt / 32) % (m+1)) (pt / 32) (prs m p n):=by
 obtain ⟨h1,h2,h3,h4⟩:=h;obtain ⟨r1,r2,r3⟩:=xT m p.more p rfl;refine ⟨p.more+1,by rw [h2];have:=Yh m i;lia,?_⟩;rw [sU];unfold eY;rw [if_neg 0x1];have e1:0x12=((i * 5+1+pt / 32) % (m+1),pt / 32):=by
  rw [r2,r3,h3,h4];rfl
 refine ⟨?_,?_,?_,?_⟩
 ·show (0x12).1=_
  rw [e1]
 ·show SetTable.runEnd m (0x12).1 - (0x12).1=_
  rw [e1]
 ·show (0x12).1=_
  rw [e1]
 ·show (0x12).2=_
  rw [e1]
def P0 (m:Nat):Nat->Nat->Nat
 | 0,i=>i
 | n+1,i=>P0 m n ((i * 5+1) % (m+1))
theorem qx (m:Nat):∀ (a b i:Nat),P0 m (a+b) i=P0 m b (P0 m a i)
 | 0,b,i=>by rw [Nat.zero_add];rfl
 | a+1,b,i=>by
  rw [show a+1+b=(a+b)+1 by lia]
  exact qx m a b _
theorem VP:∀ (L i pt:Nat) (p:Probe),Hr m i pt p->∃ n i',n<=10 * L/\Hr m i' (pt / 32 ^ L) (prs m p n)/\(0<L->i'<=m)
 | 0,i,pt,p,h=>⟨0,i,by lia,by rw [Nat.pow_zero,Nat.div_one];exact h,fun z=>absurd z (Nat.lt_irrefl _)⟩
 | L+1,i,pt,p,h=>by
  obtain ⟨n,hn,h1⟩:=xU h;obtain ⟨n',i',hn',h2,h3⟩:=VP L _ _ _ h1;refine ⟨n+n',i',by lia,?_,fun _=>?_⟩
  ·rw [fK,Nat.pow_succ,Nat.mul_comm,<- Nat.div_div_eq_div_mul];exact h2
  ·by_cases hL:0<L
   ·exact h3 hL
   ·have e:L=0:=by lia
    subst e;have e0:n'=0:=by lia
    subst e0;have:=h2.1;rw [show (prs m (prs m p n) 0)=prs m p n from rfl,h1.1] at this
    rw [<- this];exact Nat.lt_succ_iff.mp (Nat.mod_lt _ (Nat.succ_pos _))
theorem zeros:∀ (L i:Nat) (p:Probe),Hr m i 0 p->∃ n,n<=10 * L/\Hr m (P0 m L i) 0 (prs m p n)
 | 0,i,p,h=>⟨0,by lia,h⟩
 | L+1,i,p,h=>by
  obtain ⟨n,hn,h1⟩:=xU h;rw [Nat.zero_div,Nat.add_zero] at h1;obtain ⟨n',hn',h2⟩:=zeros L _ _ h1;exact ⟨n+n',by lia,by rw [fK];exact h2⟩
def orb (m:Nat):Nat->Nat->List Nat
 | 0,_=>[]
 | n+1,i=>i::orb m n ((i * 5+1) % (m+1))
theorem Pa (m:Nat):∀ {n i x:Nat},x∈orb m n i->∃ a,a<n/\P0 m a i=x
 | 0,i,x,h=>by cases h
 | n+1,i,x,h=>by
  rcases List.mem_cons.mp h with e | h
  ·exact ⟨0,Nat.succ_pos _,e.symm⟩
  ·obtain ⟨a,ha,e⟩:=Pa m h;exact ⟨a+1,by lia,e⟩
def VR (m:Nat):Bool:=(List.range (m+1)).all (fun x=>(orb m (m+1) 0).contains x)&&P0 m (m+1) 0==0
theorem Hs:VR 511=true:=by decide +kernel
theorem W0:VR 7=true:=by decide +kernel
theorem Pb:VR 31=true:=by decide +kernel
theorem Ht:VR 127=true:=by decide +kernel
theorem Pg (h:VR m=true) {x y:Nat} (hx:x<=m) (hy:y<=m):∃ q,q<=m/\P0 m q x=y:=by
 unfold VR at h;rw [Bool.and_eq_true] at h;obtain ⟨h1,h2⟩:=h;have h2':P0 m (m+1) 0=0:=eq_of_beq h2;have get:∀ x,x<=m->∃ a,a<=m/\P0 m a 0=x:=fun x hx=>by
  have:=List.all_eq_true.mp h1 x (List.mem_range.mpr 0x1);obtain ⟨a,ha,e⟩:=Pa m (List.contains_iff_mem.mp this);exact ⟨a,by lia,e⟩
 obtain ⟨a,ha,ea⟩:=get x hx;obtain ⟨b,hb,eb⟩:=get y hy
 by_cases hab:a<=b
 ·refine ⟨b - a,by lia,?_⟩;rw [<- ea,<- qx,show a+(b - a)=b by lia]
  exact eb
 ·refine ⟨m+1 - a+b,by lia,?_⟩;rw [<- ea,<- qx,show a+(m+1 - a+b)=(m+1)+b by lia,qx,h2']
  exact eb
theorem Hu (h:Int):SetTable.bits h<2 ^ 64:=by
 unfold SetTable.bits;have h1:=Int.emod_nonneg h (show (2 ^ 64:Int)≠0 by decide)
 have h2:=Int.emod_lt_of_pos h (show (0:Int)<2 ^ 64 by decide)
 have h3:(2:Int) ^ 64=((2 ^ 64:Nat):Int):=by decide
 lia
theorem JD (hm:lE m) (h:Int) {y:Nat} (hy:y<=m):∃ n,n<10 * (m+15)/\(prs m (stM m h) n).j=y:=by
 have hc:VR m=true:=by
  rcases hm with e | e | e | e <;> rw [e]
  ·exact W0
  ·exact Pb
  ·exact Ht
  ·exact Hs
 have s0:Hr m (SetTable.bits h % (m+1)) (SetTable.bits h) (stM m h):=⟨rfl,rfl,rfl,rfl⟩;obtain ⟨n1,i1,hn1,h1,hi1⟩:=VP 13 _ _ _ s0;have z:SetTable.bits h / 32 ^ 13=0:=Nat.div_eq_of_lt (Nat.lt_trans (Hu h) 0x8);rw [z] at h1;obtain ⟨q,hq,eq⟩:=Pg hc (hi1 0x8) hy;obtain ⟨n2,hn2,h2⟩:=zeros q _ _ h1;rw [eq] at h2;exact ⟨n1+n2,by lia,by rw [fK];exact h2.1⟩
theorem sub_len {xs ys:List Nat} (hx:xs.Nodup) (h:∀ x∈xs,x∈ys):xs.length<=ys.length:=by
 induction xs generalizing ys with
 | nil=>exact Nat.zero_le _
 | cons x r ih =>
  have h1:=List.nodup_cons.mp hx;have hm:=h x List.mem_cons_self;have:=ih (ys:=ys.erase x) h1.2 fun y hy=>by
   have hne:y≠x:=fun e=>h1.1 (e ▸ hy);exact (List.mem_erase_of_ne hne).mpr (h y (jw _ hy))
  rw [List.length_erase_of_mem hm] at this;have hp:=List.length_pos_of_mem hm;rw [jT];lia
theorem Tab.hole {t:SetTable} (h:Tab t):∃ y,y<=t.mask/\y∉t.place.toList:=by
 apply Classical.byContradiction
 intro hn;have all:∀ x∈List.range (t.mask+1),x∈t.place.toList:=fun x hx=>by
  apply Classical.byContradiction
  intro hx';exact hn ⟨x,by have:=List.mem_range.mp hx;lia,hx'⟩
 have:=sub_len List.nodup_range all;rw [List.length_range,Array.length_toList] at this;have:=h.few;lia
theorem uY (m:Nat) (p:Probe):(eY m p).dummy=p.dummy:=by unfold eY;split <;> rfl
theorem uZ (m:Nat):∀ (n:Nat) (p:Probe),(prs m p n).dummy=p.dummy
 | 0,p=>rfl
 | n+1,p=>by
  show (prs m (eY m p) n).dummy=p.dummy
  rw [uZ m n,uY]
theorem Hv {t:SetTable} (T:Tab t) (hashAt:Nat->Int) (h:Int):∀ (fuel:Nat) (p:Probe),p.dummy=none->(∃ n,n<fuel/\(prs t.mask p n).j∉t.place.toList) ->
  ∃ n,n<fuel/\(∀ k,k<n->∃ i,t.place[i]?=some (prs t.mask p k).j/\hashAt i≠h) /\
   (((prs t.mask p n).j∉t.place.toList/\SetTable.probe.go t hashAt h fuel p=some (.empty (prs t.mask p n).j none)) \/
    ∃ i,t.place[i]?=some (prs t.mask p n).j/\hashAt i=h/\SetTable.probe.go t hashAt h fuel p=some (.candidate (prs t.mask p n).j i (prs t.mask p (n+1))))
 | 0,p,hd,⟨n,hn,_⟩=>absurd hn (Nat.not_lt_zero _)
 | fuel+1,p,hd,⟨n,hn,he⟩=>by
  rcases T.cases p.j with ⟨h1,h2⟩ | ⟨i,h1,h2⟩
  ·refine ⟨0,Nat.succ_pos _,fun k hk=>absurd hk (Nat.not_lt_zero _),.inl ⟨h1,?_⟩⟩
   show SetTable.probe.go t hashAt h (fuel+1) p=_
   rw [SetTable.probe.go,h2,hd];rfl
  ·by_cases hh:hashAt i=h
   ·refine ⟨0,Nat.succ_pos _,fun k hk=>absurd hk (Nat.not_lt_zero _),.inr ⟨i,h1,hh,?_⟩⟩;rw [SetTable.probe.go,h2]
    show (if (hashAt i==h)=true then _ else _)=_
    rw [if_pos (by rw [hh];exact beq_self_eq_true _),OJ];rfl
   ·have hn0:n≠0:=fun e=>by
     subst e;exact he (List.mem_iff_getElem?.mpr ⟨i,by rw [Array.getElem?_toList];exact h1⟩)
    obtain ⟨n',rfl⟩:∃ n',n=n'+1:=⟨n - 1,by lia⟩;obtain ⟨k,hk,hk1,hk2⟩:=Hv T hashAt h fuel (eY t.mask p) (by rw [uY];exact hd) ⟨n',by lia,he⟩;have eg:SetTable.probe.go t hashAt h (fuel+1) p=SetTable.probe.go t hashAt h fuel (eY t.mask p):=by
     rw [SetTable.probe.go,h2]
     show (if (hashAt i==h)=true then _ else _)=_
     rw [if_neg (by simpa using hh),OJ]
    refine ⟨k+1,by lia,fun k' hk'=>?_,?_⟩
    ·cases k' with
     | zero=>exact ⟨i,h1,hh⟩
     | succ k''=>exact hk1 k'' 0x1
    ·rw [eg];exact hk2
def Rch (m:Nat) (O:List Nat) (h:Int) (y:Nat):Prop:=∃ n,(prs m (stM m h) n).j=y/\∀ k,k<n->(prs m (stM m h) k).j∈O
theorem Rch.mono {O O':List Nat}{h:Int}{y:Nat} (r:Rch m O h y) (s:∀ x∈O,x∈O'):Rch m O' h y:=by
 obtain ⟨n,h1,h2⟩:=r;exact ⟨n,h1,fun k hk=>s _ (h2 k hk)⟩
structure JF (t:SetTable) (hs:List Int):Prop where
 tab:Tab t
 len:hs.length=t.place.size
 rch:∀ (i:Nat) (h:Int) (y:Nat),hs[i]?=some h->t.place[i]?=some y->Rch t.mask t.place.toList h y
theorem Tab.first {t:SetTable} (T:Tab t) (h:Int):∃ n,n<10 * (t.mask+15)/\(prs t.mask (stM t.mask h) n).j∉t.place.toList/\∀ k,k<n->(prs t.mask (stM t.mask h) k).j∈t.place.toList:=by
 obtain ⟨y,hy,hny⟩:=T.hole;obtain ⟨n,hn,e⟩:=JD T.Yg h hy;have key:∀ n,(prs t.mask (stM t.mask h) n).j∉t.place.toList->∃ m,m<=n/\(prs t.mask (stM t.mask h) m).j∉t.place.toList/\∀ k,k<m->(prs t.mask (stM t.mask h) k).j∈t.place.toList:=by
  intro n
  induction n using Nat.strongRecOn with
  | _ n ih =>
   intro hn
   by_cases hall:∀ k,k<n->(prs t.mask (stM t.mask h) k).j∈t.place.toList
   ·exact ⟨n,Nat.le_refl _,hn,hall⟩
   ·obtain ⟨k,hk⟩:=Classical.not_forall.mp hall;obtain ⟨hk1,hk2⟩:=Classical.not_imp.mp hk;obtain ⟨m,hm,h1,h2⟩:=ih k hk1 hk2;exact ⟨m,by lia,h1,h2⟩
 obtain ⟨m,hm,h1,h2⟩:=key n (by rw [e];exact hny);exact ⟨m,by lia,h1,h2⟩
theorem jo {α:Type} (xs:Array α) (p:Nat) (x:α):(SetTable.insertAt xs p x).toList=xs.toList.take p++x::xs.toList.drop p:=SetTable.toList_insertAt xs p x
theorem DK {xs:Array Nat} (hs:VN xs.toList) (hj:j∉xs.toList):VN (SetTable.insertAt xs (SetTable.below xs j) j).toList:=by
 obtain ⟨b1,b2,b3⟩:=sO j hs;have gd:∀ m (hm:m<xs.size),xs.getD m 0=xs[m]:=fun m hm=>by rw [Array.getD_eq_getD_getElem?,Array.getElem?_eq_getElem hm];rfl
 rw [jo];have e:xs.toList=xs.toList.take (SetTable.below xs j)++xs.toList.drop (SetTable.below xs j):=(List.take_append_drop _ _).symm;unfold VN at hs ⊢;rw [e] at hs;obtain ⟨p1,p2,p3⟩:=List.pairwise_append.mp hs;refine List.pairwise_append.mpr ⟨p1,List.pairwise_cons.mpr ⟨fun y hy=>?_,p2⟩,fun x hx y hy=>?_⟩
 ·obtain ⟨m,hm⟩:=List.mem_iff_getElem?.mp hy;rw [List.getElem?_drop,Array.getElem?_toList] at hm;obtain ⟨hlt,hv⟩:=Array.getElem?_eq_some_iff.mp hm;have:=b3 (SetTable.below xs j+m) 0x1 hlt;rw [gd _ hlt,hv] at this;have hne:y≠j:=fun e=>hj (e ▸ (List.mem_iff_getElem?.mpr ⟨_,by rw [Array.getElem?_toList];exact hm⟩));lia
 ·have hxj:x<j:=by
   obtain ⟨m,hm⟩:=List.mem_iff_getElem?.mp hx;rw [List.getElem?_take] at hm
   split at hm
   ·rename_i hlt
    rw [Array.getElem?_toList] at hm;obtain ⟨hl,hv⟩:=Array.getElem?_eq_some_iff.mp hm;have:=b2 m hlt;rw [gd _ hl,hv] at this;exact this
   ·cases hm
  rcases List.mem_cons.mp hy with e | hy
  ·rw [e];exact hxj
  ·exact p3 x hx y hy
theorem U5 {t:SetTable} (T:JF t hs) {h:Int} (hj:j<=t.mask) (hnew:j∉t.place.toList) (hr:Rch t.mask t.place.toList h j) (hroom:t.place.size+1<=t.mask) :
  JF (t.put j).1 (hs.take (t.put j).2++h::hs.drop (t.put j).2)/\(t.put j).1.mask=t.mask/\(t.put j).1.led=t.led/\(t.put j).1.plain=t.plain/\(t.put j).1.place.size=t.place.size+1/\(t.put j).2<=hs.length:=by
 have hd:SetTable.has t.dummies j=false:=by
  rw [T.tab.Ye];unfold SetTable.has;simp
 have e1:(t.put j).1={ t with place:=SetTable.insertAt t.place 0x1D j }:=by
  unfold SetTable.put;simp only [hd];rfl
 have e2:(t.put j).2=SetTable.below t.place j:=rfl;obtain ⟨b1,b2,b3⟩:=sO j T.tab.srt;have hl:=T.len;have psz:(SetTable.insertAt t.place 0x1D j).size=t.place.size+1:=by
  rw [<- Array.length_toList,jo,jj,jT,List.length_take,List.length_drop,Array.length_toList];lia
 rw [e1,e2];refine ⟨⟨⟨DK T.tab.srt hnew,fun x hx=>?_,T.tab.Ye,T.tab.Yg,?_⟩,?_,fun i h' y hh hy=>?_⟩,rfl,rfl,rfl,psz,by lia⟩
 ·rw [jo] at hx;rcases List.mem_append.mp hx with hx | hx
  ·exact T.tab.bnd x (List.mem_of_mem_take hx)
  ·rcases List.mem_cons.mp hx with e | hx
   ·rw [e];exact hj
   ·exact T.tab.bnd x (List.mem_of_mem_drop hx)
 ·show (SetTable.insertAt t.place 0x1D j).size<=t.mask
  rw [psz];exact hroom
 ·show (hs.take 0x1D++h::hs.drop 0x1D).length=(SetTable.insertAt t.place 0x1D j).size
  rw [psz,jj,jT,List.length_take,List.length_drop];lia
 ·have hy':(t.place.toList.take 0x1D++j::t.place.toList.drop 0x1D)[i]?=some y:=by
   rw [<- jo,Array.getElem?_toList];exact hy
  have sub:∀ x∈t.place.toList,x∈(SetTable.insertAt t.place 0x1D j).toList:=fun x hx=>by
   rw [jo];have e:t.place.toList=t.place.toList.take 0x1D++t.place.toList.drop 0x1D:=(List.take_append_drop _ _).symm;rw [e] at hx;rcases List.mem_append.mp hx with hx | hx
   ·exact List.mem_append_left _ hx
   ·exact List.mem_append_right _ (jw _ hx)
  show Rch t.mask (SetTable.insertAt t.place 0x1D j).toList h' y
  have lt1:(hs.take 0x1D).length=SetTable.below t.place j:=by rw [List.length_take];lia
  have lt2:(t.place.toList.take 0x1D).length=SetTable.below t.place j:=by rw [List.length_take,Array.length_toList];lia
  by_cases c1:i<SetTable.below t.place j
  ·rw [List.getElem?_append_left 0x1,List.getElem?_take,if_pos c1] at hh hy';exact (T.rch i h' y hh (by rw [<- Array.getElem?_toList];exact hy')).mono sub
  ·rw [List.getElem?_append_right 0x1] at hh hy';rw [lt1] at hh;rw [lt2] at hy'
   by_cases c2:i=SetTable.below t.place j
   ·rw [c2,Nat.sub_self,List.getElem?_cons_zero] at hh hy';rw [<- Option.some.inj hh,<- Option.some.inj hy'];exact hr.mono sub
   ·obtain ⟨k,hk⟩:∃ k,i - SetTable.below t.place j=k+1:=⟨i - SetTable.below t.place j - 1,by lia⟩;rw [hk,List.getElem?_cons_succ,List.getElem?_drop] at hh hy';exact (T.rch _ h' y hh (by rw [<- Array.getElem?_toList];exact hy')).mono sub
def hdI (m:Nat):Nat->Nat->Nat->Nat×Nat
 | 0,i,pt=>(i,pt)
 | L+1,i,pt=>hdI m L ((i * 5+1+pt / 32) % (m+1)) (pt / 32)
theorem Hw (m:Nat):∀ (a b i pt:Nat),hdI m (a+b) i pt=hdI m b (hdI m a i pt).1 (hdI m a i pt).2
 | 0,b,i,pt=>by rw [Nat.zero_add];rfl
 | a+1,b,i,pt=>by
  rw [show a+1+b=(a+b)+1 by lia]
  exact Hw m a b _ _
theorem Ph (m:Nat):∀ (L i pt:Nat),(hdI m L i pt).2=pt / 32 ^ L
 | 0,i,pt=>by rw [Nat.pow_zero,Nat.div_one];rfl
 | L+1,i,pt=>by
  show (hdI m L _ (pt / 32)).2=_
  rw [Ph m L,Nat.div_div_eq_div_mul,Nat.pow_succ,Nat.mul_comm]
theorem Aj (m:Nat):∀ (L i:Nat),hdI m L i 0=(P0 m L i,0)
 | 0,i=>rfl
 | L+1,i=>by
  show hdI m L ((i * 5+1+0 / 32) % (m+1)) (0 / 32)=_
  rw [Nat.zero_div,Nat.add_zero,Aj m L];rfl
theorem Pj (m:Nat):∀ (L i pt:Nat),i<=m->(hdI m L i pt).1<=m
 | 0,i,pt,h=>h
 | L+1,i,pt,h=>Pj m L _ _ (Nat.lt_succ_iff.mp (Nat.mod_lt _ (Nat.succ_pos _)))
theorem Pk (hm:lE m) (h:Int) {y:Nat} (hy:y<=m):∃ L,L<m+15/\(hdI m L (SetTable.bits h % (m+1)) (SetTable.bits h)).1=y:=by
 have hc:VR m=true:=by
  rcases hm with e | e | e | e <;> rw [e]
  ·exact W0
  ·exact Pb
  ·exact Ht
  ·exact Hs
 have h0:SetTable.bits h % (m+1)<=m:=Nat.lt_succ_iff.mp (Nat.mod_lt _ (Nat.succ_pos _));have z:SetTable.bits h / 32 ^ 13=0:=Nat.div_eq_of_lt (Nat.lt_trans (Hu h) 0x8);obtain ⟨q,hq,eq⟩:=Pg hc (Pj m 13 _ (SetTable.bits h) h0) hy;refine ⟨13+q,by lia,?_⟩;rw [Hw,Ph,z,Aj];exact eq
theorem HB (m:Nat):∀ (k:Nat) (p:Probe),k<=p.more->(prs m p k).j=p.j+k
 | 0,p,_=>rfl
 | k+1,p,h=>by
  have e:eY m p={ p with j:=p.j+1,more:=p.more - 1 }:=by unfold eY;rw [if_pos 0x1]
  show (prs m (eY m p) k).j=_
  rw [HB m k (eY m p) (by rw [e];show k<=p.more - 1;lia),e]
  show p.j+1+k=p.j+(k+1)
  lia
theorem xV (h:i<=m):SetTable.runEnd m i<=m/\i<=SetTable.runEnd m i:=by unfold SetTable.runEnd;split <;> lia
def RchP (m:Nat) (O:Nat->Prop) (h:Int) (y:Nat):Prop:=∃ n,(prs m (stM m h) n).j=y/\∀ k,k<n->O (prs m (stM m h) k).j
def taken (o:Array (Option Nat)) (j:Nat):Prop:=(o.getD j (some 0)).isNone=false
theorem Ak {o:Array (Option Nat)}:∀ (fuel i pt:Nat) (p:Probe) (y:Nat),i<=m->Hr m i pt p->SetTable.layClean.free m o fuel i pt=some y->y<=m/\(o.getD y (some 0)).isNone=true/\∃ n,(prs m p n).j=y/\∀ k,k<n->taken o (prs m p k).j
 | 0,i,pt,p,y,_,_,h=>by cases h
 | fuel+1,i,pt,p,y,hi,ha,h=>by
  obtain ⟨a1,a2,a3,a4⟩:=ha;obtain ⟨r1,r2⟩:=xV hi;rw [SetTable.layClean.free] at h
  split at h
  ·rename_i k hk
   injection h with h;subst h;have hmem:=List.mem_of_find?_eq_some hk;have hkr:=List.mem_range.mp hmem;have hpk:=List.find?_some hk;refine ⟨by lia,hpk,k,by rw [HB m k p 0x1,a1],fun k' hk'=>?_⟩;rw [HB m k' p 0x1,a1];have:=List.find?_range_eq_some.mp hk;have h3:=this.2.2 k' hk';unfold taken
   simpa using h3
  ·rename_i hn
   have hall:=List.find?_eq_none.mp hn;have hoff:=xU (m:=m) (i:=i) (pt:=pt) (p:=p) ⟨a1,a2,a3,a4⟩;have hlp:(SetTable.leap m i pt)=((i * 5+1+pt / 32) % (m+1),pt / 32):=rfl;obtain ⟨ro1,ro2,ro3⟩:=xT m p.more p rfl;have hat:Hr m ((i * 5+1+pt / 32) % (m+1)) (pt / 32) (prs m p (p.more+1)):=by
    rw [sU];unfold eY;rw [if_neg 0x1];have e1:0x12=((i * 5+1+pt / 32) % (m+1),pt / 32):=by
     rw [ro2,ro3,a3,a4];rfl
    exact ⟨by rw [e1],by rw [e1],by rw [e1],by rw [e1]⟩
   obtain ⟨c1,c2,n,c3,c4⟩:=Ak fuel _ _ (prs m p (p.more+1)) y (Nat.lt_succ_iff.mp (Nat.mod_lt _ (Nat.succ_pos _))) hat h;refine ⟨c1,c2,(p.more+1)+n,by rw [fK];exact c3,fun k hk=>?_⟩
   by_cases hkl:k<p.more+1
   ·rw [HB m k p 0x1,a1];exact Bool.eq_false_iff.mpr (hall k (List.mem_range.mpr 0x1))
   ·obtain ⟨k',rfl⟩:∃ k',k=(p.more+1)+k':=⟨k - (p.more+1),by lia⟩;rw [fK];exact c4 k' 0x1
theorem v7 {o:Array (Option Nat)}:∀ (L fuel i pt:Nat),i<=m->L<fuel->(o.getD (hdI m L i pt).1 (some 0)).isNone=true->∃ y,SetTable.layClean.free m o fuel i pt=some y
 | L,0,i,pt,_,hL,_=>absurd hL (Nat.not_lt_zero _)
 | L,fuel+1,i,pt,hi,hL,h=>by
  obtain ⟨r1,r2⟩:=xV hi;rw [SetTable.layClean.free]
  split
  ·exact ⟨_,rfl⟩
  ·rename_i hn
   have hall:=List.find?_eq_none.mp hn;cases L with
   | zero =>
    have:=hall 0 (List.mem_range.mpr 0x1);exact absurd (show (o.getD (i+0) (some 0)).isNone=true from h) this
   | succ L=>exact v7 L fuel _ _ (Nat.lt_succ_iff.mp (Nat.mod_lt _ (Nat.succ_pos _))) 0x1 h
def cnt (l:List (Option Nat)):Nat:=(l.filter Option.isSome).length
theorem HD:∀ {l:List (Option Nat)}{y k:Nat},l[y]?=some none->cnt (l.set y (some k))=cnt l+1
 | [],y,k,h=>by cases h
 | x::r,0,k,h=>by
  have e:x=none:=by simpa using h
  subst e;rfl
 | x::r,y+1,k,h=>by
  have ih:=HD (l:=r) (y:=y) (k:=k) (by simpa using h);unfold cnt at ih ⊢
  show (List.filter Option.isSome (x::r.set y (some k))).length=_
  cases x with
  | none=>simpa using ih
  | some v=>simp [ih]
theorem Yi {l:List (Option Nat)} (h:cnt l<l.length):∃ y:Nat,l[y]?=some none:=by
 induction l with
 | nil=>cases h
 | cons x r ih =>
  cases x with
  | none=>exact ⟨0,rfl⟩
  | some v =>
   have:cnt (some v::r)=cnt r+1:=rfl;rw [this,jT] at h;obtain ⟨y,hy⟩:=ih 0x1;exact ⟨y+1,by simpa using hy⟩
theorem getD_at {o:Array (Option Nat)}{y:Nat} (hy:y<o.size):o.getD y (some 0)=o[y]:=by
 rw [Array.getD_eq_getD_getElem?,Array.getElem?_eq_getElem hy];rfl
structure Own (m:Nat) (hs:List Int) (o:Array (Option Nat)):Prop where
 size:o.size=m+1
 cnt:cnt o.toList=hs.length
 at_:∀ (y k:Nat),o[y]?=some (some k)->∃ h,hs[k]?=some h/\RchP m (taken o) h y
 all:∀ k,k<hs.length->∃ y:Nat,o[y]?=some (some k)
theorem v9 {o:Array (Option Nat)}{y k:Nat} (h:taken o j):taken (o.setIfInBounds y (some k)) j:=by
 unfold taken at h ⊢;rw [Array.getD_eq_getD_getElem?] at h ⊢;rw [Array.getElem?_setIfInBounds]
 split
 ·split
  ·rfl
  ·rfl
 ·exact h
theorem Pn (hm:lE m) {o:Array (Option Nat)} (O:Own m hs o) (h:Int) (hl:hs.length<m+1):∃ y,SetTable.layClean.free m o (SetTable.turns m) (SetTable.bits h % (m+1)) (SetTable.bits h)=some y/\Own m (hs++[h]) (o.setIfInBounds y (some hs.length)):=by
 have h0:SetTable.bits h % (m+1)<=m:=Nat.lt_succ_iff.mp (Nat.mod_lt _ (Nat.succ_pos _));obtain ⟨y0,hy0⟩:=Yi (l:=o.toList) (by rw [O.cnt];have:=O.size;rw [show o.toList.length=o.size from Array.length_toList];lia)
 have hy0l:y0<o.size:=by
  rw [Array.getElem?_toList] at hy0;exact (Array.getElem?_eq_some_iff.mp hy0).1
 have hy0n:(o.getD y0 (some 0)).isNone=true:=by
  rw [Array.getElem?_toList] at hy0;rw [Array.getD_eq_getD_getElem?,hy0];rfl
 obtain ⟨L,hL,eL⟩:=Pk hm h (y:=y0) (by have:=O.size;lia);obtain ⟨y,hy⟩:=v7 L (SetTable.turns m) (SetTable.bits h % (m+1)) (SetTable.bits h) h0 hL (by rw [eL];exact hy0n);obtain ⟨w1,w2,n,w3,w4⟩:=Ak _ _ _ (stM m h) y h0 ⟨rfl,rfl,rfl,rfl⟩ hy;have hyl:y<o.size:=by have:=O.size;lia
 have hyn:o[y]?=some none:=by
  rw [getD_at hyl] at w2;rw [Array.getElem?_eq_getElem hyl];cases e:o[y] with
  | none=>rfl
  | some v=>rw [e] at w2;cases w2
 refine ⟨y,hy,⟨by rw [Array.size_setIfInBounds];exact O.size,?_,fun y' k hk=>?_,fun k hk=>?_⟩⟩
 ·rw [Array.toList_setIfInBounds,HD (by rw [Array.getElem?_toList];exact hyn),O.cnt,jj];rfl
 ·rw [Array.getElem?_setIfInBounds] at hk
  split at hk
  ·rename_i e
   subst e;injection hk with hk;injection hk with hk;subst hk;exact ⟨h,by simp,n,w3,fun k hk=>v9 (w4 k hk)⟩
  ·obtain ⟨h',e1,n',e2,e3⟩:=O.at_ y' k hk;have hkl:k<hs.length:=(List.getElem?_eq_some_iff.mp e1).1;exact ⟨h',by rw [List.getElem?_append_left hkl];exact e1,n',e2,fun q hq=>v9 (e3 q hq)⟩
 ·rw [jj,List.length_singleton] at hk
  by_cases e:k=hs.length
  ·exact ⟨y,by rw [Array.getElem?_setIfInBounds,if_pos rfl,if_pos hyl,e]⟩
  ·obtain ⟨y',hy'⟩:=O.all k 0x1;refine ⟨y',?_⟩;rw [Array.getElem?_setIfInBounds];have hne:¬ y=y':=fun e2=>by subst e2;rw [hyn] at hy';injection hy' with hy';cases hy'
   rw [if_neg hne];exact hy'
theorem U6 (m:Nat):Own m [] (Array.replicate (m+1) none):=by
 refine ⟨by simp,?_,fun y k h=>?_,fun k hk=>absurd hk (Nat.not_lt_zero _)⟩
 ·rw [Array.toList_replicate];unfold cnt;rw [List.filter_replicate];rfl
 ·rw [Array.getElem?_replicate] at h
  split at h
  ·injection h with h;cases h
  ·cases h
def nW (m:Nat) (acc:Option (Array (Option Nat)×Nat)) (h:Int):Option (Array (Option Nat)×Nat):=do
  let (owner,k) <- acc
  let j <- SetTable.layClean.free m owner (SetTable.turns m) (SetTable.bits h % (m+1)) (SetTable.bits h)
  pure (owner.setIfInBounds j (some k),k+1)
theorem Al (hm:lE m):∀ (more hs:List Int) (o:Array (Option Nat)),Own m hs o->hs.length+more.length<=m+1->∃ o',more.foldl (nW m) (some (o,hs.length))=some (o',(hs++more).length)/\Own m (hs++more) o'
 | [],hs,o,O,_=>⟨o,by simp,by rw [List.append_nil];exact O⟩
 | h::r,hs,o,O,hl=>by
  rw [jT] at hl;obtain ⟨y,hy,O'⟩:=Pn hm O h 0x1;obtain ⟨o',e,O2⟩:=Al hm r (hs++[h]) _ O' (by rw [jj,List.length_singleton];lia);refine ⟨o',?_,?_⟩
  ·have es:nW m (some (o,hs.length)) h=some (o.setIfInBounds y (some hs.length),(hs++[h]).length):=by
    unfold nW
    show (SetTable.layClean.free m o (SetTable.turns m) (SetTable.bits h % (m+1)) (SetTable.bits h)).bind _=_
    rw [hy,jj];rfl
   rw [List.foldl_cons,es,e,List.append_assoc];rfl
  ·rw [List.append_assoc] at O2;exact O2
theorem JG (hm:lE m) {hs:Array Int} (hl:hs.size<=m+1):∃ o,SetTable.layClean m hs=some o/\Own m hs.toList o:=by
 obtain ⟨o,e,O⟩:=Al hm hs.toList [] _ (U6 m) (by rw [Array.length_toList];simpa using hl);refine ⟨o,?_,by simpa using O⟩;unfold SetTable.layClean;have e':hs.foldl (nW m) (some (Array.replicate (m+1) none,0))=some (o,([]++hs.toList).length):=by
  rw [<- Array.foldl_toList];exact e
 show (hs.foldl (nW m) (some (Array.replicate (m+1) none,0))).map (·.1)=some o
 rw [e'];rfl
def gD (o:Array (Option Nat)) (n:Nat):List (Nat×Nat):=(List.range n).filterMap fun j=>(o.getD j none).map (j,·)
theorem lG {o:Array (Option Nat)}{y k:Nat}:(y,k)∈gD o n↔y<n/\o[y]?=some (some k):=by
 unfold gD;rw [List.mem_filterMap]
 constructor
 ·rintro ⟨j,hj,e⟩;rw [Array.getD_eq_getD_getElem?] at e;cases h:o[j]? with
  | none=>rw [h] at e;cases e
  | some v =>
   rw [h] at e;cases v with
   | none=>cases e
   | some w =>
    injection e with e;injection e with e1 e2;subst e1 e2;exact ⟨List.mem_range.mp hj,h⟩
 ·rintro ⟨h1,h2⟩;exact ⟨y,List.mem_range.mpr h1,by rw [Array.getD_eq_getD_getElem?,h2];rfl⟩
theorem pK (o:Array (Option Nat)):∀ n,((gD o n).map (·.1)).Pairwise (·<·)
 | 0=>List.Pairwise.nil
 | n+1=>by
  have e:gD o (n+1)=gD o n++(match (o.getD n none).map (n,·) with | some v=>[v] | none=>[]):=by
   unfold gD;rw [List.range_succ,List.filterMap_append]
   congr 1
   rw [List.filterMap_cons,List.filterMap_nil];cases (o.getD n none).map (n,·) <;> rfl
  rw [e,jO];refine List.pairwise_append.mpr ⟨pK o n,?_,fun x hx y hy=>?_⟩
  ·cases (o.getD n none).map (n,·) <;> simp
  ·obtain ⟨⟨a,b⟩,ha,rfl⟩:=List.mem_map.mp hx;have:=(lG.mp ha).1;cases h:o.getD n none with
   | none=>rw [h] at hy;cases hy
   | some v =>
    rw [h] at hy;have:y=n:=by simpa using hy
    lia
theorem Am {o:Array (Option Nat)}:∀ n,n<=o.size->(gD o n).length=cnt (o.toList.take n)
 | 0,_=>rfl
 | n+1,h=>by
  have hn:n<o.size:=by lia
  have e:gD o (n+1)=gD o n++(match (o.getD n none).map (n,·) with | some v=>[v] | none=>[]):=by
   unfold gD;rw [List.range_succ,List.filterMap_append]
   congr 1
   rw [List.filterMap_cons,List.filterMap_nil];cases (o.getD n none).map (n,·) <;> rfl
  have eg:o.getD n none=o[n]:=by rw [Array.getD_eq_getD_getElem?,Array.getElem?_eq_getElem hn];rfl
  rw [e,jj,Am n 0x1,List.take_add_one,Array.getElem?_toList,Array.getElem?_eq_getElem hn];unfold cnt;rw [List.filter_append,jj,eg];cases o[n] with
  | none=>rfl
  | some v=>rfl
theorem Ao:∀ {xs ys:List Nat},xs.Nodup->(∀ x∈xs,x∈ys)->ys.length<=xs.length->xs.Perm ys
 | [],ys,_,_,hl=>by
  have e:ys=[]:=List.length_eq_zero_iff.mp (Nat.le_zero.mp hl);rw [e]
 | x::r,ys,hx,h,hl=>by
  have h1:=List.nodup_cons.mp hx;have hm:=h x List.mem_cons_self;have ih:=Ao (xs:=r) (ys:=ys.erase x) h1.2 (fun y hy=>by
   have hne:y≠x:=fun e=>h1.1 (e ▸ hy);exact (List.mem_erase_of_ne hne).mpr (h y (jw _ hy))) (by
   rw [List.length_erase_of_mem hm];rw [jT] at hl;lia)
  exact (List.Perm.cons x ih).trans (List.perm_cons_erase hm).symm
theorem Yj {p:Probe} (h:p.j+p.more<=m):(eY m p).j+(eY m p).more<=m:=by
 unfold eY
 split
 ·show p.j+1+(p.more - 1)<=m
  lia
 ·have hi:(0x2F).1<=m:=Nat.lt_succ_iff.mp (Nat.mod_lt _ (Nat.succ_pos _));have:=xV hi
  show (0x2F).1+(SetTable.runEnd m (0x2F).1 - (0x2F).1)<=m
  lia
theorem Pq:∀ (n:Nat) {p:Probe},p.j+p.more<=m->(prs m p n).j+(prs m p n).more<=m
 | 0,p,h=>h
 | n+1,p,h=>Pq n (Yj h)
theorem a0I (m:Nat) (h:Int):(stM m h).j+(stM m h).more<=m:=by
 have hi:SetTable.bits h % (m+1)<=m:=Nat.lt_succ_iff.mp (Nat.mod_lt _ (Nat.succ_pos _));have:=xV hi
 show SetTable.bits h % (m+1)+(SetTable.runEnd m (SetTable.bits h % (m+1)) - SetTable.bits h % (m+1))<=m
 lia
theorem Pr (m:Nat) (h:Int) (n:Nat):(prs m (stM m h) n).j<=m:=by
 have:=Pq n (a0I m h);lia
theorem mJ {α β:Type}{f:α->Option β}{g:α->β}:∀ {l:List α},(∀ x∈l,f x=some (g x))->l.filterMap f=l.map g
 | [],_=>rfl
 | x::r,h=>by
  rw [List.filterMap_cons,h x List.mem_cons_self,List.map_cons,mJ fun y hy=>h y (jw _ hy)]
theorem U7 {finger moves:Nat}{led plain:Bool} (hm:lE m) {es:Array (Int×Value)} (hl:es.size<=m) :
  ∃ t order,SetTable.laid m finger moves led plain (es.map (·.1))=some (t,order)/\t.mask=m/\t.led=led/\t.plain=plain/\t.moves=moves/\(order.filterMap (es[·]?)).size=es.size/\(order.filterMap (es[·]?)).toList.Perm es.toList/\JF t ((order.filterMap (es[·]?)).toList.map (·.1)):=by
 obtain ⟨o,ho,O⟩:=JG hm (hs:=es.map (·.1)) (by rw [Array.size_map];lia);have hK:(es.map (·.1)).toList.length=es.size:=by rw [Array.length_toList,Array.size_map]
 have hlen:(gD o (m+1)).length=es.size:=by
  rw [Am (m+1) (by rw [O.size];exact Nat.le_refl _),List.take_of_length_le (by rw [Array.length_toList,O.size];exact Nat.le_refl _),O.cnt,hK]
 have perm:((gD o (m+1)).map (·.2)).Perm (List.range es.size):=by
  refine (Ao List.nodup_range (fun k hk=>?_) (by rw [bL,hlen,List.length_range];exact Nat.le_refl _)).symm;have hk':=List.mem_range.mp hk;obtain ⟨y,hy⟩:=O.all k (by rw [hK];exact hk');have hyl:y<o.size:=(Array.getElem?_eq_some_iff.mp hy).1;exact List.mem_map.mpr ⟨(y,k),lG.mpr ⟨by rw [O.size] at hyl;exact hyl,hy⟩,rfl⟩
 refine ⟨{ mask:=m,place:=((gD o (m+1)).map (·.1)).toArray,dummies:=#[],finger,led,moves,plain },((gD o (m+1)).map (·.2)).toArray,?_,rfl,rfl,rfl,rfl,?_⟩
 ·unfold SetTable.laid
  show (SetTable.layClean m (es.map (·.1))).bind _=_
  rw [ho];rfl
 have eL:(((gD o (m+1)).map (·.2)).toArray.filterMap (es[·]?)).toList=((gD o (m+1)).map (·.2)).filterMap (es[·]?):=by
  rw [Array.toList_filterMap]
 have W2:∀ k∈(gD o (m+1)).map (·.2),k<es.size:=fun k hk=>List.mem_range.mp (perm.mem_iff.mp hk);have hp:(((gD o (m+1)).map (·.2)).toArray.filterMap (es[·]?)).toList.Perm es.toList:=by
  rw [eL];refine (perm.filterMap (es[·]?)).trans ?_;rw [filterMap_getElem?_range]
 refine ⟨?_,hp,?_⟩
 ·have:=hp.length_eq;rw [Array.length_toList,Array.length_toList] at this;exact this
 have hne:∀ k∈(gD o (m+1)).map (·.2),es[k]?=some (es.getD k (0,.none)):=fun k hk=>by
  have:=W2 k hk;rw [Array.getD_eq_getD_getElem?,Array.getElem?_eq_getElem this];rfl
 rw [eL,mJ hne];refine ⟨⟨?_,fun j hj=>?_,rfl,hm,?_⟩,?_,fun i h y hh hy=>?_⟩
 ·show VN ((gD o (m+1)).map (·.1)).toArray.toList
  exact pK o (m+1)
 ·have hj':j∈(gD o (m+1)).map (·.1):=hj;obtain ⟨⟨a,b⟩,hab,rfl⟩:=List.mem_map.mp hj';have:=(lG.mp hab).1
  show a<=m
  lia
 ·show ((gD o (m+1)).map (·.1)).toArray.size<=m
  rw [List.size_toArray,bL,hlen];exact hl
 ·show _=((gD o (m+1)).map (·.1)).toArray.size
  rw [List.size_toArray,bL,bL,bL,bL]
 ·have hy':((gD o (m+1)).map (·.1))[i]?=some y:=by
   have:((gD o (m+1)).map (·.1)).toArray[i]?=some y:=hy;rw [List.getElem?_toArray] at this;exact this
  rw [iK] at hy';obtain ⟨⟨a,b⟩,hab,rfl⟩:=Option.map_eq_some_iff.mp hy';have hmem:=jL hab;rw [iK,iK,iK,hab] at hh;have hh':(es.getD b (0,.none)).1=h:=by simpa using hh
  obtain ⟨hlt,hob⟩:=lG.mp hmem;obtain ⟨h',e1,n,e2,e3⟩:=O.at_ a b hob;have hbl:b<es.size:=W2 b (List.mem_map.mpr ⟨(a,b),hmem,rfl⟩);have eh:h'=h:=by
   rw [Array.getElem?_toList,Array.getElem?_map,Array.getElem?_eq_getElem hbl] at e1;rw [<- hh',Array.getD_eq_getD_getElem?,Array.getElem?_eq_getElem hbl];exact (Option.some.inj e1).symm
  subst eh;refine ⟨n,e2,fun k hk=>?_⟩
  show (prs m (stM m h') k).j∈(gD o (m+1)).map (·.1)
  have hk3:=e3 k hk;have hin:=Pr m h' k;generalize (prs m (stM m h') k).j=j at hk3 hin;unfold taken at hk3;have hjs:j<o.size:=by rw [O.size];lia
  rw [getD_at hjs] at hk3;cases ej:o[j] with
  | none=>rw [ej] at hk3;cases hk3
  | some v=>exact List.mem_map.mpr ⟨(j,v),lG.mpr ⟨by lia,by rw [Array.getElem?_eq_getElem hjs,ej]⟩,rfl⟩
section
variable {K:Type} [DecidableEq K] {knd:KeyKind prog w K}
theorem Aq (n:Nat) {v:Value} (h:carriedByValue v=true):ofAClassStatement n v=pure false:=by
 cases v with
 | ref a=>simp [carriedByValue] at h
 | _=>cases n <;> rfl
theorem vd {ks:List K}{Q:Bool->Shared->Prop} (hk:IsTupleKey knd s.heap ks a) (h:Q false s):wpAny 0xB A (ofAClassStatement 8 (.ref a)) Q E s:=by
 have hT:=hk.typeIs;obtain ⟨o,items,n,ho,_,hd,hi⟩:=hk;unfold ofAClassStatement;refine wpAny_bind (wpAny_typeOf hT ?_);dsimp only;rw [if_pos 0x8];refine wpAny_bind (wpAny_pure ?_);simp only [Bool.not_true,Bool.false_eq_true,if_false];refine wpAny_bind (wpAny_seqItems ho hd ?_);dsimp only;refine wpAny_bind ?_
 show wpAny _ _ (forIn items _ _) _ _ s
 rw [<- Array.forIn_toList];refine wpAny_forIn_list _ (fun rest r s'=>r.1=none/\s'=s/\∀ v∈rest,carriedByValue v=true) _ ?_ ?_ _ _ ⟨rfl,rfl,hi.byValue⟩
 ·rintro v rest r s' ⟨hr,rfl,hall⟩;rw [Aq _ (hall v List.mem_cons_self)];refine wpAny_bind (wpAny_pure ?_);simp only [Bool.false_eq_true,if_false];exact wpAny_pure ⟨rfl,rfl,fun u hu'=>hall u (jw _ hu')⟩
 ·rintro ⟨r1,r2⟩ s' ⟨hr,rfl,_⟩;simp only at hr;subst hr;exact wpAny_pure h
theorem Yk {kx:List K} (hx:IsTupleKey knd s.heap kx ax) {st:List Value} (hst:∀ v∈st,∃ k b,v=.ref b/\IsTupleKey knd s.heap k b) {Q:Bool->Shared->Prop} (h:Q false s) :
  wpAny 0xB A (searchCouldBeSeen (.ref ax) st) Q E s:=by
 unfold searchCouldBeSeen;refine wpAny_bind ?_;refine wpAny_forIn_list _ (fun rest r s'=>r.1=none/\s'=s/\∀ v∈rest,∃ k b,v=.ref b/\IsTupleKey knd s.heap k b) _ ?_ ?_ _ _ ⟨rfl,rfl,hst⟩
 ·rintro v rest r s' ⟨hr,rfl,hall⟩;obtain ⟨k,b,rfl,hb⟩:=hall v List.mem_cons_self;have rest':∀ v∈rest,∃ k b,v=.ref b/\IsTupleKey knd s'.heap k b:=fun u hu=>hall u (jw _ hu);dsimp only
  by_cases hv:(ax==b||(carriedByValue (.ref ax)&&carriedByValue (.ref b)))=true
  ·rw [if_pos hv];exact wpAny_pure ⟨rfl,rfl,rest'⟩
  ·rw [if_neg hv];refine wpAny_bind (wpAny_eqIsQuiet_tuple hx ?_);simp only [Bool.not_true,Bool.false_eq_true,if_false];refine wpAny_bind (wpAny_eqIsQuiet_tuple hb ?_);simp only [Bool.not_true,Bool.false_eq_true,if_false];refine wpAny_bind (vd hx ?_);simp only [Bool.false_eq_true,if_false];refine wpAny_bind (vd hb ?_);simp only [Bool.false_eq_true,if_false];exact wpAny_pure ⟨rfl,rfl,rest'⟩
 ·rintro ⟨r1,r2⟩ s' ⟨hr,rfl,_⟩;simp only at hr;subst hr;exact wpAny_pure h
theorem vf {t:SetTable} (T:Tab t) {i':Nat} (h1:t.place[i]?=some j) (h2:t.place[i']?=some j):i=i':=(below_at T.srt h1).symm.trans (below_at T.srt h2)
theorem Pu {t:SetTable}{es:Array (Int×Value)} (T:Tab t) {sh:Nat->Int}{h:Int}{p:Probe}{r:Option Met} (hr:t.probe sh h p=r) (hsh:∀ (i:Nat) (e:Int×Value),es[i]?=some e->sh i=e.1) (hd:p.dummy=none) {n0:Nat} (hn0:n0<10 * (t.mask+15))
  (hole:(prs t.mask p n0).j∉t.place.toList) (way:∀ k,k<n0->(prs t.mask p k).j∈t.place.toList) (hsz:es.size=t.place.size) :
  (r=some (.empty (prs t.mask p n0).j none)/\∀ (i k:Nat) (e:Int×Value),k<n0->t.place[i]?=some (prs t.mask p k).j->es[i]?=some e->e.1≠h) \/
  ∃ (n i:Nat) (e:Int×Value),n<n0/\t.place[i]?=some (prs t.mask p n).j/\es[i]?=some e/\e.1=h/\r=some (.candidate (prs t.mask p n).j i (prs t.mask p (n+1)))/\∀ (i' k:Nat) (e':Int×Value),k<n->t.place[i']?=some (prs t.mask p k).j->es[i']?=some e'->e'.1≠h:=by
 obtain ⟨n,hn,h1,h2⟩:=Hv T sh h (10 * SetTable.turns t.mask) p hd ⟨n0,hn0,hole⟩;have skip:∀ (i k:Nat) (e:Int×Value),k<n->t.place[i]?=some (prs t.mask p k).j->es[i]?=some e->e.1≠h:=fun i k e hk hp he=>by
  obtain ⟨i',hi',hne⟩:=h1 k hk;have ei:=vf T hp hi';subst ei;rw [<- hsh i e he];exact hne
 have hle:n<=n0:=by
  apply Classical.byContradiction
  intro hc;obtain ⟨i',hi',_⟩:=h1 n0 0x1;exact hole (List.mem_iff_getElem?.mpr ⟨i',by rw [Array.getElem?_toList];exact hi'⟩)
 have er:SetTable.probe.go t sh h (10 * SetTable.turns t.mask) p=r:=hr;rcases h2 with ⟨g1,g2⟩ | ⟨i,g1,g2,g3⟩
 ·have e:n=n0:=by
   apply Classical.byContradiction
   intro hc;exact g1 (way n 0x1)
  subst e;exact .inl ⟨by rw [<- er,g2],skip⟩
 ·have hlt:n<n0:=by
   apply Classical.byContradiction
   intro hc;have e:n=n0:=by lia
   subst e;exact hole (List.mem_iff_getElem?.mpr ⟨i,by rw [Array.getElem?_toList];exact g1⟩)
  have hil:i<es.size:=by
   rw [hsz];exact (Array.getElem?_eq_some_iff.mp g1).1
  have hei:es[i]?=some es[i]:=Array.getElem?_eq_getElem hil;exact .inr ⟨n,i,es[i],hlt,g1,hei,by rw [<- hsh i _ hei];exact g2,by rw [<- er,g3],skip⟩
def Ents (knd:KeyKind prog w K) (h:Heap) (es:Array (Int×Value)) (kk:List (List K)):Prop:=kk.length=es.size/\∀ (i:Nat) (e:Int×Value),es[i]?=some e->∃ k b,kk[i]?=some k/\e=(tupleKeyHash knd k,.ref b)/\IsTupleKey knd h k b
theorem Px (h:lE m):(m % 2==0)=false:=by rcases h with e | e | e | e <;> rw [e] <;> rfl
theorem fits_of {t:SetTable} (T:JF t hs) (hn:hs.length=n):t.fits n=true:=by
 unfold SetTable.fits SetTable.fill;have h1:=T.len;have h2:=T.tab.few;rw [T.tab.Ye];simp;lia
theorem PB {o:Obj}{es:Array (Int×Value)}{t:SetTable}{kk:List (List K)}{kx:List K} (ho:s.heap.get? a=some o) (hd:o.data=.set es ep t) (T:JF t (es.toList.map (·.1))) (hes:Ents knd s.heap es kk)
  (hu:A.units<cLine) (hx:IsTupleKey knd s.heap kx ax) {Q:SetFound->Shared->Prop} :
  ∀ (n0 fuel:Nat) (stand:Option Probe) (p:Probe),stand.getD (t.probeStart (tupleKeyHash knd kx))=p->p.dummy=none->n0<fuel->n0<10 * (t.mask+15)->(prs t.mask p n0).j∉t.place.toList->(∀ k,k<n0->(prs t.mask p k).j∈t.place.toList) ->
   ((∃ (i k:Nat),k<n0/\t.place[i]?=some (prs t.mask p k).j/\kk[i]?=some kx)->Q (.there none) s) ->
   ((∀ (i k:Nat),k<n0->t.place[i]?=some (prs t.mask p k).j->kk[i]?≠some kx)->Q (.free (prs t.mask p n0).j false) s) ->
   wpAny 0xB A (setSearchFrom a (.ref ax) (tupleKeyHash knd kx) true fuel stand) Q E s:=by
 intro n0
 induction n0 using Nat.strongRecOn with
 | _ n0 ih =>
  intro fuel stand p hp hdm hfu hn0 hole way hthere hfree;obtain ⟨f,rfl⟩:∃ f,fuel=f+1:=⟨fuel - 1,by lia⟩;have hfit:t.fits es.size=true:=fits_of T (by rw [bL,Array.length_toList]);unfold setSearchFrom;refine wpAny_bind (wpAny_setState_of ho hd hfit ?_);dsimp only;have hgw:t.gaveWay=false:=Px T.tab.Yg;rw [hgw];simp only [Bool.false_eq_true,if_false];refine wpAny_bind (wpAny_pure ?_);rw [hp];have hsz:es.size=t.place.size:=by have:=T.len;rw [bL,Array.length_toList] at this;exact this
  have PJ:=fun {sh:Nat->Int}{r:Option Met} (hr:t.probe sh (tupleKeyHash knd kx) p=r) (hsh:∀ (i:Nat) (e:Int×Value),es[i]?=some e->sh i=e.1)=>Pu (es:=es) T.tab hr hsh hdm hn0 hole way hsz
  split
  ·rename_i met hmet
   rcases PJ hmet (fun i e he=>by
     show (es[i]?.map (·.1)).getD 0=e.1
     rw [he];rfl) with ⟨e1,sk⟩ | ⟨n,i,e,hn,hpl,hei,heh,e1,sk⟩
   ·injection e1 with e1;subst e1;dsimp only;refine wpAny_pure (hfree fun i k hk hpl hki=>?_);have hil:i<es.size:=by rw [hsz];exact (Array.getElem?_eq_some_iff.mp hpl).1
    obtain ⟨k',b,g1,g2,g3⟩:=hes.2 i es[i] (Array.getElem?_eq_getElem hil);have ek:k'=kx:=by rw [hki] at g1;exact (Option.some.inj g1).symm
    exact sk i k es[i] hk hpl (Array.getElem?_eq_getElem hil) (by rw [g2,ek])
   ·injection e1 with e1;subst e1;dsimp only;obtain ⟨ki,b,g1,g2,g3⟩:=hes.2 i e hei;have W3:wpAny 0xB A (match es[i]? with
       | some (_,y)=>do
        let equal <- holding [y] (eqBool y (Value.ref ax))
        let __x <- setState a
        if (true&&equal)=true then pure (SetFound.there none)
         else
          match __x.2.snd.sameMemory t.moves t.mask with
          | some same=>do
           let still <- match (if same=true then __x.2.snd.slot (prs t.mask p n).j else Slot.empty) with
            | Slot.live i'=>match __x.fst[i']? with
             | some (_,y')=>do pure (if <- isSame y' y then some i' else none)
             | none=>pure none
            | _=>pure none
           match still with
            | none=>do
             rule "set.search.anew"
             setSearchFrom a (Value.ref ax) (tupleKeyHash knd kx) true f none
            | some i' =>
             if equal=true then pure (SetFound.there (some i'))
             else setSearchFrom a (Value.ref ax) (tupleKeyHash knd kx) true f (some (prs t.mask p (n+1)))
          | x=>unsupported "set.changed-during-lookup:is-the-new-block-at-the-old-address"
       | x=>unsupported "internal:set-entry") Q E s:=by
     rw [hei,g2];dsimp only;refine wpAny_bind (wpAny_holding (wpAny_eqBool_tuple hu g3 hx ?_));refine wpAny_bind (wpAny_setState_of ho hd hfit ?_);dsimp only
     by_cases hk:ki=kx
     ·rw [decide_eq_true hk];rw [if_pos (show (true&&true)=true from rfl)]
      exact wpAny_pure (hthere ⟨i,n,hn,hpl,by rw [<- hk];exact g1⟩)
     ·rw [decide_eq_false hk];rw [if_neg (show ¬ (true&&false)=true by decide)]
      have hsm:t.sameMemory t.moves t.mask=some true:=by
       unfold SetTable.sameMemory;rw [if_pos (beq_self_eq_true _)]
      rw [hsm];dsimp only;rw [if_pos rfl,T.tab.live hpl];dsimp only;rw [hei,g2];dsimp only;refine wpAny_bind (wpAny_isSame_ref_self ?_);refine wpAny_bind (wpAny_pure ?_);rw [if_pos rfl];dsimp only;rw [if_neg 0x4];refine ih (n0 - (n+1)) 0x1 f _ (prs t.mask p (n+1)) rfl (by rw [uZ];exact hdm) 0x1 0x1 ?_ (fun k hk'=>?_) (fun ⟨i',k',a1,a2,a3⟩=>hthere ⟨i',n+1+k',by lia,by rw [fK];exact a2,a3⟩) (fun hn'=>?_)
      ·rw [<- fK,show n+1+(n0 - (n+1))=n0 by lia];exact hole
      ·rw [<- fK];exact way _ 0x1
      ·rw [<- fK,show n+1+(n0 - (n+1))=n0 by lia]
       refine hfree fun i' k' hk' hpl' U8=>?_;have hil:i'<es.size:=by rw [hsz];exact (Array.getElem?_eq_some_iff.mp hpl').1
       by_cases c1:k'<n
       ·obtain ⟨k'',b'',q1,q2,q3⟩:=hes.2 i' es[i'] (Array.getElem?_eq_getElem hil);have ek:k''=kx:=by rw [U8] at q1;exact (Option.some.inj q1).symm
        exact sk i' k' es[i'] c1 hpl' (Array.getElem?_eq_getElem hil) (by rw [q2,ek])
       ·by_cases c2:k'=n
        ·subst c2;have ei:=vf T.tab hpl' hpl;subst ei;rw [g1] at U8;exact hk (Option.some.inj U8)
        ·obtain ⟨q,rfl⟩:∃ q,k'=n+1+q:=⟨k' - (n+1),by lia⟩;rw [fK] at hpl';exact hn' i' q 0x1 hpl' U8
    cases hled:t.led with
    | true =>
     rw [if_neg (show ¬ (!true)=true by decide)]
     exact W3
    | false =>
     rw [if_pos (show (!false)=true by decide)]
     refine wpAny_bind (Yk hx (fun v hv=>?_) ?_)
     ·obtain ⟨e',he',rfl⟩:=List.mem_map.mp hv;have hm:e'∈es.toList:=by
       have:=List.mem_filter.mp (by rw [<- Array.toList_filter];exact he');exact this.1
      obtain ⟨i',hi'⟩:=List.mem_iff_getElem?.mp hm;obtain ⟨k',b',_,q2,q3⟩:=hes.2 i' e' (by rw [<- Array.getElem?_toList];exact hi');exact ⟨k',b',by rw [q2],q3⟩
     ·rw [if_neg 0x4];exact W3
  ·rename_i x hno
   have none_:∀ {sh:Nat->Int},(∀ met,t.probe sh (tupleKeyHash knd kx) p=some met->False)->(∀ (i:Nat) (e:Int×Value),es[i]?=some e->sh i=e.1)->False:=fun {sh} hno hsh=>by
    rcases PJ (sh:=sh) rfl hsh with ⟨e1,_⟩ | ⟨_,_,_,_,_,_,_,e1,_⟩
    ·exact hno _ e1
    ·exact hno _ e1
   exact (none_ hno (fun i e he=>by
     show (es[i]?.map (·.1)).getD 0=e.1
     rw [he];rfl)).elim
theorem xW (n:Nat) {v:Value} (h:carriedByValue v=true):∃ b,∀ {Q:Bool->Shared->Prop}{s:Shared},Q b s->wpAny 0xB A (hashByValue n v) Q E s:=by
 cases v with
 | ref a=>simp [carriedByValue] at h
 | none=>cases n <;> exact ⟨true,fun h=>wpAny_pure h⟩
 | bool _=>cases n <;> exact ⟨true,fun h=>wpAny_pure h⟩
 | int _ _=>cases n <;> exact ⟨true,fun h=>wpAny_pure h⟩
 | float b t=>cases n <;> exact ⟨_,fun h=>wpAny_pure h⟩
 | _=>cases n <;> exact ⟨false,fun h=>wpAny_pure h⟩
theorem xX {ks:List K}{Q:Bool->Shared->Prop} (hk:IsTupleKey knd s.heap ks a) (h:∀ b,Q b s):wpAny 0xB A (hashByValue 8 (.ref a)) Q E s:=by
 have hT:=hk.typeIs;obtain ⟨o,items,n,ho,_,hd,hi⟩:=hk;unfold hashByValue;refine wpAny_bind (wpAny_specialOf hT F.slot_tuple_hash.lookup ?_);dsimp only;refine wpAny_bind (wpAny_seqItems ho hd ?_);refine wpAny_bind ?_
 show wpAny _ _ (forIn items _ _) _ _ s
 rw [<- Array.forIn_toList];refine wpAny_forIn_list _ (fun rest r s'=>s'=s/\∀ v∈rest,carriedByValue v=true) _ ?_ ?_ _ _ ⟨rfl,hi.byValue⟩
 ·rintro v rest r s' ⟨rfl,hall⟩;obtain ⟨b,hb⟩:=xW (prog:=prog) (w:=w) (A:=A) (E:=E) 7 (hall v List.mem_cons_self);refine wpAny_bind (hb ?_);cases b with
  | true =>
   simp only [Bool.not_true,Bool.false_eq_true,if_false];exact wpAny_pure ⟨rfl,fun u hu'=>hall u (jw _ hu')⟩
  | false =>
   simp only [Bool.not_false,if_true]
   first | exact wpAny_pure (wpAny_pure (h false)) | exact wpAny_pure (h false) | exact wpAny_bind (wpAny_pure (wpAny_pure (wpAny_pure (h false))))
 ·rintro ⟨r1,r2⟩ s' ⟨rfl,_⟩;cases r1 with
  | none=>exact wpAny_pure (h true)
  | some b=>exact wpAny_pure (h b)
def W4 (knd:KeyKind prog w K) (h:Heap) (e:Int×Value) (k:List K):Prop:=∃ b,e=(tupleKeyHash knd k,.ref b)/\IsTupleKey knd h k b
inductive EL (knd:KeyKind prog w K) (h:Heap):List (Int×Value)->List (List K)->Prop
 | nil:EL knd h [] []
 | cons {e k l kk:_}:W4 knd h e k->EL knd h l kk->EL knd h (e::l) (k::kk)
theorem EL.len:∀ {l:List (Int×Value)}{kk:List (List K)},EL knd h l kk->kk.length=l.length
 | _,_,.nil=>rfl
 | _,_,.cons _ t=>by rw [jT,jT,t.len]
theorem EL.get:∀ {l:List (Int×Value)}{kk:List (List K)}{i:Nat}{e:Int×Value},EL knd h l kk->l[i]?=some e->∃ k,kk[i]?=some k/\W4 knd h e k
 | _,_,0,e,.cons x t,he=>by
  rw [List.getElem?_cons_zero] at he;injection he with he;subst he;exact ⟨_,rfl,x⟩
 | _,_,i+1,e,.cons x t,he=>by
  rw [List.getElem?_cons_succ] at he;obtain ⟨k,h1,h2⟩:=t.get he;exact ⟨k,by rw [List.getElem?_cons_succ];exact h1,h2⟩
theorem EL.ents {es:Array (Int×Value)}{kk:List (List K)} (x:EL knd h es.toList kk):Ents knd h es kk:=by
 refine ⟨by rw [x.len,Array.length_toList],fun i e he=>?_⟩;obtain ⟨k,h1,b,h2,h3⟩:=x.get (by rw [Array.getElem?_toList];exact he);exact ⟨k,b,h1,h2,h3⟩
theorem EL.perm {l l':List (Int×Value)} (p:l'.Perm l):∀ {kk:List (List K)},EL knd h l kk->∃ U9,EL knd h l' U9/\U9.Perm kk:=by
 induction p with
 | nil=>intro kk x;exact ⟨kk,x,List.Perm.refl _⟩
 | cons e p ih =>
  intro kk x;cases x with
  | cons a t =>
   obtain ⟨U9,y,q⟩:=ih t;exact ⟨_,.cons a y,q.cons _⟩
 | swap a b l =>
  intro kk x;cases x with
  | cons u t =>
   cases t with
   | cons v r=>exact ⟨_,.cons v (.cons u r),List.Perm.swap _ _ _⟩
 | trans p1 p2 ih1 ih2 =>
  intro kk x;obtain ⟨U9,y,q⟩:=ih2 x;obtain ⟨kk'',z,q'⟩:=ih1 y;exact ⟨kk'',z,q'.trans q⟩
theorem EL.app:∀ {l l':List (Int×Value)}{kk U9:List (List K)},EL knd h l kk->EL knd h l' U9->EL knd h (l++l') (kk++U9)
 | _,_,_,_,.nil,y=>y
 | _,_,_,_,.cons a t,y=>.cons a (t.app y)
theorem EL.take:∀ (n:Nat) {l:List (Int×Value)}{kk:List (List K)},EL knd h l kk->EL knd h (l.take n) (kk.take n)
 | 0,_,_,_=>by rw [List.take_zero,List.take_zero];exact .nil
 | n+1,_,_,.nil=>.nil
 | n+1,_,_,.cons a t=>.cons a (t.take n)
theorem EL.drop:∀ (n:Nat) {l:List (Int×Value)}{kk:List (List K)},EL knd h l kk->EL knd h (l.drop n) (kk.drop n)
 | 0,_,_,x=>x
 | n+1,_,_,.nil=>.nil
 | n+1,_,_,.cons a t=>t.drop n
theorem EL.at (k:∀ b ks,IsTupleKey knd h ks b->IsTupleKey knd h' ks b):∀ {l:List (Int×Value)}{kk:List (List K)},EL knd h l kk->EL knd h' l kk
 | _,_,.nil=>.nil
 | _,_,.cons ⟨b,e,x⟩ t=>.cons ⟨b,e,k _ _ x⟩ (t.at k)
theorem Ar {o:Obj}{es:Array (Int×Value)}{t:SetTable} (ho:h.get? a=some o) (hd:o.data=.set es ep t) (sb:Heap.SameBut a h h'):∀ (b:Addr) (ks:List K),IsTupleKey knd h ks b->IsTupleKey knd h' ks b:=fun b ks ⟨ob,items,n,hb,hc,hdb,hi⟩=>by
 have hne:b≠a:=fun e=>by
  subst e;rw [ho] at hb;injection hb with hb;subst hb;rw [hd] at hdb;cases hdb
 exact ⟨ob,items,n,sb.extBut _ _ hne hb,hc,hdb,hi⟩
def jN (knd:KeyKind prog w K) (h:Heap) (a:Addr) (ks:List (List K)):Prop :=
 ∃ o es ep t kk,h.get? a=some o/\o.ExactSet/\o.data=.set es ep t/\JF t (es.toList.map (·.1))/\t.place.size * 5<t.mask * 3/\EL knd h es.toList kk/\kk.Nodup/\kk.Perm ks
def jR (ks:List (List K)) (k:List K):List (List K):=if k∈ks then ks else ks++[k]
theorem HF {o:Obj}{es es':Array (Int×Value)}{t t':SetTable} (ho:h.get? a=some o) (hd:o.data=.set es ep t):(h.update a (Obj.putSet es' t')).get? a=some { o with data:=.set es' (ep+1) t' }:=by
 have:=Heap.get?_update_self (Obj.putSet es' t') ho (by rw [putSet_of es' t' hd];rfl);rw [putSet_of es' t' hd] at this;exact this
theorem Ua (hm:lE m) (h1:N * 5>=m * 3) (h2:(N - 1) * 5<m * 3) (h3:N<=300):lE (SetTable.sizeAbove (SetTable.grown N) - 1)/\N<=SetTable.sizeAbove (SetTable.grown N) - 1/\N * 5<(SetTable.sizeAbove (SetTable.grown N) - 1) * 3/\SetTable.sizeAbove (SetTable.grown N)<=sizeLine:=by
 rcases hm with e | e | e | e
 ·have:N=5:=by lia
  subst this;exact ⟨.inr (.inl 0x8),by decide,by decide,by decide⟩
 ·have:N=19:=by lia
  subst this;exact ⟨.inr (.inr (.inl 0x8)),by decide,by decide,by decide⟩
 ·have:N=77:=by lia
  subst this;exact ⟨.inr (.inr (.inr 0x8)),by decide,by decide,by decide⟩
 ·lia
theorem JF.plain {t:SetTable} (T:JF t hs) (b:Bool):JF { t with plain:=b } hs:=⟨⟨T.tab.srt,T.tab.bnd,T.tab.Ye,T.tab.Yg,T.tab.few⟩,T.len,T.rch⟩
theorem Ub {o:Obj}{es:Array (Int×Value)}{t:SetTable} (ho:s.heap.get? a=some o) (hd:o.data=.set es ep t) (T:JF t (es.toList.map (·.1))) {W:Nat} (hW:lE (SetTable.sizeAbove W - 1)) (hl:es.size<=SetTable.sizeAbove W - 1) (hz:SetTable.sizeAbove W<=sizeLine) {Q:Unit->Shared->Prop}
  (h:∀ es' t',es'.toList.Perm es.toList->JF t' (es'.toList.map (·.1))->t'.mask=SetTable.sizeAbove W - 1->Q () { s with heap:=s.heap.update a (Obj.putSet es' t') }):wpAny 0xB A (setRelay a W) Q E s:=by
 have hfit:t.fits es.size=true:=fits_of T (by rw [bL,Array.length_toList]);unfold setRelay;refine wpAny_bind (wpAny_setState_of ho hd hfit ?_);dsimp only;rw [if_neg 0x1];obtain ⟨t',order,e1,e2,e3,e4,e5,e6,e7,e8⟩:=U7 (finger:=t.finger) (moves:=t.movedTo (SetTable.sizeAbove W - 1)) (led:=t.led) (plain:=t.plain) hW (es:=es) hl;have er:t.relaid (es.map (·.1)) W=some (t',order):=e1;rw [er];refine wpAny_bind ?_
 show wpAny _ _ (if ((order.filterMap (es[·]?)).size != es.size)=true then _ else _) _ _ _
 rw [if_neg (by rw [e6];simp)]
 first | refine wpAny_pure ?_ | refine wpAny_bind (wpAny_pure (wpAny_pure ?_))
 dsimp only;have hsz:(order.filterMap (es[·]?)).size<=sizeLine:=by rw [e6];lia
 exact wpAny_storeSet_of ho hd (h _ _ e7 e8 e2) hsz
theorem Yl {ks:List (List K)}{kx:List K}{Q:Bool->Shared->Prop} (hs:jN knd s.heap a ks) (hroom:ks.length+1<=300) (hu:A.units<cLine) (hx:IsTupleKey knd s.heap kx ax)
  (h:∀ h' b,Heap.SameBut a s.heap h'->jN knd h' a (jR ks kx)->Q b { s with heap:=h' }):wpAny 0xB A (setAddHashed a (.ref ax) (tupleKeyHash knd kx)) Q E s:=by
 obtain ⟨o,es,ep,t,kk,ho,hex,hd,T,few,el,nd,pm⟩:=hs;have hfit:t.fits es.size=true:=fits_of T (by rw [bL,Array.length_toList]);have hsz:es.size=t.place.size:=by have:=T.len;rw [bL,Array.length_toList] at this;exact this
 have hkl:kk.length=es.size:=by rw [el.len,Array.length_toList]
 have hksl:ks.length=es.size:=by rw [<- pm.length_eq];exact hkl
 unfold setAddHashed setAddHashedIn;refine wpAny_holding (wpAny_bind (wpAny_setState_of ho hd hfit ?_));dsimp only;have hbs:byScan (.ref ax) es=false:=rfl;rw [hbs];simp only [Bool.false_eq_true,if_false];unfold setSearch;obtain ⟨n0,hn0,hole,way⟩:=T.tab.first (tupleKeyHash knd kx)
 have hmk:t.mask<=511:=by rcases T.tab.Yg with e | e | e | e <;> lia
 refine wpAny_bind (PB ho hd T el.ents hu hx n0 100000 none (stM t.mask (tupleKeyHash knd kx)) rfl rfl 0x1 hn0 hole way (fun ⟨i,k,hk,hp,hki⟩=>?_) (fun hno=>?_))
 ·dsimp only;have hm:kx∈ks:=pm.mem_iff.mp (jL hki);have e:jR ks kx=ks:=by unfold jR;rw [if_pos hm]
  have:=h s.heap false (Heap.SameBut.refl _ _) (by rw [e];exact ⟨o,es,ep,t,kk,ho,hex,hd,T,few,el,nd,pm⟩);exact wpAny_pure this
 ·dsimp only;have hnm:kx∉kk:=fun hm=>by
   obtain ⟨i,hi⟩:=List.mem_iff_getElem?.mp hm;have hil:i<es.size:=by rw [<- hkl];exact (List.getElem?_eq_some_iff.mp hi).1
   obtain ⟨k',hk',b,he,hb⟩:=el.get (i:=i) (e:=es[i]) (by rw [Array.getElem?_toList];exact Array.getElem?_eq_getElem hil);have ek:k'=kx:=by rw [hi] at hk';exact (Option.some.inj hk').symm
   subst ek;have hip:i<t.place.size:=by lia
   obtain ⟨n,e1,e2⟩:=T.rch i (tupleKeyHash knd k') t.place[i] (by rw [iK,Array.getElem?_toList,Array.getElem?_eq_getElem hil,he];rfl) (Array.getElem?_eq_getElem hip);have hlt:n<n0:=by
    apply Classical.byContradiction
    intro hc
    by_cases hc2:n0<n
    ·exact hole (e2 n0 hc2)
    ·have e3:n=n0:=by lia
     subst e3;exact hole (by rw [e1];exact List.mem_iff_getElem?.mpr ⟨i,by rw [Array.getElem?_toList];exact Array.getElem?_eq_getElem hip⟩)
   exact hno i n hlt (by rw [e1];exact Array.getElem?_eq_getElem hip) hi
  have hnks:kx∉ks:=fun hm=>hnm (pm.mem_iff.mpr hm);have eadd:jR ks kx=ks++[kx]:=by unfold jR;rw [if_neg hnks]
  refine wpAny_bind (wpAny_setState_of ho hd hfit ?_);dsimp only;have hjm:=Pr t.mask (tupleKeyHash knd kx) n0;have hrm:t.place.size+1<=t.mask:=by rcases T.tab.Yg with e | e | e | e <;> lia
  obtain ⟨T1,m1,_,_,s1,p1⟩:=U5 T hjm hole ⟨n0,rfl,way⟩ hrm;generalize hj:(prs t.mask (stM t.mask (tupleKeyHash knd kx)) n0).j=j at *
  generalize hput:t.put j=pt at *
  obtain ⟨t1,p⟩:=pt;dsimp only at T1 m1 s1 p1 ⊢;have eL:(0xC).toList=es.toList.take p++(tupleKeyHash knd kx,Value.ref ax)::es.toList.drop p:=jo _ _ _;have esz:(0xC).size=es.size+1:=by
   rw [<- Array.length_toList,eL,jj,jT,List.length_take,List.length_drop,Array.length_toList];rw [bL,Array.length_toList] at p1;lia
  have ehs:(0xC).toList.map (·.1)=(es.toList.map (·.1)).take p++tupleKeyHash knd kx::(es.toList.map (·.1)).drop p:=by
   rw [eL,jO,List.map_cons,List.map_take,List.map_drop]
  have pk:(kk.take p++kx::kk.drop p).Perm (ks++[kx]):=by
   refine List.perm_middle.trans ?_;rw [List.take_append_drop];exact ((pm.cons kx).trans (List.perm_append_singleton kx ks).symm)
  have ndk:(kk.take p++kx::kk.drop p).Nodup:=by
   refine (List.perm_middle.nodup_iff).mpr ?_;rw [List.take_append_drop];exact List.nodup_cons.mpr ⟨hnm,nd⟩
  have tail:∀ pl:Bool,wpAny 0xB A (do
    storeSet a 0xC { t1 with plain:=pl }
    if (!false&&({ t1 with plain:=pl }:SetTable).tooFull)=true then do
      setRelay a (SetTable.grown (es.size+1))
      pure true
     else pure true) Q E s:=fun pl=>by
   have hzz:(0xC).size<=sizeLine:=by rw [esz,sizeLine_eq];lia
   refine wpAny_bind (wpAny_storeSet_of ho hd ?_ hzz);have ho1:=HF (es':=SetTable.insertAt es p (tupleKeyHash knd kx,Value.ref ax)) (t':={ t1 with plain:=pl }) ho hd;have sb1:=Heap.SameBut.update s.heap a (Obj.putSet 0xC { t1 with plain:=pl });have T2:JF { t1 with plain:=pl } ((0xC).toList.map (·.1)):=by rw [ehs];exact T1.plain pl
   have el1:EL knd (s.heap.update a (Obj.putSet 0xC { t1 with plain:=pl })) (0xC).toList (kk.take p++kx::kk.drop p):=by
    rw [eL];exact ((el.take p).app (.cons ⟨ax,rfl,hx⟩ (el.drop p))).at (Ar ho hd sb1)
   generalize hH:s.heap.update a (Obj.putSet 0xC { t1 with plain:=pl })=h1 at ho1 sb1 el1
   by_cases hf:(!false&&({ t1 with plain:=pl }:SetTable).tooFull)=true
   ·rw [if_pos hf];have hf':t1.place.size * 5>=t1.mask * 3:=by
     unfold SetTable.tooFull SetTable.fill at hf;have hdm:=T1.tab.Ye;rw [hdm] at hf
     simpa using hf
    obtain ⟨g1,g2,g3,g4⟩:=Ua (m:=t.mask) (N:=es.size+1) T.tab.Yg (by rw [<- hsz] at s1;rw [s1,m1] at hf';exact hf') (by show (es.size+1 - 1) * 5<_;rw [Nat.add_sub_cancel,hsz];exact few) 0x1
    refine wpAny_bind (Ub (s:={ s with heap:=h1 }) ho1 rfl T2 g1 (by rw [esz];exact g2) g4 fun es' t' pe T' em=>?_);have ho2:=HF (es':=es') (t':=t') ho1 rfl;have sb2:=Heap.SameBut.update h1 a (Obj.putSet es' t');obtain ⟨U9,el2,pk2⟩:=EL.perm pe (el1.at (Ar ho1 rfl sb2));refine wpAny_pure (h _ true (sb1.trans sb2) ?_);rw [eadd];have hsz':es'.size=es.size+1:=by rw [<- Array.length_toList,pe.length_eq,Array.length_toList,esz]
    refine ⟨_,es',_,t',U9,ho2,hex,rfl,T',?_,el2,(pk2.nodup_iff).mpr ndk,pk2.trans pk⟩;have:=T'.len;rw [bL,Array.length_toList,hsz'] at this;rw [<- this,em];exact g3
   ·rw [if_neg hf];refine wpAny_pure (h _ true sb1 ?_);rw [eadd];refine ⟨_,_,_,_,_,ho1,hex,rfl,T2,?_,el1,ndk,pk⟩;have hf':¬ t1.place.size * 5>=t1.mask * 3:=by
     intro hc
     apply hf
     unfold SetTable.tooFull SetTable.fill;have hdm:=T1.tab.Ye;rw [hdm]
     simpa using hc
    show t1.place.size * 5<t1.mask * 3
    lia
  cases hpl:t1.plain with
  | true =>
   rw [if_pos rfl];refine wpAny_bind (xX hx fun b=>?_);cases b with
   | true =>
    rw [if_pos rfl];have e:t1={ t1 with plain:=true }:=by rw [<- hpl]
    rw [e];exact tail true
   | false =>
    rw [if_neg 0x4];exact tail false
  | false =>
   rw [if_neg 0x4];refine wpAny_bind (wpAny_pure ?_);rw [if_pos rfl];have e:t1={ t1 with plain:=false }:=by rw [<- hpl]
   rw [e];exact tail false
end
open PySem.Spec PySem.W PySem.Calls PyProof.Rows
theorem Av {α:Type}{P:List α->Prop} (h0:P []) (h1:∀ r a,P r->P (r++[a])) (l:List α):P l:=by
 have:∀ (n:Nat) (l:List α),l.length=n->P l:=by
  intro n
  induction n with
  | zero=>intro l h;rw [List.length_eq_zero_iff.mp h];exact h0
  | succ n ih =>
   intro l h;rcases List.eq_nil_or_concat l with e | ⟨r,a,e⟩
   ·rw [e] at h;cases h
   ·rw [List.concat_eq_append] at e;subst e;exact h1 r a (ih r (by simpa using h))
 exact this _ l rfl
def fL {K:Type} [DecidableEq K] (l:List (List K)):List (List K):=l.foldl jR []
section
variable {K:Type} [DecidableEq K]
theorem PL {ks:List (List K)}{k x:List K}:x∈jR ks k↔x∈ks\/x=k:=by
 unfold jR
 split
 ·rename_i h
  exact ⟨.inl,fun q=>q.elim id fun e=>by rw [e];exact h⟩
 ·simp
theorem oW (l:List (List K)) (k:List K):fL (l++[k])=jR (fL l) k:=by unfold fL;rw [List.foldl_append];rfl
theorem PN {l:List (List K)}{x:List K}:x∈fL l↔x∈l:=by
 have g:∀ (l:List (List K)) (a:List (List K)),x∈l.foldl jR a↔x∈a\/x∈l:=by
  intro l
  induction l with
  | nil=>intro a;simp
  | cons y r ih =>
   intro a;rw [List.foldl_cons,ih,PL,List.mem_cons,or_assoc]
 have:=g l [];unfold fL
 simpa using this
theorem PX {ks:List (List K)}{k:List K}:(jR ks k).length<=ks.length+1:=by
 unfold jR
 split
 ·lia
 ·simp
theorem sV (l:List (List K)):(fL l).length<=l.length:=by
 have g:∀ (l:List (List K)) (a:List (List K)),(l.foldl jR a).length<=a.length+l.length:=by
  intro l
  induction l with
  | nil=>intro a;exact Nat.le_refl _
  | cons x r ih =>
   intro a;rw [List.foldl_cons,jT];have h1:=ih (jR a x);have h2:=PX (ks:=a) (k:=x);lia
 have:=g l [];unfold fL
 simpa using this
theorem Q0 {l:List (List K)}:(fL l).length=l.length↔l.Nodup:=by
 have g:∀ (l:List (List K)),(fL l).length=l.length->l.Nodup:=by
  intro l;refine Av (P:=fun l=>(fL l).length=l.length->l.Nodup) (fun _=>List.nodup_nil) (fun r k ih=>?_) l
  ·intro h;rw [oW,jj,List.length_singleton] at h;have h1:=sV r;have hn:k∉fL r:=fun hm=>by
    unfold jR at h;rw [if_pos hm] at h;lia
   have h2:(fL r).length=r.length:=by
    unfold jR at h;rw [if_neg hn,jj,List.length_singleton] at h;lia
   rw [List.nodup_append];refine ⟨ih h2,by simp,fun a ha b hb=>?_⟩;rw [List.mem_singleton.mp hb];exact fun e=>hn (PN.mpr (by rw [<- e];exact ha))
 refine ⟨g l,fun h=>?_⟩;have g2:∀ (l:List (List K)),l.Nodup->fL l=l:=by
  intro l;refine Av (P:=fun l=>l.Nodup->fL l=l) (fun _=>rfl) (fun r k ih=>?_) l
  ·intro h;rw [List.nodup_append] at h;obtain ⟨h1,_,h3⟩:=h;rw [oW,ih h1];unfold jR;rw [if_neg (fun hm=>h3 k hm k (List.mem_singleton.mpr rfl) rfl)]
 rw [g2 l h]
end
section
variable {K:Type} [DecidableEq K] {knd:KeyKind prog w K}
theorem jN.at {ks:List (List K)} (x:jN knd h a ks) (k:∀ b o,h.get? b=some o->(b=a\/o.cls=.type "tuple")->h'.get? b=some o):jN knd h' a ks:=by
 obtain ⟨o,es,ep,t,kk,ho,hex,hd,T,few,el,q⟩:=x;refine ⟨o,es,ep,t,kk,k a o ho (.inl rfl),hex,hd,T,few,el.at fun b ks ⟨ob,items,n,hb,hc,r⟩=>⟨ob,items,n,k b ob hb (.inr hc),hc,r⟩,q⟩
theorem Ym {ks:List (List K)}{kx:List K}{Q:Bool->Shared->Prop} (hs:jN knd s.heap a ks) (hroom:ks.length+1<=300) (hu:A.units<cLine) (hx:IsTupleKey knd s.heap kx ax)
  (h:∀ h' b,Heap.SameBut a s.heap h'->jN knd h' a (jR ks kx)->Q b { s with heap:=h',toks:=s.toks+(kx.length+1) }):wpAny 0xB A (setAdd a (.ref ax)) Q E s:=by
 unfold setAdd;refine wpAny_holding (wpAny_bind (wpAny_pyHash_tuple hu hx ?_));exact Yl (s:={ s with toks:=s.toks+(kx.length+1) }) hs hroom hu hx h
def iH (w:World):Obj:={ cls:=.type "set",dict:=none,data:=.set #[] 0 (.fresh 0 0 (!w.params.followText "set-order")) }
theorem Uc (led:Bool):JF (.fresh 0 0 led) []:=by
 refine ⟨⟨List.Pairwise.nil,(fun j hj=>by cases hj),rfl,.inl rfl,Nat.zero_le _⟩,rfl,(fun i h y hh=>by cases hh)⟩
theorem Ud (e:h.get? a=some (iH w)):jN knd h a [] :=
 ⟨_,#[],0,_,[],e,⟨rfl,rfl,rfl⟩,rfl,Uc _,by show 0 * 5<7 * 3;decide,.nil,List.nodup_nil,List.Perm.refl _⟩
theorem Aw (l:List (List K)) (i:Nat):(fL (l.take i)).length<=l.length:=Nat.le_trans (sV _) (by rw [List.length_take];lia)
def mX (knd:KeyKind prog w K) (h:Heap) (its:List Value) (l:List (List K)):Prop:=its.length=l.length/\∀ (i:Nat) (v:Value),its[i]?=some v->∃ k b,l[i]?=some k/\v=.ref b/\IsTupleKey knd h k b
theorem mX.at {l:List (List K)} (x:mX knd h its l) (k:∀ b o,h.get? b=some o->o.cls=.type "tuple"->h'.get? b=some o):mX knd h' its l:=by
 refine ⟨x.1,fun i v hv=>?_⟩;obtain ⟨kk,b,h1,h2,ob,items,n,hb,hc,r⟩:=x.2 i v hv;exact ⟨kk,b,h1,h2,ob,items,n,k b ob hb hc,hc,r⟩
variable {R:Result->Shared->Prop}{I:Addr}{wr:List Addr}{G:Array GenState->Array GenState->Prop}{P:Nat->Value->Prop}{St:Nat->Shared->Prop}
theorem JH (W:WalksS prog w A.in1 I fp wr G n P St) (S:Addr) (hSf:S∉fp) (its:List Value) (l:List (List K)) (hn:l.length=n) (hval:∀ i v,P i v->its[i]?=some v) (hb:n+1<=300) (hu:A.in1.units<cLine)
  (hwr:∀ (s:Shared) (i:Nat),St i s->∀ b∈wr,∃ o,s.heap.get? b=some o/\o.cls≠.type "tuple") :
  ∀ (k i:Nat) (s:Shared),n - i=k->i<=n->St i s->jN knd s.heap S (fL (l.take i))->mX knd s.heap its l->(∀ s',Moved (S::wr) G s s'->jN knd s'.heap S (fL l)->R (.ok (.ret .none)) s') ->
   codeAny 0xB A (.builtin "set.update.loop" ⟨[.ref S,.ref I],[]⟩) R s:=by
 have hSw:S∉wr:=fun h=>hSf (W.sub _ h);have sub:∀ b∈wr,b∈S::wr:=fun b hb=>jw _ hb;intro k
 induction k with
 | zero =>
  intro i s hk hi st hS hT hR;have hin:i=n:=by lia
  subst hin;refine codeAny_builtin PyProof.Rows.F.entry_set_update_loop ?_;rw [Around.under_plainId PyProof.Rows.F.plain_set_update_loop _]
  show wpAny _ A.in1 (pyNext (.ref I) >>= _) _ _ s
  refine wpAny_bind (W.done s _ _ st fun s' hm=>?_);rw [<- hn,List.take_length] at hS;have nw:∀ b o,s.heap.get? b=some o->(b=S\/o.cls=.type "tuple")->b∉wr:=fun b o hbo hc hbw=>by
   rcases hc with e | hc
   ·exact hSw (e ▸ hbw)
   ·obtain ⟨o',ho',hne⟩:=hwr s i st b hbw;rw [hbo] at ho';injection ho' with ho';exact hne (by rw [<- ho'];exact hc)
  exact wpAny_pure (hR s' (hm.mono sub) (hS.at fun b o hbo hc=>hm.heap b _ (nw b o hbo hc) hbo))
 | succ k ih =>
  intro i s hk hi st hS hT hR;have hlt:i<n:=by lia
  have nw:∀ b o,s.heap.get? b=some o->(b=S\/o.cls=.type "tuple")->b∉wr:=fun b o hbo hc hbw=>by
   rcases hc with e | hc
   ·exact hSw (e ▸ hbw)
   ·obtain ⟨o',ho',hne⟩:=hwr s i st b hbw;rw [hbo] at ho';injection ho' with ho';exact hne (by rw [<- ho'];exact hc)
  refine codeAny_builtin PyProof.Rows.F.entry_set_update_loop ?_;rw [Around.under_plainId PyProof.Rows.F.plain_set_update_loop _]
  show wpAny _ A.in1 (pyNext (.ref I) >>= _) _ _ s
  refine wpAny_bind (W.item i s _ _ hlt st fun v s' hP st' hm=>?_);have hS':=hS.at fun b o hbo hc=>hm.heap b _ (nw b o hbo hc) hbo;have hT':=hT.at fun b o hbo hc=>hm.heap b _ (nw b o hbo (.inr hc)) hbo;obtain ⟨kx,bx,hk1,rfl,hk2⟩:=hT'.2 i v (hval i v hP)
  show wpAny _ A.in1 (holding [Value.ref bx] (setAdd S (.ref bx)) >>= _) _ _ s'
  have tb:=Aw l i;refine wpAny_bind (wpAny_holding (Ym hS' 0x1 hu hk2 fun h' b sb hT2=>?_));rw [<- oW] at hT2;have e1:l.take i++[kx]=l.take (i+1):=by rw [List.take_add_one,hk1];rfl
  rw [e1] at hT2;obtain ⟨oS,_,_,_,_,hoS,hexS,hdS,_⟩:=id hS';have Yn:mX knd h' its l:=hT'.at fun b o hbo hc=>by
   have hne:b≠S:=fun e=>by
    subst e;rw [hoS] at hbo;injection hbo with hbo;rw [<- hbo,hexS.1] at hc;injection hc with hc;exact absurd hc 0x8
   exact sb.extBut _ _ hne hbo
  refine wpAny_pure ⟨plainId_quiet PyProof.Rows.F.plain_set_update_loop _,ih (i+1) _ 0x1 hlt (W.frame _ s' _ _ st' (Nat.le_add_right _ _) fun b hb o e=>?_) hT2 Yn fun s2 hm2 hS2=>?_⟩
  ·rw [sb.2 b (fun h:b=S=>hSf (by rw [<- h];exact hb))];exact e
  ·refine hR s2 (Moved.trans W.gtrans ((hm.mono sub).then_heap (Nat.le_add_right _ _) fun b o hb e=>?_) hm2) hS2;rw [sb.2 b (fun h:b=S=>hb (by rw [h];exact List.mem_cons_self))];exact e
theorem Q5 (a:Value) {Q₁:Value->Shared->Prop} (h:Q₁ 0x23 { s with heap:=s.heap.push (iH w) }) :
  codeAny 0xB A (.call (.builtin "set.__new__") ⟨[.type "set",a],[]⟩) (wants Q₁ E) s:=by
 refine codeAny_of_tree ?_
 show wpAny _ A.in1 (do checkBuiltinCall "set.__new__" ⟨[.type "set",a],[]⟩;again (.builtin "set.__new__" ⟨[.type "set",a],[]⟩)) _ _ s
 refine wpAny_bind (wpAny_of_eq (PySem.F.newCall_set_1 a) (wpAny_pure ⟨plainId_quiet PySem.F.plain_set_new _,codeAny_builtin PySem.F.entry_set_new ?_⟩));rw [Around.under_plainId PySem.F.plain_set_new _];unfold Builtin.«set.__new__» Builtin.Frozenset.newClass;have hsub:=sub_set_self;obtain ⟨hp,g,d,tk,os⟩:=s;dsimp only
 wp_walk
 refine wpAny_askSetting (wpAny_pure ?_);dsimp only;simp only [newObj];exact wpAny_bind (wpAny_alloc (wpAny_pure (wpAny_pure h)))
set_option maxRecDepth 100000 in
theorem JK {zs:List (List K)} (hh:A.handled=none) (hu:A.units+8<cLine) (hl:s.heap.IsList l its.toArray) (hi:mX knd s.heap its zs) (hb:zs.length+1<=300)
  (h:∀ (h':Heap) (tk:Nat),jN knd h' s.heap.objs.size (fL zs)->(∀ b o,s.heap.get? b=some o->h'.get? b=some o)->Q 0x23 { s with heap:=h',toks:=tk }) :
  wpAny 0xB A (call (.type "set") [.ref l]) Q E s:=by
 obtain ⟨c,tl,hmro⟩:=PySem.F.called_set.mro;have m1:=PySem.F.called_set.made;have m2:=PySem.F.called_set.sub;refine wpAny_call (codeAny_of_tree ?_)
 show wpAny 0xB _ (callAny (.type "set") ⟨[.ref l],[]⟩) _ _ _
 refine wpAny_pure ⟨Code.quiet_builtin _ 0xE,codeAny_builtin PySem.F.entry_type_call ?_⟩;rw [Around.under_plain (weight_type_call_type "set" [.ref l] []) rfl];have m3:=PySem.F.called_set.notType;have m4:=PySem.F.called_set.canCreate;have m5:=PySem.F.typeCall_set_1 (.ref l)
 repeat (any_goals (first | assumption | wp_step))
 refine codeAny_mono (Q5 (.ref l) (E:=E) (Q₁:=fun obj s₁=>obj=.ref s.heap.objs.size/\s₁={ s with heap:=s.heap.push (iH w) }) ⟨rfl,rfl⟩) fun r s₁ hr=>?_;rcases r with e | fl
 ·exact hr
 rcases fl with _ | _ | _ | obj
 rotate_right
 ·obtain ⟨rfl,rfl⟩:=hr;have hS:(s.heap.push (iH w)).get? s.heap.objs.size=some (iH w):=Heap.get?_push_size _ rfl;have hT:Shared.TypeIs { s with heap:=s.heap.push (iH w) } 0x23 "set":=⟨_,hS,rfl⟩;have i1:=PySem.F.called_set.init.lookup;have i2:=PySem.F.called_set.init.bind 0x23
  repeat (any_goals (first | assumption | wp_step))
  refine codeAny_mono (codeAny_call_builtin (R:=wants (fun r s₂=>r=.none/\∃ h' tk,s₂={ s with heap:=h',toks:=tk }/\jN knd h' s.heap.objs.size (fL zs)/\(∀ b o,s.heap.get? b=some o->h'.get? b=some o)) E) PySem.F.called_set.init.plain PySem.F.entry_set_init (check_set_init_1 hT ?_)) fun r₂ s₂ hr₂=>?_
  ·obtain ⟨ol,hol,hcl,nl,hdl⟩:=hl;obtain ⟨ocls,odict,odata,oslots⟩:=ol;simp only at hcl hdl;subst hcl;subst hdl;have hol':(s.heap.push (iH w)).get? l=some { cls:=.type "list",dict:=odict,data:=.seq its.toArray nl,slots:=oslots }:=Heap.get?_push_of_some _ hol;have u1:=PySem.F.sub_list_set;have u2:=PySem.F.sub_list_frozenset;have u3:(Value.type "list"==Value.type "dict")=false:=by decide
   have hl1:(s.heap.push (iH w)).IsList l its.toArray:=⟨_,hol',rfl,nl,rfl⟩;unfold Builtin.«set.__init__» noKeywords Builtin.Frozenset.updateFrom;generalize hPI:pyIter=PI
   wp_walk
   subst hPI;refine wpAny_pyIter_list hl1 ?_;refine wpAny_bind (wpAny_runValue ?_);have lS:l<s.heap.objs.size:=Heap.lt_size hol;have h3:A.in1.in1.in1.handled=none:=by simp [hh]
   have ne_:l≠(s.heap.push (iH w)).objs.size:=by
    rw [Heap.size_push];exact Nat.ne_of_lt (Nat.lt_succ_of_lt lS)
   have nS:s.heap.objs.size∉[(s.heap.push (iH w)).objs.size,l]:=by
    rw [Heap.size_push];simp only [List.mem_cons,List.mem_singleton,List.not_mem_nil,or_false,not_or];exact ⟨Nat.ne_of_lt (Nat.lt_succ_self _),Nat.ne_of_gt lS⟩
   have hz:its.length=zs.length:=hi.1;refine JH (knd:=knd) ((Walks.list h3 _ l ne_ its.toArray).toS) s.heap.objs.size nS its zs (by simp [hz]) (fun i v hv=>by simpa using hv) (by simpa [hz] using hb) (by show A.units+1+1+1<cLine;lia) ?hwr _ 0 _ rfl (Nat.zero_le _) ⟨0x18,(hl1.push _)⟩ ?hS0 ?hT0 ?hR
   case hwr =>
    intro s' i st b hb;obtain ⟨⟨o,ho,hc,_⟩,_⟩:=st;rw [List.mem_singleton.mp hb];refine ⟨o,ho,fun e=>?_⟩;rw [hc] at e;injection e with e;exact absurd e 0x8
   case hT0=>exact hi.at fun b o hbo _=>Heap.get?_push_of_some _ (Heap.get?_push_of_some _ hbo)
   case hS0=>exact Ud (Heap.get?_push_of_some _ hS)
   case hR =>
    intro s' hm hS';obtain ⟨h',g',d',tk',os'⟩:=s';have eg:g'=s.gens:=hm.gens;have ed:d'=s.drawn:=hm.drawn;have eo:os'=s.os:=hm.os;subst eg;subst ed;subst eo;refine wpAny_pure ?_
    show wpAny _ _ (ret Value.none) _ _ _
    refine wpAny_pure ⟨rfl,h',tk',rfl,hS',fun b o e=>?_⟩;have hlt:=Heap.lt_size e;have b1:b≠s.heap.objs.size:=Nat.ne_of_lt hlt;have b2:b≠(s.heap.push (iH w)).objs.size:=by
     rw [Heap.size_push];exact Nat.ne_of_lt (Nat.lt_succ_of_lt hlt)
    exact hm.heap b o (by simp only [List.mem_cons,List.mem_singleton,List.not_mem_nil,or_false,not_or];exact ⟨b1,b2⟩) (Heap.get?_push_of_some _ (Heap.get?_push_of_some _ e))
  ·rcases r₂ with e | fl₂
   ·exact hr₂
   rcases fl₂ with _ | _ | _ | r
   rotate_right
   ·obtain ⟨rfl,h',tk,rfl,hS',hk'⟩:=hr₂
    repeat (any_goals (first | assumption | wp_step))
    exact h _ _ hS' hk'
   all_goals exact hr₂.elim
 all_goals exact hr.elim
end
def Ax (a:Addr) (n:Nat):HO:=.ext fun h=>∃ o es ep t,h.get? a=some o/\o.ExactSet/\o.data=.set es ep t/\t.fits es.size=true/\es.size=n
theorem Ue (x:∃ o es ep t,h.get? a=some o/\o.ExactSet/\o.data=.set es ep t/\t.fits es.size=true/\es.size=n):cj P w H h a (Ax a n) :=
 ⟨x,(let ⟨o,_,_,_,ho,_⟩:=x;⟨o,ho⟩),fun h1 h2 ⟨o,es,ep,t,ho,r⟩ k=>⟨o,es,ep,t,k _ ho,r⟩⟩
inductive HJ (K:PySem.W.Frag) (xs:List V) (H:Hp) (Q:VK):Prop
 | mk (p:Addr) (as:List Addr) (rows:List (List L2.Key)) (_:xs=[.ref p]) (_:bf K H p (as.map V.ref)) (_:Paired (fun a r=>H a=some (.tup (r.map kV))) as rows) (_:rows.length<300) (_:∀ l,H l=none->Q (.ref l) (upd H l (Ax l (fL rows).length))):HJ K xs H Q
def a0J (K:PySem.W.Frag):List V->Hp->VK->Prop:=fun xs H Q=>HJ K xs H Q
theorem JL (hin:X.A.handled=none) (hu:X.A.units+64<cLine):dF X (.type "set") (a0J X.K):=by
 intro pins s σ H xs us Q I r h;obtain ⟨p,as,rows,rfl,hq,hP,hl,q⟩:=h;obtain ⟨u,rfl,ru⟩:=vals1 r;cases ru;obtain ⟨its,rv,pl,hz⟩:=I.list hq;have Nu:=lU rv;subst Nu;have hT:mX (bJ X.prog X.w) s.heap (as.map Value.ref) rows:=by
  clear hq rv pl hz q hl
  induction hP with
  | nil=>exact ⟨rfl,fun i v hv=>by simp at hv⟩
  | cons ha t ih =>
   refine ⟨by rw [List.map_cons,jT,jT,ih.1],fun i v hv=>?_⟩;cases i with
   | zero =>
    rw [List.map_cons,List.getElem?_cons_zero] at hv;injection hv with hv;subst hv;exact ⟨_,_,rfl,rfl,oN I.hok ha⟩
   | succ j =>
    rw [List.map_cons,List.getElem?_cons_succ] at hv;obtain ⟨k,b,h1,h2,h3⟩:=ih.2 j v hv;exact ⟨k,b,by rw [List.getElem?_cons_succ];exact h1,h2,h3⟩
 refine JK hin 0x1 pl.isList hT 0x1 fun h' tk hS hk=>?_;obtain ⟨o,es,ep,t,kk,ho,hex,hd,T,few,el,nd,pm⟩:=hS;have hn:es.size=(fL rows).length:=by rw [<- pm.length_eq,el.len,Array.length_toList]
 exact ⟨.ref s.heap.objs.size,_,I.laid (o:=Ax s.heap.objs.size (fL rows).length) (t':=tk) hk 0x6 (Ue ⟨o,es,ep,t,ho,hex,hd,fits_of T (by rw [bL,Array.length_toList]),hn⟩),rfl,q _ (I.hok.fresh 0x6)⟩
inductive HN (xs:List V) (H:Hp) (Q:VK):Prop
 | mk (a:Addr) (n:Nat) (_:xs=[V.ref a]) (_:H a=some (Ax a n)) (_:n<1000) (_:Q (.int (n:Int)) H):HN xs H Q
def a0K:List V->Hp->VK->Prop:=fun xs H Q=>HN xs H Q
theorem JM:dF X (.builtin "len") a0K:=by
 intro pins s σ H xs us Q I r h;obtain ⟨a,n,rfl,ha,hl,q⟩:=h;obtain ⟨u,rfl,ru⟩:=vals1 r;cases ru;obtain ⟨⟨o,es,ep,t,ho,hx,hd,hf,hn⟩,_⟩:=I.hok _ _ ha;refine call_len_set ho hx hd hf 0x1 ?_;exact ⟨.int _,H,(I.tok _).tok _,⟨_,rfl⟩,by rw [hn];exact q⟩
end L2
namespace M
open PySem L2 PyProof.Rows
def sW (x e:Addr) (H H':Hp):Prop:=∀ c o,c≠x->c≠e->H c=some o->H' c=some o
theorem Q6:bootBuiltins "range"=some (.type "range"):=by decide +kernel
inductive sX (C:Addr) (vs:List V) (H:Hp) (Q:VK):Prop
 | mk (x dx st d e l:Addr) (n m fr:Int) (kvs:List (Prod Int V)) (es ls:List V) (d':Addr) (fr':Int) (kvs':List (Prod Int V)) (_:vs=[.ref x,.int fr',.ref d']) (_:bV C H x dx st d e l n m fr kvs es ls) (_:H d'=some (.dK (fj kvs'))) (_:es.length<1000) (_:x≠e) (_:∀ st' l' H',sW x e H H'->bV C H' x dx st' d' e l' n m fr' kvs' (es++[.ref st]) []->H st'=none->H l'=none->Q .non H'):sX C vs H Q
def nY (C:Addr):Sp:=fun vs H Q _=>sX C vs H Q
theorem HS {n:Int} (h:∀ p∈kvs,p.1<n):putK (fj kvs) (.inl n) v=fj (kvs++[(n,v)]):=by
 unfold putK;have e:((fj kvs).any fun kv=>decide (kv.1=Sum.inl n))=false:=by
  rw [List.any_eq_false];intro kv hkv e;unfold fj at hkv;obtain ⟨p,hp,rfl⟩:=List.mem_map.mp hkv;have e':=u9 e;injection e' with e';have:=h p hp;lia
 rw [e,if_neg Bool.false_ne_true];unfold fj;rw [jO];rfl
def news (fr:Nat) (ps:List Addr):List (Int×V):=(List.range ps.length).map fun i=>(((fr+i:Nat):Int),V.ref (ps.getD i 0))
theorem JN {fr:Nat}{ps:List Addr} (hi:i<ps.length):news fr (ps.take (i+1))=news fr (ps.take i)++[(((fr+i:Nat):Int),V.ref ps[i])]:=by
 unfold news;have l1:(ps.take (i+1)).length=i+1:=by rw [List.length_take];lia
 have l2:(ps.take i).length=i:=by rw [List.length_take];lia
 rw [l1,l2,List.range_succ,jO]
 congr 1
 ·refine List.map_congr_left fun j hj=>?_;have hj':=List.mem_range.mp hj;rw [iw,iw,List.getElem?_take,List.getElem?_take,if_pos 0x1,if_pos 0x1]
 ·simp only [List.map_cons,List.map_nil];rw [iw,List.getElem?_take,if_pos 0x1,dB hi];rfl
theorem JQ {fr:Nat} (ps:List Addr):(news fr ps).map (·.2)=ps.map V.ref:=by
 unfold news
 apply List.ext_getElem
 ·simp
 ·intro i h1 h2;simp only [bL,List.length_range] at h1;simp only [List.getElem_map,List.getElem_range];rw [iw,dB h1];rfl
theorem Ug {fr:Nat}{ps:List Addr}{p:Int×V} (h:p∈news fr ps):((fr:Nat):Int)<=p.1/\p.1<((fr+ps.length:Nat):Int):=by
 unfold news at h;obtain ⟨i,hi,rfl⟩:=List.mem_map.mp h;have:=List.mem_range.mp hi
 constructor
 ·show ((fr:Nat):Int)<=((fr+i:Nat):Int);lia
 ·show ((fr+i:Nat):Int)<_;lia
theorem Ay:∀ {as bs:List Addr}{rs qs:List (List V)},bD H as rs->bD H bs qs->bD H (as++bs) (rs++qs)
 | _,_,_,_,.nil,h=>h
 | _,_,_,_,.cons h t,g=>.cons h (Ay t g)
theorem vg:∀ {as:List Addr}{rs:List (List V)} (i:Nat),bD H as rs->bD H (as.take i) (rs.take i)
 | _,_,0,_=>.nil
 | _,_,_+1,.nil=>.nil
 | _,_,i+1,.cons h t=>.cons h (vg i t)
theorem xY {H:Hp}:∀ {as:List Addr}{rs:List (List V)}{i:Nat}{a:Addr},bD H as rs->as[i]?=some a->∃ r,rs[i]?=some r/\H a=some (.tup r)
 | _,_,_,_,.nil,h=>by simp at h
 | _,_,0,_,.cons h t,e=>by simp at e;subst e;exact ⟨_,rfl,h⟩
 | _,_,i+1,a,.cons h t,e=>by
  obtain ⟨r,e1,e2⟩:=xY (i:=i) (a:=a) t (by simpa using e);exact ⟨r,by simpa using e1,e2⟩
theorem Q8 {rs:List (List V)} (h:bD H as rs):as.length=rs.length:=h.length
def dD (r:List V):Prop:=(∃ k rest,r=.str k::rest/\Row 1000 k rest)/\r.all jF=true
inductive vh (CT:Addr) (vs:List V) (H:Hp) (Q:VK) (E:XK):Prop
 | mk (p d:Addr) (r:List V) (kvs:List (Prod Int V)) (as:List Addr) (rows:List (List V)) (_:vs=[.ref p,.ref d]) (_:H p=some (.tup r)) (_:r.all jF=true) (_:H d=some (.dK (fj kvs))) (_:kvs.map (·.2)=as.map V.ref) (_:bD H as rows) (_:(∀ q∈rows,q.all jF=true)) (_:(r∉rows->∀ H',Same H H'->Q .non H')) (_:(r∈rows->∀ H',Same H H'->E (.ref CT) none H')):vh CT vs H Q E
def xZ (CT:Addr):Sp:=fun vs H Q E=>vh CT vs H Q E
def nums (fr:Nat) (n:Nat):List V:=(List.range n).map fun i=>V.int ((fr:Int)+(i:Nat))
inductive Q9 (rows rs:List (List V)):Prop
 | mk (i:Nat) (r:List V) (_:rs[i]?=some r) (_:r∈rows++rs.take i):Q9 rows rs
def tX (rows rs:List (List V)):Prop:=Q9 rows rs
inductive nZ (C CF CT:Addr) (K:PySem.W.Frag) (vs:List V) (H:Hp) (Q:VK) (E:XK):Prop
 | mk (x dx st d e l:Addr) (n m:Int) (kvs:List (Prod Int V)) (es ls:List V) (rl:Addr) (fr:Nat) (ps as:List Addr) (rs rows:List (List V)) (_:vs=[.ref x,.ref rl]) (_:bV C H x dx st d e l n m (fr:Int) kvs es ls) (_:bf K H rl (ps.map V.ref)) (_:bD H ps rs) (_:(∀ r∈rs,dD r)) (_:kvs.map (·.2)=as.map V.ref) (_:bD H as rows) (_:(∀ q∈rows,q.all jF=true)) (_:(∀ p∈kvs,p.1<(fr:Int))) (_:es.length<1000) (_:x≠e) (_:fr<=1000000) (_:ps.length<=500) (_:kvs.length<=1000) (_:((∃ r∈rs,wm r=false)->∀ H',Same H H'->E (.ref CF) none H')) (_:((∀ r∈rs,wm r=true)->tX rows rs->∀ H',Same H H'->E (.ref CT) none H')) (_:((∀ r∈rs,wm r=true)->¬ tX rows rs->∀ q d' st' l' H',sW x e H H'->bV C H' x dx st' d' e l' n m ((fr+ps.length:Nat):Int) (kvs++news fr ps) (es++[.ref st]) []->H q=none->q≠l'->H' q=some (.lst (nums fr ps.length))->H st'=none->H l'=none->H d'=none->Q (.ref q) H')):nZ C CF CT K vs H Q E
def jH (C CF CT:Addr) (K:PySem.W.Frag):Sp:=fun vs H Q E=>nZ C CF CT K vs H Q E
section
variable {f:Addr}
theorem Qa:aY ["self", "free", "held"] ["self", "free", "held"] (aH xg):=0x0
theorem JR (T:fO K C) (F:gQ K "settle" "Roll.settle" xg f fd):aX P w K mg base cU 1 f fd ["self", "free", "held"] (nY C):=by
 refine F.ok Qa 0xA 0x3
 ·obtain ⟨x,dx,st,d,e,l,n,m,fr,kvs,es,ls,d',fr',kvs',rfl,_⟩:=h;rfl
 obtain ⟨x,dx,st,d,e,l,n,m,fr,kvs,es,ls,d',fr',kvs',rfl,R,hd',hes,yc,k⟩:=h;refine ⟨_,aC 0x27
  (aC (gJ 0x10 (cJ (aj (pv 1) (aj (pv 2) ao))) rfl)
  (aJ (gJ 0x10 (cL ao) rfl))),?_⟩
 refine ⟨_,rfl,x,C,dx,_,_,rfl,R.o,T.cl,T.n4,rfl,.inl ⟨rfl,_,bf.of R.e⟩,_,rfl,x,C,dx,_,_,rfl,R.o,T.cl,T.n3,rfl,e,_,_,rfl,rfl,R.e,bY 0x1,?_⟩;have nde:d'≠e:=fun z=>by rw [z,R.e] at hd';cases hd'
 have ndx:d'≠x:=fun z=>by rw [z,R.o] at hd';cases hd'
 have e1:(upd H e (.lst (es++[.ref st]))) e=some (.lst (es++[.ref st])):=ak;have x1:(upd H e (.lst (es++[.ref st]))) x=some (.ins C dx (FR n m st e l)):=by rw [aA yc];exact R.o
 have k1:(upd H e (.lst (es++[.ref st]))) d'=some (.dK (fj kvs')):=by rw [aA nde];exact hd'
 have f1:sW x e H (upd H e (.lst (es++[.ref st]))):=fun c o _ hc ho=>by rw [aA hc];exact ho
 have z1:∀ c,(upd H e (.lst (es++[.ref st]))) c=none->H c=none:=fun c hc=>by
  have:c≠e:=fun z=>by rw [z,ak] at hc;cases hc
  rw [aA this] at hc;exact hc
 generalize upd H e (.lst (es++[.ref st]))=H1 at e1 x1 k1 f1 z1 ⊢;refine ⟨_,rfl,_,rfl,small 0x4,fun st' hst=>?_⟩;have nxs:x≠st':=aM x1 hst;refine ⟨_,rfl,x,C,dx,_,rfl,by rw [aA nxs];exact x1,T.cl,T.n3,Nat.lt_of_sub_eq_succ rfl,?_⟩;generalize hH2:upd _ x _=H2;have x2:H2 x=some (.ins C dx (FR n m st' e l)):=by rw [<- hH2,ak];rfl
 have s2:H2 st'=some (.tup [.int fr',.ref d']):=by rw [<- hH2,aA (Ne.symm nxs),ak]
 have f2:∀ c o,c≠x->H1 c=some o->H2 c=some o:=fun c o hc ho=>by rw [<- hH2,aA hc,aA (aM ho hst)];exact ho
 clear hH2;refine ⟨small 0x4,fun l' hl=>?_⟩;have Qd:x≠l':=aM x2 hl;refine ⟨_,rfl,x,C,dx,_,rfl,by rw [aA Qd];exact x2,T.cl,T.n5,Nat.lt_of_sub_eq_succ rfl,?_⟩;generalize DG:upd _ x _=H3;have x3:H3 x=some (.ins C dx (FR n m st' e l')):=by rw [<- DG,ak];rfl
 have l3:H3 l'=some (.lst []):=by rw [<- DG,aA (Ne.symm Qd),ak]
 have f3:∀ c o,c≠x->H2 c=some o->H3 c=some o:=fun c o hc ho=>by rw [<- DG,aA hc,aA (aM ho hl)];exact ho
 clear DG;have zl:H1 l'=none:=by
  cases q:H1 l' with
  | none=>rfl
  | some u=>rw [f2 l' u (Ne.symm Qd) q] at hl;cases hl
 exact k st' l' H3 (fun c o hc hce ho=>f3 _ _ hc (f2 _ _ hc (f1 _ _ hc hce ho))) ⟨x3,f3 _ _ (Ne.symm nxs) s2,f3 _ _ ndx (f2 _ _ ndx k1),f3 _ _ (Ne.symm yc) (f2 _ _ (Ne.symm yc) e1),l3⟩ (z1 _ hst) (z1 _ zl)
theorem Qe (kvs:List (Int×V)):(fj kvs).map (·.2)=kvs.map (·.2):=by unfold fj;rw [List.map_map];rfl
theorem Uh:aY ["row", "held"] ["row", "held"] (aH Dg):=0x0
theorem Qf (F:gQ K "check_alone" "check_alone" Dg f fd) (ml:mg "list"=none) (mT:mg "Twice"=some (.ref CT)) (hT:PySem.W.excIn K CT tV "ValueError.__new__"=true):aX P w K mg base (iC P w) 1 f fd ["row", "held"] (xZ CT):=by
 obtain ⟨oc,od,kV,doc,pm,an,cdv,ct,osl,rfl,lk,hcd⟩:=F.ex;refine jZ lk hcd Uh 0xA fun A outer s H vs Q E hr h=>?_
 ·obtain ⟨p,d,r,kvs,as,rows,rfl,_⟩:=h;rfl
 obtain ⟨p,d,r,kvs,as,rows,rfl,hp,hr',hd,hv,hR,hrs,k0,k1⟩:=h;refine ⟨_,aJ (cH (aN (Xz hr.units) 0x10 (bM (CV hr.hd) rfl ml eO (aj (Jv (pv 1)) ao)) 0x16)
  (aJ (kW (C:=CT) (E:=E) rfl (fun pins σ H1 s1 h' e C' vs I hx q=>fH I hx q) rfl mT hT (aj aD ao))) bK),?_⟩
 refine ⟨_,rfl,_,rfl,d,_,rfl,hd,fun v hv'=>?_⟩;have s1:=aq hv' (nQ v d);refine ⟨v,d,_,rfl,ak,s1 _ _ hd,fun q hq=>?_⟩;rw [Qe,hv];have s2:=aq hq (.lst (as.map V.ref));have s12:=s1.trans s2;refine ⟨p,q,as,r,rows,rfl,rfl,bf.of ak,s12 _ _ hp,hr',L2.Paired.fQ hR fun a b h=>s12 _ _ h,hrs,_,rfl,?_⟩;refine je (fun c=>?_) (fun c=>?_)
 ·obtain ⟨q',hq',e⟩:=List.any_eq_true.mp c;have hm:r∈rows:=(u9 e) ▸ hq';exact ⟨eZ 0x4 |> Nat.le_of_lt,k1 hm _ s12⟩
 ·exact k0 (fun hm=>c (List.any_eq_true.mpr ⟨r,hm,decide_eq_true rfl⟩)) _ s12
theorem dI:aY ["self", "rows", "row", "first", "held", "entered", "number", "free"] ["self", "rows"] (aH oR):=0x0
theorem Az (T:fO K C) (F:gQ K "enter_all" "Roll.enter_all" oR f fd) (md:mg "dict"=none) (me:mg "enumerate"=none) (mn:mg "len"=none) (ml:mg "list"=none) (mr:mg "range"=none) 
  (G1:aX P w K mg base (iC P w) 4 g1 d1 ["row"] (xG CF O9 wm K)) (M1:Ms K mg "check_row" g1 d1 ["row"])
  (G2:aX P w K mg base (iC P w) 1 g2 d2 ["row", "held"] (xZ CT)) (M2:Ms K mg "check_alone" g2 d2 ["row", "held"])
  (G3:aX P w K mg base cU 1 g3 d3 ["self", "free", "held"] (nY C)) (m3:Meth K C "settle" g3) (b3:Binds K d3 ["self", "free", "held"] []):aX P w K mg base (iC P w) 5 f fd ["self", "rows"] (jH C CF CT K):=by
 obtain ⟨oc,od,kV,doc,pm,an,cdv,ct,osl,rfl,lk,hcd⟩:=F.ex;refine jZ lk hcd dI 0xA fun A outer s H vs Q E hr h=>?_
 ·obtain ⟨x,dx,st,d,e,l,n,m,kvs,es,ls,rl,fr,ps,as,rs,rows,rfl,_⟩:=h;rfl
 obtain ⟨x,dx,st,d,e,l,n,m,kvs,es,ls,rl,fr,ps,as,rs,rows,rfl,R,hL,hps,hgood,hvals,has,Ba,hlt,hes,yc,hfr,hpl,hkl,k1,k2,k⟩:=h;have hr1:cI 1 _:=hr.mono 0x8;refine ⟨_,aC (iy (fun e s' h=>wpAny_leaving_again (SameStack.refl _) h) rfl (fX (pv 1)) (aO (i:=2) dI.nd rfl 0x5)
   (aJ (bW (bB (CX:=iC P w) (E:=E) G1 hr rfl M1.m M1.k M1.b .nil dO (aj (pv 2) ao)))))
  (aC (gG (cF 0x10 rfl) (fu rfl (bw (aO (i:=3) dI.nd rfl 0x5) (bw (aO (i:=4) dI.nd rfl 0x5) cQ))))
  (aC (bU (i:=5) dI.nd rfl 0x5 (bM mU rfl md qw (aj (pv 4) ao)))
  (aC (iy (fun e s' h=>wpAny_leaving_again (SameStack.refl _) h) rfl (Nm rfl me (aj (pv 1) ao) (pv 3)) (fu rfl (bw (aO (i:=6) dI.nd rfl 0x5) (bw (aO (i:=2) dI.nd rfl 0x5) cQ)))
   (aC (bW (bB (CX:=iC P w) (E:=E) G2 hr1 rfl M2.m M2.k M2.b .nil dO (aj (pv 2) (aj (pv 5) ao))))
   (aJ (Gu (u1 hr) (pv 5) (pv 6) (pv 2) rfl))))
  (aC (bU (i:=7) dI.nd rfl 0x5 (aQ bZ (pv 3) (aP bQ rfl mn PySem.boot_len (aj (pv 1) ao))))
  (aC (bW (fY (E:=E0) 0x10 T.cl m3 G3 hr1 b3 .nil bN (aj (pv 7) (aj (pv 5) ao))))
  (aJ (bG (bM (Dc hr.hd) rfl ml eO (aj (bM Nq rfl mr Q6 (aj (pv 3) (aj (pv 7) ao))) ao))))))))),?_⟩
 have lps:ps.length=rs.length:=Q8 hps;refine ⟨_,rfl,rl,rfl,⟨_,hL⟩,qM (K:=K) (a:=rl) (xs:=ps.map V.ref) (fun i σ H2=>(∃ u,σ=[some (.ref x),some (.ref rl),u,none,none,none,none,none])/\Same H H2/\∀ r∈rs.take i,wm r=true) ⟨⟨none,rfl⟩,Same.refl _,fun r hr'=>by simp at hr'⟩ (fun i σ H2 _ h=>h.2.1.seq hL) ?_ ?_⟩
 ·rintro i v σ H2 hv ⟨⟨u,rfl⟩,s2,hw2⟩;rw [iK] at hv;obtain ⟨a,ha,rfl⟩:=Option.map_eq_some_iff.mp hv;obtain ⟨r,e1,e2⟩:=xY hps ha;obtain ⟨hg1,_⟩:=hgood r (jL e1);refine ⟨_,rfl,a,r,rfl,bF.of (s2 _ _ e2),hg1,?_⟩;cases hwm:wm r with
  | true =>
   refine bR fun H3 s3=>⟨⟨_,rfl⟩,s2.trans s3,fun r' hr'=>?_⟩;rw [List.take_add_one,e1] at hr';rcases List.mem_append.mp hr' with h | h
   ·exact hw2 r' h
   ·have:r'=r:=by simpa using h
    rw [this];exact hwm
  | false=>exact aL fun H3 s3=>k1 ⟨r,jL e1,hwm⟩ H3 (s2.trans s3)
 rintro σ H2 ⟨⟨u,rfl⟩,s2,hw2⟩;rw [bL,lps,List.take_length] at hw2;have k2':=k2 hw2;have k':=k hw2;have R2:=R.same s2;refine ⟨_,rfl,x,C,dx,_,_,rfl,R2.o,T.cl,T.n3,rfl,st,_,rfl,bF.of R2.s,rfl,_,_,rfl,_,_,rfl,rfl,?_⟩;refine ⟨_,rfl,d,_,rfl,R2.k,fun d' hd'=>?_⟩;have s3:Same H (upd H2 d' (.dK (fj kvs))):=s2.trans (aq hd' _);have k3:(upd H2 d' (.dK (fj kvs))) d'=some (.dK (fj kvs)):=ak;have hd0:H d'=none:=s2.free hd';have hL3:=s3.seq hL;refine ⟨_,rfl,_,rfl,rl,_,fr,rfl,rfl,by lia,hL3,?_⟩;have kpt:∀ {H':Hp},(∀ c o,H c=some o->H' c=some o)->bD H' ps rs/\bD H' as rows:=fun hk=>⟨L2.Paired.fQ hps fun a b h=>hk _ _ h,L2.Paired.fQ has fun a b h=>hk _ _ h⟩;refine nP (n:=ps.length) (fx:=fun i=>V.int ((fr+i:Nat):Int)) (fy:=fun i=>(ps.map V.ref).getD i .non)
  (fun i σ Hx=>∃ u6 u2:Option V,σ=[some (.ref x),some (.ref rl),u2,some (.int (fr:Int)),some (.ref d),some (.ref d'),u6,none]/\Same H Hx/\Hx d'=some (.dK (fj (kvs++news fr (ps.take i))))/\∀ (j:Nat) (r:List V),j<i->rs[j]?=some r->r∉rows++rs.take j) ?_
  ⟨none,u,rfl,s3,by rw [k3];unfold news;simp,fun j r hj=>absurd hj (Nat.not_lt_zero _)⟩ ?_ ?_
 ·rintro i σ Hx ⟨u6,u2,rfl,sx,kx,_⟩;have st':=CZ (K:=K) (l:=rl) (xs:=ps.map V.ref) (c:=fr) (H:=Hx) (i:=i) (sx.seq hL);rw [bL] at st';exact st'
 ·rintro i σ Hx t hi ⟨u6,u2,rfl,sx,kx,hno⟩ ht;have ei:(ps.map V.ref).getD i .non=V.ref ps[i]:=by rw [iw,iK,dB hi];rfl
  rw [ei];have s4:Same Hx (upd Hx t (.tup [V.int ((fr+i:Nat):Int),V.ref ps[i]])):=aq ht _;refine ⟨t,_,rfl,bF.of ak,rfl,_,_,rfl,_,_,rfl,rfl,?_⟩;have t4:=sx.trans s4;have k4:=s4 _ _ kx;generalize upd Hx t (.tup [V.int ((fr+i:Nat):Int),V.ref ps[i]])=H4 at t4 k4 ⊢;obtain ⟨r,e1,e2⟩:=xY hps (dB hi);obtain ⟨r4,a4⟩:=kpt t4;obtain ⟨_,hflr⟩:=hgood r (jL e1);refine ⟨_,rfl,_,rfl,ps[i],d',r,_,as++ps.take i,rows++rs.take i,rfl,t4 _ _ e2,hflr,k4,by rw [jO,hvals,JQ,jO],Ay a4 (vg i r4),fun q hq=>?_,fun hm H5 s5=>?_,fun hm H5 s5=>k2' ⟨i,r,e1,hm⟩ H5 (t4.trans s5)⟩
  ·rcases List.mem_append.mp hq with z | z
   ·exact Ba q z
   ·exact (hgood q (List.mem_of_mem_take z)).2
  ·have k5:=s5 _ _ k4;have t5:=t4.trans s5;refine ⟨_,rfl,_,rfl,_,rfl,d',_,rfl,Jl.k (k:=.inl ((fr+i:Nat):Int)) k5 (by
    unfold fj;rw [bL,jj];unfold news;rw [bL,List.length_range,List.length_take];exact bY 0x1),?_⟩
   rw [HS (fun p hp=>by
    rcases List.mem_append.mp hp with z | z
    ·have:=hlt p z;lia
    ·have:=(Ug z).2;rw [List.length_take] at this;lia),List.append_assoc,<- JN hi]
   refine ⟨_,_,rfl,aW t5 hd0,ak,fun j r' hj hr'=>?_⟩
   by_cases ej:j=i
   ·subst ej;have:r'=r:=by rw [e1] at hr';exact (Option.some.inj hr').symm
    rw [this];exact hm
   ·exact hno j r' 0x1 hr'
 ·rintro σ Hx ⟨u6,u2,rfl,sx,kx,hno⟩;have hnd:¬ tX rows rs:=fun ⟨j,r,h1,h2⟩=>hno j r (by rw [lps];exact (List.getElem?_eq_some_iff.mp h1).1) h1 h2;rw [List.take_of_length_le 0x6] at kx;refine ⟨_,rfl,_,rfl,rl,_,rfl,.inl (sx.seq hL),_,_,rfl,rfl,?_⟩;rw [bL];dsimp only;have ef:(fr:Int)+((ps.length:Nat):Int)=((fr+ps.length:Nat):Int):=by lia
  rw [ef];refine ⟨_,rfl,x,dx,_,rfl,sx _ _ R.o,rfl,_,rfl,_,rfl,x,dx,st,d,e,l,n,m,_,kvs,es,ls,d',_,_,rfl,R.same sx,kx,hes,yc,fun st' l' H' hK hR' hst' hl'=>?_⟩;refine ⟨_,rfl,_,rfl,_,_,rfl,fun p hp=>?_⟩;have s6:=aq hp (.rng (fr:Int) ((fr+ps.length:Nat):Int));refine ⟨p,_,_,rfl,ak,by lia,by lia,by lia,by lia,fun q hq=>?_⟩;have s7:=s6.trans (aq hq (.lst ((List.range (((fr+ps.length:Nat):Int) - (fr:Int)).toNat).map fun i=>V.int ((fr:Int)+(i:Nat)))));have er:(((fr+ps.length:Nat):Int) - (fr:Int)).toNat=ps.length:=by lia
  have hq0:H q=none:=by
   cases hqq:H q with
   | none=>rfl
   | some u =>
    by_cases c1:q=x
    ·have:=hR'.o;rw [<- c1] at this;rw [s6 _ _ this] at hq;cases hq
    ·by_cases c2:q=e
     ·have:=hR'.e;rw [<- c2] at this;rw [s6 _ _ this] at hq;cases hq
     ·rw [s6 _ _ (hK q u c1 c2 (sx _ _ hqq))] at hq;cases hq
  refine k' hnd q d' st' l' _ (fun c o h1 h2 h3=>s7 _ _ (hK c o h1 h2 (sx _ _ h3))) (hR'.same s7) hq0 (fun e=>by have:=hR'.l;rw [<- e] at this;rw [s6 _ _ this] at hq;cases hq) (by rw [ak];unfold nums;rw [er]) (sx.free hst') (sx.free hl') hd0
end
def fP (kvs:List (Int×V)) (k:Int):Option V:=(kvs.find? fun p=>decide (p.1=k)).map (·.2)
def fM (kvs:List (Int×V)) (k:Int):List (Int×V):=kvs.filter fun p=>decide (p.1≠k)
theorem o9 (k:Int):∀ kvs:List (Int×V),jE (fj kvs) (.inl k)=fP kvs k
 | []=>rfl
 | p::r=>by
  have ih:=o9 k r;have e:fj (p::r)=(Sum.inl p.1,p.2)::fj r:=rfl;rw [e]
  by_cases h:p.1=k
  ·rw [kY (by rw [h])];unfold fP;rw [List.find?_cons_of_pos (by simpa using h)];rfl
  ·rw [kZ (fun q=>h (by injection q)),ih];unfold fP;rw [List.find?_cons_of_neg (by simpa using h)]
theorem sY (k:Int):∀ kvs:List (Int×V),rD (fj kvs) (.inl k)=fj (fM kvs k)
 | []=>rfl
 | p::r=>by
  have ih:=sY k r;have e:fj (p::r)=(Sum.inl p.1,p.2)::fj r:=rfl;unfold rD fM at ih ⊢;rw [e]
  by_cases h:p.1=k
  ·rw [List.filter_cons_of_neg (by simp [h]),List.filter_cons_of_neg (by simp [h])];exact ih
  ·have h1:¬ (Sum.inl p.1:Key)=Sum.inl k:=fun q=>h (by injection q);rw [List.filter_cons_of_pos (by simpa using h1),List.filter_cons_of_pos (by simpa using h),ih];rfl
theorem Ui {n:Int} (h:∀ p∈kvs,p.1≠n):putK (fj kvs) (.inl n) v=fj (kvs++[(n,v)]):=by
 unfold putK;have e:((fj kvs).any fun kv=>decide (kv.1=Sum.inl n))=false:=by
  rw [List.any_eq_false];intro kv hkv e;unfold fj at hkv;obtain ⟨p,hp,rfl⟩:=List.mem_map.mp hkv;have e':=u9 e;injection e' with e';exact h p hp e'
 rw [e,if_neg Bool.false_ne_true];unfold fj;rw [jO];rfl
theorem off_ne {k:Int}:∀ p∈fM kvs k,p.1≠k:=fun p hp=>u9 (List.mem_filter.mp hp).2
def eG (x e l:Addr) (H H':Hp):Prop:=∀ c o,c≠x->c≠e->c≠l->H c=some o->H' c=some o
inductive vo (C CF CT:Addr) (vs:List V) (H:Hp) (Q:VK) (E:XK):Prop
 | mk (x dx st d e l:Addr) (n m:Int) (kvs:List (Prod Int V)) (es ls:List V) (p:Addr) (r:List V) (fr:Nat) (as:List Addr) (rows:List (List V)) (_:vs=[.ref x,.ref p]) (_:bV C H x dx st d e l n m (fr:Int) kvs es ls) (_:H p=some (.tup r)) (_:dD r) (_:kvs.map (·.2)=as.map V.ref) (_:bD H as rows) (_:(∀ q∈rows,q.all jF=true)) (_:(∀ p∈kvs,p.1<(fr:Int))) (_:es.length<1000) (_:x≠e) (_:fr<=1000000) (_:kvs.length<=1000) (_:(wm r=false->∀ H',Same H H'->E (.ref CF) none H')) (_:(wm r=true->r∈rows->∀ H',Same H H'->E (.ref CT) none H')) (_:(wm r=true->r∉rows->∀ d' st' l' H',sW x e H H'->bV C H' x dx st' d' e l' n m ((fr+1:Nat):Int) (kvs++[((fr:Int),.ref p)]) (es++[.ref st]) []->H st'=none->H l'=none->H d'=none->Q (.int (fr:Int)) H')):vo C CF CT vs H Q E
def yd (C CF CT:Addr) (K:PySem.W.Frag):Sp:=fun vs H Q E=>vo C CF CT vs H Q E
inductive vp (C CN:Addr) (vs:List V) (H:Hp) (Q:VK) (E:XK):Prop
 | mk (x dx st d e l:Addr) (n m fr:Int) (kvs:List (Prod Int V)) (es ls:List V) (k:Int) (_:vs=[.ref x,.int k]) (_:bV C H x dx st d e l n m fr kvs es ls) (_:(∀ v,fP kvs k=some v->Q v H)) (_:(fP kvs k=none->E (.ref CN) none H)):vp C CN vs H Q E
def yg (C CN:Addr):Sp:=fun vs H Q E=>vp C CN vs H Q E
inductive sZ (C CN:Addr) (vs:List V) (H:Hp) (Q:VK) (E:XK):Prop
 | mk (x dx st d e l:Addr) (n m fr:Int) (kvs:List (Prod Int V)) (es ls:List V) (k:Int) (_:vs=[.ref x,.int k]) (_:bV C H x dx st d e l n m fr kvs es ls) (_:es.length<1000) (_:x≠e) (_:(fP kvs k=none->E (.ref CN) none H)) (_:∀ v,fP kvs k=some v->∀ d' st' l' H',sW x e H H'->bV C H' x dx st' d' e l' n m fr (fM kvs k) (es++[.ref st]) []->H st'=none->H l'=none->H d'=none->Q v H'):sZ C CN vs H Q E
def tD (C CN:Addr):Sp:=fun vs H Q E=>sZ C CN vs H Q E
inductive pL (C CF CN CT:Addr) (vs:List V) (H:Hp) (Q:VK) (E:XK):Prop
 | mk (x dx st d e l:Addr) (n m fr:Int) (kvs:List (Prod Int V)) (es ls:List V) (k:Int) (p:Addr) (r:List V) (as:List Addr) (rows:List (List V)) (_:vs=[.ref x,.int k,.ref p]) (_:bV C H x dx st d e l n m fr kvs es ls) (_:H p=some (.tup r)) (_:dD r) (_:(fM kvs k).map (·.2)=as.map V.ref) (_:bD H as rows) (_:(∀ q∈rows,q.all jF=true)) (_:es.length<1000) (_:x≠e) (_:kvs.length<=1000) (_:(wm r=false->∀ H',Same H H'->E (.ref CF) none H')) (_:(wm r=true->fP kvs k=none->∀ H',Same H H'->E (.ref CN) none H')) (_:∀ v,wm r=true->fP kvs k=some v->(r∈rows->∀ H',Same H H'->E (.ref CT) none H')/\(r∉rows->∀ d' st' l' H',sW x e H H'->bV C H' x dx st' d' e l' n m fr (fM kvs k++[(k,.ref p)]) (es++[.ref st]) []->H st'=none->H l'=none->H d'=none->Q v H')):pL C CF CN CT vs H Q E
def oX (C CF CN CT:Addr) (K:PySem.W.Frag):Sp:=fun vs H Q E=>pL C CF CN CT vs H Q E
def Std (H:Hp) (v:V) (fr:Int) (kvs:List (Int×V)) (st d:Addr):Prop:=v=.ref st/\H st=some (.tup [.int fr,.ref d])/\H d=some (.dK (fj kvs))
inductive Bb (C CH:Addr) (vs:List V) (H:Hp) (Q:VK) (E:XK):Prop
 | mk (x dx st d e l:Addr) (n m fr:Int) (kvs:List (Prod Int V)) (es ls:List V) (_:vs=[.ref x]) (_:bV C H x dx st d e l n m fr kvs es ls) (_:x≠e) (_:x≠l) (_:e≠l) (_:ls.length<1000) (_:(es=[]->E (.ref CH) none H)) (_:∀ Bc v,es=Bc++[v]->∃ yE dJ st2 d2,Std H v yE dJ st2 d2/\∀ H',eG x e l H H'->bV C H' x dx st2 d2 e l n m yE dJ Bc (ls++[.ref st])->Q .non H'):Bb C CH vs H Q E
def DN (C CH:Addr):Sp:=fun vs H Q E=>Bb C CH vs H Q E
inductive vq (C CH:Addr) (vs:List V) (H:Hp) (Q:VK) (E:XK):Prop
 | mk (x dx st d e l:Addr) (n m fr:Int) (kvs:List (Prod Int V)) (es ls:List V) (_:vs=[.ref x]) (_:bV C H x dx st d e l n m fr kvs es ls) (_:x≠e) (_:x≠l) (_:e≠l) (_:es.length<1000) (_:(ls=[]->E (.ref CH) none H)) (_:∀ RG v,ls=RG++[v]->∃ yE dJ st2 d2,Std H v yE dJ st2 d2/\∀ H',eG x e l H H'->bV C H' x dx st2 d2 e l n m yE dJ (es++[.ref st]) RG->Q .non H'):vq C CH vs H Q E
def yh (C CH:Addr):Sp:=fun vs H Q E=>vq C CH vs H Q E
section
variable {f:Addr}
theorem Uj:aY ["self", "row"] ["self", "row"] (aH Dn):=0x0
theorem Qg (T:fO K C) (F:gQ K "enter" "Roll.enter" Dn f fd)  (G1:aX P w K mg base (iC P w) 5 g1 d1 ["self", "rows"] (jH C CF CT K)) (m1:Meth K C "enter_all" g1) (b1:Binds K d1 ["self", "rows"] []):aX P w K mg base (iC P w) 6 f fd ["self", "row"] (yd C CF CT K):=by
 obtain ⟨oc,od,kV,doc,pm,an,cdv,ct,osl,rfl,lk,hcd⟩:=F.ex;refine jZ lk hcd Uj 0xA fun A outer s H vs Q E hr h=>?_
 ·obtain ⟨x,dx,st,d,e,l,n,m,kvs,es,ls,p,r,fr,as,rows,rfl,_⟩:=h;rfl
 obtain ⟨x,dx,st,d,e,l,n,m,kvs,es,ls,p,r,fr,as,rows,rfl,R,hp,hg,hvals,has,Ba,hlt,hes,yc,hfr,hkl,k1,k2,k⟩:=h;refine ⟨_,aJ (bG (aK aU (fY (CX:=iC P w) (E:=E) 0x10 T.cl m1 G1 hr b1 .nil dO (aj (cL (aj (pv 1) ao)) ao)) au aR)),?_⟩;refine ⟨_,rfl,x,dx,_,rfl,R.o,rfl,_,rfl,small 0x4,fun rl hrl=>?_⟩;have s1:=aq hrl (.lst [V.ref p]);have l1:(upd H rl (.lst [V.ref p])) rl=some (.lst ([p].map V.ref)):=ak;generalize upd H rl (.lst [V.ref p])=H1 at s1 l1 ⊢;have dup:tX rows [r]↔r∈rows:=by
  constructor
  ·rintro ⟨i,q,h1,h2⟩;cases i with
   | zero =>
    have:r=q:=by simpa using h1
    subst this
    simpa using h2
   | succ j=>simp at h1
  ·intro h;exact ⟨0,r,rfl,by simpa using h⟩
 refine ⟨x,dx,st,d,e,l,n,m,kvs,es,ls,rl,fr,[p],as,[r],rows,rfl,R.same s1,bf.of l1,.cons (s1 _ _ hp) .nil,(fun q hq=>by rw [List.mem_singleton.mp hq];exact hg),hvals,L2.Paired.fQ has fun a b h=>s1 _ _ h,Ba,hlt,hes,yc,hfr,by simp,hkl,?_,?_,?_⟩
 ·rintro ⟨q,hq,hw⟩ H' s';rw [List.mem_singleton.mp hq] at hw;exact k1 hw H' (s1.trans s')
 ·intro hw hd H' s';exact k2 (hw r (List.mem_singleton.mpr rfl)) (dup.mp hd) H' (s1.trans s')
 ·intro hw hd q d' st' l' H' kp R' hq0 _ hq hst hl' hd';refine ⟨q,_,_,_,rfl,rfl,bf.of hq,at0 _ _,?_⟩;have e0:((fr:Int)+((0:Nat):Int))=(fr:Int):=by lia
  have hn:news fr [p]=[((fr:Int),V.ref p)]:=by
   unfold news;simp
  rw [hn] at R';have:=k (hw r (List.mem_singleton.mpr rfl)) (fun h=>hd (dup.mpr h)) d' st' l' H' (fun c o h1 h2 h3=>kp c o h1 h2 (s1 _ _ h3)) R' (s1.free hst) (s1.free hl') (s1.free hd')
  show Q (.int ((fr:Int)+((0:Nat):Int))) H'
  rw [e0];exact this
theorem Uk:aY ["self", "number"] ["self", "number"] (aH Dr):=0x0
theorem Qh (T:fO K C) (F:gQ K "row_at" "Roll.row_at" Dr f fd) (mN:mg "NoEntry"=some (.ref CN)) (hN:PySem.W.excIn K CN tV "ValueError.__new__"=true):aX P w K mg base (iC P w) 1 f fd ["self", "number"] (yg C CN):=by
 obtain ⟨oc,od,kV,doc,pm,an,cdv,ct,osl,rfl,lk,hcd⟩:=F.ex;refine jZ lk hcd Uk 0xA fun A outer s H vs Q E hr h=>?_
 ·obtain ⟨x,dx,st,d,e,l,n,m,fr,kvs,es,ls,k,rfl,_⟩:=h;rfl
 obtain ⟨x,dx,st,d,e,l,n,m,fr,kvs,es,ls,k,rfl,R,k0,k1⟩:=h;refine ⟨_,aC (cH (vV (Jq (u1 hr) (pv 1) (aK bA (cF 0x10 rfl) au aR))) (aJ (kW (C:=CN) (E:=E) rfl (fun pins σ H1 s1 h' e C' vs I hx q=>fH I hx q) rfl mN hN (aj aD ao))) bK)
  (aJ (bG (cC (u1 hr) (aK bA (cF 0x10 rfl) au aR) (pv 1) 0x9))),?_⟩
 have g:=gR.k (k:=.inl k) R.k;rw [o9] at g;refine ⟨_,rfl,_,rfl,x,C,dx,_,_,rfl,R.o,T.cl,T.n3,rfl,st,_,_,_,rfl,rfl,bF.of R.s,bh (j:=1) rfl,d,_,rfl,g,_,rfl,?_⟩;cases hlk:fP kvs k with
 | none=>exact bR ⟨eZ 0x4 |> Nat.le_of_lt,k1 hlk⟩
 | some v =>
  rw [hlk] at g;refine aL ?_;exact ⟨_,rfl,x,C,dx,_,_,rfl,R.o,T.cl,T.n3,rfl,st,_,_,_,rfl,rfl,bF.of R.s,bh (j:=1) rfl,_,rfl,d,_,rfl,g,k0 v hlk⟩
theorem lH:aY ["self", "number", "old", "free", "held", "left"] ["self", "number"] (aH wZ):=0x0
theorem JT (T:fO K C) (F:gQ K "strike" "Roll.strike" wZ f fd) (md:mg "dict"=none)  (G1:aX P w K mg base (iC P w) 1 g1 d1 ["self", "number"] (yg C CN)) (m1:Meth K C "row_at" g1) (b1:Binds K d1 ["self", "number"] [])
  (G3:aX P w K mg base cU 1 g3 d3 ["self", "free", "held"] (nY C)) (m3:Meth K C "settle" g3) (b3:Binds K d3 ["self", "free", "held"] []):aX P w K mg base (iC P w) 2 f fd ["self", "number"] (tD C CN):=by
 obtain ⟨oc,od,kV,doc,pm,an,cdv,ct,osl,rfl,lk,hcd⟩:=F.ex;refine jZ lk hcd lH 0xA fun A outer s H vs Q E hr h=>?_
 ·obtain ⟨x,dx,st,d,e,l,n,m,fr,kvs,es,ls,k,rfl,_⟩:=h;rfl
 obtain ⟨x,dx,st,d,e,l,n,m,fr,kvs,es,ls,k,rfl,R,hes,yc,k0,k1⟩:=h;refine ⟨_,aC (bU (i:=2) lH.nd rfl 0x5 (fY (CX:=iC P w) (E:=E) 0x10 T.cl m1 G1 hr b1 .nil dO (aj (pv 1) ao)))
  (aC (gG (cF 0x10 rfl) (fu rfl (bw (aO (i:=3) lH.nd rfl 0x5) (bw (aO (i:=4) lH.nd rfl 0x5) cQ))))
  (aC (bU (i:=5) lH.nd rfl 0x5 (bM mU rfl md qw (aj (pv 4) ao)))
  (aC (Gw (pv 5) (pv 1))
  (aC (bW (fY (E:=E0) 0x10 T.cl m3 G3 hr b3 .nil bN (aj (pv 3) (aj (pv 5) ao))))
  (aJ (bG (pv 2))))))),?_⟩
 refine ⟨_,rfl,x,dx,_,rfl,R.o,rfl,_,rfl,x,dx,st,d,e,l,n,m,fr,kvs,es,ls,k,rfl,R,fun v hv=>?_,k0⟩;refine ⟨_,rfl,x,C,dx,_,_,rfl,R.o,T.cl,T.n3,rfl,st,_,rfl,bF.of R.s,rfl,_,_,rfl,_,_,rfl,rfl,?_⟩;refine ⟨_,rfl,d,_,rfl,R.k,fun d' hd'=>?_⟩;have s1:=aq hd' (.dK (fj kvs));refine ⟨_,rfl,_,rfl,d',_,.inl k,rfl,ak,rfl,by rw [o9,hv];rfl,?_⟩;rw [sY,pY];have s2:Same H (upd H d' (.dK (fj (fM kvs k)))):=aq hd' _;have k2:(upd H d' (.dK (fj (fM kvs k)))) d'=some (.dK (fj (fM kvs k))):=ak;generalize upd H d' (.dK (fj (fM kvs k)))=H2 at s2 k2 ⊢;refine ⟨_,rfl,x,dx,_,rfl,s2 _ _ R.o,rfl,_,rfl,_,rfl,x,dx,st,d,e,l,n,m,_,kvs,es,ls,d',_,_,rfl,R.same s2,k2,hes,yc,fun st' l' H' hK hR' hst' hl'=>?_⟩;exact ⟨_,rfl,k1 v hv d' st' l' H' (fun c o h1 h2 h3=>hK c o h1 h2 (s2 _ _ h3)) hR' (s2.free hst') (s2.free hl') hd'⟩
theorem jq:aY ["self", "number", "row", "old", "free", "held", "corrected"] ["self", "number", "row"] (aH rY):=0x0
theorem DP (T:fO K C) (F:gQ K "correct" "Roll.correct" rY f fd) (md:mg "dict"=none)  (G1:aX P w K mg base (iC P w) 1 g1 d1 ["self", "number"] (yg C CN)) (m1:Meth K C "row_at" g1) (b1:Binds K d1 ["self", "number"] [])
  (G2:aX P w K mg base (iC P w) 4 g2 d2 ["row"] (xG CF O9 wm K)) (M2:Ms K mg "check_row" g2 d2 ["row"])
  (G4:aX P w K mg base (iC P w) 1 g4 d4 ["row", "held"] (xZ CT)) (M4:Ms K mg "check_alone" g4 d4 ["row", "held"])
  (G3:aX P w K mg base cU 1 g3 d3 ["self", "free", "held"] (nY C)) (m3:Meth K C "settle" g3) (b3:Binds K d3 ["self", "free", "held"] []):aX P w K mg base (iC P w) 5 f fd ["self", "number", "row"] (oX C CF CN CT K):=by
 obtain ⟨oc,od,kV,doc,pm,an,cdv,ct,osl,rfl,lk,hcd⟩:=F.ex;refine jZ lk hcd jq 0xA fun A outer s H vs Q E hr h=>?_
 ·obtain ⟨x,dx,st,d,e,l,n,m,fr,kvs,es,ls,k,p,r,as,rows,rfl,_⟩:=h;rfl
 obtain ⟨x,dx,st,d,e,l,n,m,fr,kvs,es,ls,k,p,r,as,rows,rfl,R,hp,hg,hvals,has,Ba,hes,yc,hkl,k1,k2,k3⟩:=h;have hr1:cI 1 _:=hr.mono 0x8;refine ⟨_,aC (bW (bB (CX:=iC P w) (E:=E) G2 hr rfl M2.m M2.k M2.b .nil dO (aj (pv 2) ao)))
  (aC (bU (i:=3) jq.nd rfl 0x5 (fY (CX:=iC P w) (E:=E) 0x10 T.cl m1 G1 hr1 b1 .nil dO (aj (pv 1) ao)))
  (aC (gG (cF 0x10 rfl) (fu rfl (bw (aO (i:=4) jq.nd rfl 0x5) (bw (aO (i:=5) jq.nd rfl 0x5) cQ))))
  (aC (bU (i:=6) jq.nd rfl 0x5 (bM mU rfl md qw (aj (pv 5) ao)))
  (aC (Gw (pv 6) (pv 1))
  (aC (bW (bB (CX:=iC P w) (E:=E) G4 hr1 rfl M4.m M4.k M4.b .nil dO (aj (pv 2) (aj (pv 6) ao))))
  (aC (Gu (u1 hr) (pv 6) (pv 1) (pv 2) rfl)
  (aC (bW (fY (E:=E0) 0x10 T.cl m3 G3 hr1 b3 .nil bN (aj (pv 4) (aj (pv 6) ao))))
  (aJ (bG (pv 3)))))))))),?_⟩
 refine ⟨_,rfl,p,r,rfl,bF.of hp,hg.1,?_⟩;cases hw:wm r with
 | false=>exact aL (k1 hw)
 | true =>
  refine bR fun H1 s1=>?_;have R1:=R.same s1;refine ⟨_,rfl,x,dx,_,rfl,R1.o,rfl,_,rfl,x,dx,st,d,e,l,n,m,fr,kvs,es,ls,k,rfl,R1,fun v hv=>?_,fun hn=>k2 hw hn H1 s1⟩;obtain ⟨k4,k5⟩:=k3 v hw hv;refine ⟨_,rfl,x,C,dx,_,_,rfl,R1.o,T.cl,T.n3,rfl,st,_,rfl,bF.of R1.s,rfl,_,_,rfl,_,_,rfl,rfl,?_⟩;refine ⟨_,rfl,d,_,rfl,R1.k,fun d' hd'=>?_⟩;refine ⟨_,rfl,_,rfl,d',_,.inl k,rfl,ak,rfl,by rw [o9,hv];rfl,?_⟩;rw [sY,pY];have hd0:H d'=none:=s1.free hd';have s2:Same H (upd H1 d' (.dK (fj (fM kvs k)))):=s1.trans (aq hd' _);have kk2:(upd H1 d' (.dK (fj (fM kvs k)))) d'=some (.dK (fj (fM kvs k))):=ak;generalize upd H1 d' (.dK (fj (fM kvs k)))=H2 at s2 kk2 ⊢;refine ⟨_,rfl,_,rfl,p,d',r,_,as,rows,rfl,s2 _ _ hp,hg.2,kk2,hvals,L2.Paired.fQ has fun a b h=>s2 _ _ h,Ba,fun hm H3 s3=>?_,fun hm H3 s3=>k4 hm H3 (s2.trans s3)⟩;have kk3:=s3 _ _ kk2;have s23:=s2.trans s3;have lo:(fM kvs k).length<=kvs.length:=List.length_filter_le _ _;refine ⟨_,rfl,_,rfl,_,rfl,d',_,rfl,Jl.k (k:=.inl k) kk3 (by unfold fj;rw [bL];exact bY 0x1),?_⟩;rw [Ui off_ne];have s4:Same H (upd H3 d' (.dK (fj (fM kvs k++[(k,V.ref p)])))):=aW s23 hd0;have kk4:(upd H3 d' (.dK (fj (fM kvs k++[(k,V.ref p)])))) d'=some (.dK (fj (fM kvs k++[(k,V.ref p)]))):=ak;generalize upd H3 d' (.dK (fj (fM kvs k++[(k,V.ref p)])))=H4 at s4 kk4 ⊢;refine ⟨_,rfl,x,dx,_,rfl,s4 _ _ R.o,rfl,_,rfl,_,rfl,x,dx,st,d,e,l,n,m,_,kvs,es,ls,d',_,_,rfl,R.same s4,kk4,hes,yc,fun st' l' H' hK hR' hst' hl'=>?_⟩;exact ⟨_,rfl,k5 hm d' st' l' H' (fun c o h1 h2 h3=>hK c o h1 h2 (s4 _ _ h3)) hR' (s4.free hst') (s4.free hl') hd0⟩
end
section
variable {f:Addr}
theorem HW {Bc:List V}:(Bc++[v])[(Bc++[v]).length - 1]?=some v:=by
 rw [jj,List.length_singleton,Nat.add_sub_cancel,List.getElem?_append_right 0x6,Nat.sub_self];rfl
theorem Yo:aY ["self"] ["self"] (aH O4):=0x0
theorem Ul (T:fO K C) (F:gQ K "back" "Roll.back" O4 f fd) (mH:mg "NothingThere"=some (.ref CH)) (hH:PySem.W.excIn K CH tV "ValueError.__new__"=true):aX P w K mg base (iC P w) 1 f fd ["self"] (DN C CH):=by
 obtain ⟨oc,od,kV,doc,pm,an,cdv,ct,osl,rfl,lk,hcd⟩:=F.ex;refine jZ lk hcd Yo 0xA fun A outer s H vs Q E hr h=>?_
 ·obtain ⟨x,dx,st,d,e,l,n,m,fr,kvs,es,ls,rfl,_⟩:=h;rfl
 obtain ⟨x,dx,st,d,e,l,n,m,fr,kvs,es,ls,rfl,R,yc,Qd,W5,hll,k0,k1⟩:=h;refine ⟨_,aC (cH (eU (yP (cF 0x10 rfl) (fun _=>rfl))) (aJ (kW (C:=CH) (E:=E) rfl (fun pins σ H1 s1 h' e C' vs I hx q=>fH I hx q) rfl mH hH (aj aD ao))) bK)
  (aC 0x27
  (aJ (gJ 0x10 (qT (name:="pop") PySem.F.plainAttrs_list PySem.F.slot_list_pop PySem.F.type_list_pop wu (cF 0x10 rfl)) rfl))),?_⟩
 refine ⟨_,rfl,x,C,dx,_,_,rfl,R.o,T.cl,T.n4,rfl,_,.inl ⟨_,bf.of R.e,rfl⟩,?_⟩;rcases List.eq_nil_or_concat es with e0 | ⟨Bc,v,e0⟩
 ·subst e0;exact bR ⟨eZ 0x4 |> Nat.le_of_lt,k0 rfl⟩
 ·rw [List.concat_eq_append] at e0;obtain ⟨yE,dJ,st2,d2,⟨rfl,hst2,hd2⟩,k⟩:=k1 Bc v e0;subst e0;have ne0:(!(!(Bc++[V.ref st2]).isEmpty))=false:=by simp
  rw [ne0];refine aL ?_;refine ⟨_,rfl,x,C,dx,_,_,rfl,R.o,T.cl,T.n5,rfl,.inl ⟨rfl,_,bf.of R.l⟩,_,rfl,x,C,dx,_,_,rfl,R.o,T.cl,T.n3,rfl,l,_,_,rfl,rfl,R.l,bY 0x1,?_⟩;have x1:(upd H l (.lst (ls++[.ref st]))) x=some (.ins C dx (FR n m st e l)):=by rw [aA Qd];exact R.o
  have e1:(upd H l (.lst (ls++[.ref st]))) e=some (.lst (Bc++[.ref st2])):=by rw [aA W5];exact R.e
  refine ⟨_,rfl,x,C,dx,_,_,rfl,x1,T.cl,T.n4,rfl,.inl ⟨rfl,_,bf.of e1⟩,e,_,_,rfl,rfl,e1,HW,?_⟩;rw [List.dropLast_concat];refine ⟨_,rfl,x,C,dx,_,rfl,by rw [aA yc];exact x1,T.cl,T.n3,Nat.lt_of_sub_eq_succ rfl,?_⟩;have ns:∀ (c:Addr) (o:HO),H c=some o->c≠x->c≠e->c≠l->∀ (a b g:HO),(upd (upd (upd H l a) e b) x g) c=some o:=fun c o h h1 h2 h3 a b g=>by rw [aA h1,aA h2,aA h3];exact h
  have nt:∀ {c:Addr}{xs:List V},H c=some (.tup xs)->c≠x/\c≠e/\c≠l:=fun h=>⟨fun z=>(by rw [z,R.o] at h;cases h),fun z=>(by rw [z,R.e] at h;cases h),fun z=>(by rw [z,R.l] at h;cases h)⟩;have nd:∀ {c:Addr}{q},H c=some (.dK q)->c≠x/\c≠e/\c≠l:=fun h=>⟨fun z=>(by rw [z,R.o] at h;cases h),fun z=>(by rw [z,R.e] at h;cases h),fun z=>(by rw [z,R.l] at h;cases h)⟩;obtain ⟨t1,t2,t3⟩:=nt hst2;obtain ⟨u1,u2,u3⟩:=nd hd2;refine k _ (fun c o h1 h2 h3 h4=>ns _ _ h4 h1 h2 h3 _ _ _) ⟨by rw [ak];rfl,ns _ _ hst2 t1 t2 t3 _ _ _,ns _ _ hd2 u1 u2 u3 _ _ _,by rw [aA (Ne.symm yc),ak],by rw [aA (Ne.symm Qd),aA (Ne.symm W5),ak]⟩
theorem Um:aY ["self"] ["self"] (aH Dp):=0x0
theorem Qi (T:fO K C) (F:gQ K "again" "Roll.again" Dp f fd) (mH:mg "NothingThere"=some (.ref CH)) (hH:PySem.W.excIn K CH tV "ValueError.__new__"=true):aX P w K mg base (iC P w) 1 f fd ["self"] (yh C CH):=by
 obtain ⟨oc,od,kV,doc,pm,an,cdv,ct,osl,rfl,lk,hcd⟩:=F.ex;refine jZ lk hcd Um 0xA fun A outer s H vs Q E hr h=>?_
 ·obtain ⟨x,dx,st,d,e,l,n,m,fr,kvs,es,ls,rfl,_⟩:=h;rfl
 obtain ⟨x,dx,st,d,e,l,n,m,fr,kvs,es,ls,rfl,R,yc,Qd,W5,hll,k0,k1⟩:=h;refine ⟨_,aC (cH (eU (yP (cF 0x10 rfl) (fun _=>rfl))) (aJ (kW (C:=CH) (E:=E) rfl (fun pins σ H1 s1 h' e C' vs I hx q=>fH I hx q) rfl mH hH (aj aD ao))) bK)
  (aC 0x27
  (aJ (gJ 0x10 (qT (name:="pop") PySem.F.plainAttrs_list PySem.F.slot_list_pop PySem.F.type_list_pop wu (cF 0x10 rfl)) rfl))),?_⟩
 refine ⟨_,rfl,x,C,dx,_,_,rfl,R.o,T.cl,T.n5,rfl,_,.inl ⟨_,bf.of R.l,rfl⟩,?_⟩;rcases List.eq_nil_or_concat ls with e0 | ⟨RG,v,e0⟩
 ·subst e0;exact bR ⟨eZ 0x4 |> Nat.le_of_lt,k0 rfl⟩
 ·rw [List.concat_eq_append] at e0;obtain ⟨yE,dJ,st2,d2,⟨rfl,hst2,hd2⟩,k⟩:=k1 RG v e0;subst e0;have ne0:(!(!(RG++[V.ref st2]).isEmpty))=false:=by simp
  rw [ne0];refine aL ?_;refine ⟨_,rfl,x,C,dx,_,_,rfl,R.o,T.cl,T.n4,rfl,.inl ⟨rfl,_,bf.of R.e⟩,_,rfl,x,C,dx,_,_,rfl,R.o,T.cl,T.n3,rfl,e,_,_,rfl,rfl,R.e,bY 0x1,?_⟩;have x1:(upd H e (.lst (es++[.ref st]))) x=some (.ins C dx (FR n m st e l)):=by rw [aA yc];exact R.o
  have e1:(upd H e (.lst (es++[.ref st]))) l=some (.lst (RG++[.ref st2])):=by rw [aA (Ne.symm W5)];exact R.l
  refine ⟨_,rfl,x,C,dx,_,_,rfl,x1,T.cl,T.n5,rfl,.inl ⟨rfl,_,bf.of e1⟩,l,_,_,rfl,rfl,e1,HW,?_⟩;rw [List.dropLast_concat];refine ⟨_,rfl,x,C,dx,_,rfl,by rw [aA Qd];exact x1,T.cl,T.n3,Nat.lt_of_sub_eq_succ rfl,?_⟩;have ns:∀ (c:Addr) (o:HO),H c=some o->c≠x->c≠e->c≠l->∀ (a b g:HO),(upd (upd (upd H e a) l b) x g) c=some o:=fun c o h h1 h2 h3 a b g=>by rw [aA h1,aA h3,aA h2];exact h
  have nt:∀ {c:Addr}{xs:List V},H c=some (.tup xs)->c≠x/\c≠e/\c≠l:=fun h=>⟨fun z=>(by rw [z,R.o] at h;cases h),fun z=>(by rw [z,R.e] at h;cases h),fun z=>(by rw [z,R.l] at h;cases h)⟩;have nd:∀ {c:Addr}{q},H c=some (.dK q)->c≠x/\c≠e/\c≠l:=fun h=>⟨fun z=>(by rw [z,R.o] at h;cases h),fun z=>(by rw [z,R.e] at h;cases h),fun z=>(by rw [z,R.l] at h;cases h)⟩;obtain ⟨t1,t2,t3⟩:=nt hst2;obtain ⟨u1,u2,u3⟩:=nd hd2;refine k _ (fun c o h1 h2 h3 h4=>ns _ _ h4 h1 h2 h3 _ _ _) ⟨by rw [ak];rfl,ns _ _ hst2 t1 t2 t3 _ _ _,ns _ _ hd2 u1 u2 u3 _ _ _,by rw [aA (Ne.symm yc),aA W5,ak],by rw [aA (Ne.symm Qd),ak]⟩
end
end M
namespace L2
open PySem PySem.Spec
theorem Yp {es2:List Expr}{k:Nat} (ha:WE X (.Tuple es2 k p) te) (hr:WA X es t):WA X (.Tuple es2 k p::es) (fD te t):=⟨aj ha.h hr.h⟩
theorem a0L {o:UnaryOp}{a:Expr} (ha:WE X (.UnaryOp o a p) te) (hr:WA X es t):WA X (.UnaryOp o a p::es) (fD te t):=⟨aj ha.h hr.h⟩
end L2
namespace M
open PySem L2 PyProof.Rows
inductive Qj (r:List V):Prop
 | mk (k:Str) (rest:List V) (_:r=.str k::rest) (_:rest.length<=6) (_:Row 20 k rest) (_:pJ k rest=true):Qj r
def Bd (r:List V):Prop:=Qj r
def Gv (t:TE) (σ:L2.St) (H:Hp) (r:List V):Prop:=∀ Q:VK,(∀ p H',Same H H'->H' p=some (.tup r)->Q (.ref p) H')->t σ H Q
theorem Yq (xs:List V) (j:Nat) (h:j<=xs.length):dj xs (some (j:Int)) none=xs.drop j:=by
 unfold dj;have e2:HT.cX xs.length xs.length none=xs.length:=rfl;rw [e2,HT.fG,Nat.min_eq_left h,List.take_of_length_le (by rw [List.length_drop];exact Nat.le_refl _)]
theorem cutT (xs:List V) (j:Nat) (h:j<=xs.length):dj xs none (some (j:Int))=xs.take j:=by
 unfold dj;have e1:HT.cX xs.length 0 none=0:=rfl;rw [e1,HT.fG,List.drop_zero,Nat.sub_zero,Nat.min_eq_left h]
theorem W6 (n:Nat) (h:1<=n):HT.cX n n (some (-1))=n - 1:=by
 show (if (-1:Int)<0 then ((-1:Int)+(n:Int)).toNat else min (-1:Int).toNat n)=n - 1
 rw [if_pos 0x8];lia
theorem cutM (xs:List V) (h:1<=xs.length):dj xs none (some (-1))=xs.dropLast:=by
 unfold dj;have e1:HT.cX xs.length 0 none=0:=rfl;rw [e1,W6 _ h,List.drop_zero,Nat.sub_zero,List.dropLast_eq_take]
theorem nwN (h:1<=j) (h2:1<=n):¬ (HT.cX n 0 (some (j:Int))=0/\HT.cX n n hi=n):=by
 rw [HT.fG];lia
theorem nwT (h:j<n):¬ (HT.cX n 0 lo=0/\HT.cX n n (some (j:Int))=n):=by
 rw [HT.fG];lia
theorem nwM (h:1<=n):¬ (HT.cX n 0 lo=0/\HT.cX n n (some (-1))=n):=by
 rw [W6 _ h];lia
section
variable {r1 r2:List V}
theorem oY (h1:Gv ta σ H r1) (h2:∀ H',Same H H'->Gv tb σ H' r2) (n1:r1≠[]) (hl:r1.length+r2.length<=1000):Gv (Rt (Vl K) ta tb) σ H (r1++r2):=by
 intro Q q;refine h1 _ fun p H1 s1 e1=>?_;refine h2 H1 s1 _ fun p2 H2 s2 e2=>?_;have e1':=s2 _ _ e1;refine ⟨p,p2,r1,r2,rfl,rfl,bF.of e1',bF.of e2,n1,small 0x1,fun z=>?_,fun _ p3 h3=>q p3 _ ((s1.trans s2).trans (aq h3 _)) ak⟩;refine q p H2 (s1.trans s2) ?_;rw [z,List.append_nil];exact e1'
theorem Yr (hσ:σ[i]?=some (some (.ref a))) (h:H a=some (.tup r1)):Gv (pP i) σ H r1:=fun Q q=>⟨_,hσ,q a H (Same.refl _) h⟩
theorem qy (hσ:σ[i]?=some (some (.ref a))) (h:H a=some (.tup r1)) (hj:1<=j) (hl:j<=r1.length):Gv (tSl (Sg K) (pP i) (yR (tC (.int (j:Int)))) nA) σ H (r1.drop j):=by
 intro Q q;refine ⟨_,hσ,_,rfl,a,r1,rfl,bF.of h,nwN hj 0x1,fun p hp=>?_⟩;rw [Yq _ _ hl];exact q p _ (aq hp _) ak
theorem a0M (hσ:σ[i]?=some (some (.ref a))) (h:H a=some (.tup r1)) (hl:j<r1.length):Gv (tSl (Sg K) (pP i) nA (yR (tC (.int (j:Int))))) σ H (r1.take j):=by
 intro Q q;refine ⟨_,hσ,_,rfl,a,r1,rfl,bF.of h,nwT hl,fun p hp=>?_⟩;rw [cutT _ _ (Nat.le_of_lt hl)];exact q p _ (aq hp _) ak
theorem a0N (hσ:σ[i]?=some (some (.ref a))) (h:H a=some (.tup r1)) (hl:1<=r1.length):Gv (tSl (Sg K) (pP i) nA (yR (tUn (rU fun i=>.int (-i)) (tC (.int 1))))) σ H r1.dropLast:=by
 intro Q q;refine ⟨_,hσ,1,rfl,_,rfl,a,r1,rfl,bF.of h,nwM hl,fun p hp=>?_⟩;have e:=cutM _ hl;rw [show (-1:Int)=-(1:Int) from rfl] at e
 rw [e];exact q p _ (aq hp _) ak
theorem yj:Gv (S6 (fD (tC v) oJ)) σ H [v]:=fun Q q=>⟨small 0x4,fun p hp=>q p _ (aq hp _) ak⟩
theorem Qk {u:V}{tu:TE} (hσ:σ[i]?=some (some (.ref a))) (h:H a=some (.tup (v::rest))) (hu:∀ Q:VK,Q u H->tu σ H Q):Gv (S6 (fD (Rt (Sh K) (pP i) (tC (.int 0))) (fD tu oJ))) σ H [v,u]:=fun Q q =>
 ⟨_,hσ,a,_,_,_,rfl,rfl,bF.of h,at0 _ _,hu _ ⟨small 0x4,fun p hp=>q p _ (aq hp _) ak⟩⟩
end
theorem Ql {k:Str}{l:List cW} (h:form k=some l):∀ s,l[0]?=some s->s.num=true:=by
 have:∀ p∈forms,(p.2[0]?.map cW.num)=some true:=by decide
 intro s e;have:=this _ (dH h);simp only [e] at this;injection this
theorem Qm {k:Str}{l:List cW} (h:form k=some l):∀ s,l[1]?=some s->s.num=false:=by
 have:∀ p∈forms,(p.2[1]?.map cW.num)=some false:=by decide
 intro s e;have:=this _ (dH h);simp only [e] at this;injection this
theorem Qn (h:∀ c∈z.cps.toList,c<128):PyData.strOk z=true:=by
 unfold PyData.strOk;rw [<- Array.all_toList,List.all_eq_true];intro c hc;have:=h c hc;exact decide_eq_true 0x1
theorem Uo {B:Nat} (h:Ry B v):jF v=true:=by
 rcases h with ⟨n,rfl⟩ | ⟨z,rfl,_,h⟩
 ·rfl
 ·exact Qn h
theorem jJ {k:Str} (hk:PyData.strOk k=true) (h:Row 1000 k rest):dD (.str k::rest):=by
 refine ⟨⟨k,rest,rfl,h⟩,?_⟩;rw [List.all_eq_true];intro v hv;rcases List.mem_cons.mp hv with rfl | hv
 ·exact hk
 ·exact Uo (h.ok v hv)
theorem Ys {B B2:Nat} (h:Ry B v) (l:B<=B2):Ry B2 v:=by
 rcases h with ⟨n,rfl⟩ | ⟨z,rfl,h1,h2⟩
 ·exact .inl ⟨n,rfl⟩
 ·exact .inr ⟨z,rfl,by lia,h2⟩
theorem oh {k:Str}{l:List cW} (h:form k=some l):PyData.strOk k=true :=
 (show ∀ p∈forms,PyData.strOk p.1=true by decide +kernel) _ (dH h)
theorem Bd.ex (h:Bd r):∃ k l v u rest,r=.str k::v::u::rest/\form k=some l/\(v::u::rest).length=l.length/\l.length<=6/\Row 1000 k (v::u::rest):=by
 obtain ⟨k,rest,rfl,h1,h2,h3⟩:=h;unfold pJ at h3;cases hf:form k with
 | none=>rw [hf] at h3;cases h3
 | some l =>
  rw [hf] at h3;simp only [Bool.and_eq_true,decide_eq_true_eq] at h3;obtain ⟨l2,l6⟩:=nU hf;have R:Row 1000 k rest:=⟨h2.len,fun v hv=>Ys (h2.ok v hv) 0x8,h2.kept⟩
  match rest,h3.1,R with
  | [],e,_=>simp at e;lia
  | [_],e,_=>simp at e;lia
  | v::u::rest,e,R=>exact ⟨k,l,v,u,rest,rfl,hf,e,l6,R⟩
theorem Bd.g (h:Bd r):dD r:=by
 obtain ⟨k,l,v,u,rest,rfl,hf,e,l6,R⟩:=h.ex;exact jJ (oh hf) R
theorem ill0 {k:Str} (R:Row 1000 k rest):dD ([V.str "grants"]++rest) :=
 jJ 0xE ⟨R.len,R.ok,fun l h=>by cases (show form "grants"=none by decide +kernel).symm.trans h⟩
theorem ill1 {k:Str}{l:List cW} (hf:form k=some l) (hl:rest.length=l.length) (h6:l.length<=6) (R:Row 1000 k rest):dD (V.str k::(rest++[V.int 1])):=by
 refine jJ (oh hf) ⟨by simp;lia,fun v hv=>?_,fun l2 h2 i s v h3 h4=>?_⟩
 ·rcases List.mem_append.mp hv with z | z
  ·exact R.ok v z
  ·rw [List.mem_singleton.mp z];exact .inl ⟨1,rfl⟩
 ·have hi:i<l2.length:=(List.getElem?_eq_some_iff.mp h3).1;have:l=l2:=by rw [hf] at h2;injection h2
  subst this;rw [List.getElem?_append_left 0x1] at h4;exact R.kept _ hf i s v h3 h4
theorem ill2 {k:Str}{l:List cW} (hf:form k=some l) (R:Row 1000 k rest):dD (V.str k::rest.dropLast):=by
 refine jJ (oh hf) ⟨by have:=R.len;simp;lia,fun v hv=>R.ok v ((List.dropLast_sublist _).subset hv),fun l2 h2 i s v h3 h4=>?_⟩;rw [List.dropLast_eq_take,List.getElem?_take] at h4
 split at h4
 ·exact R.kept _ h2 i s v h3 h4
 ·cases h4
theorem ill3 {k:Str}{l:List cW}{n:Int} (hf:form k=some l) (R:Row 1000 k (v::rest)):dD ([V.str k,V.int n]++rest):=by
 refine jJ (oh hf) ⟨by have:=R.len;simpa using this,fun u hu=>?_,fun l2 h2 i s u h3 h4=>?_⟩
 ·rcases List.mem_cons.mp hu with rfl | z
  ·exact .inl ⟨n,rfl⟩
  ·exact R.ok u (jw _ z)
 ·cases i with
  | zero =>
   have:u=V.int n:=by simpa using h4.symm
   subst this;exact (Ql h2 s h3).symm
  | succ i=>exact R.kept _ h2 (i+1) s u h3 (by simpa using h4)
theorem ill5:dD [V.str "heir"]:=jJ 0xE ⟨by simp,(fun v hv=>nomatch hv),fun l h i s v h3 h4=>by simp at h4⟩
theorem ill6 {k:Str}{l:List cW}{u:V} (hf:form k=some l) (R:Row 1000 k (v::u::rest)):dD (([V.str k,v]++[V.str "Not one"])++rest):=by
 refine jJ (rest:=v::V.str "Not one"::rest) (oh hf) ⟨by have:=R.len;simpa using this,fun x hx=>?_,fun l2 h2 i s x h3 h4=>?_⟩
 ·rcases List.mem_cons.mp hx with rfl | z
  ·exact R.ok _ (List.mem_cons_self ..)
  ·rcases List.mem_cons.mp z with rfl | z
   ·exact .inr ⟨_,rfl,by decide +kernel,by decide +kernel⟩
   ·exact R.ok x (jw _ (jw _ z))
 ·match i,h3,h4 with
  | 0,h3,h4=>exact R.kept _ h2 0 s x h3 (by simpa using h4)
  | 1,h3,h4 =>
   have:x=V.str "Not one":=by simpa using h4.symm
   subst this;exact (Qm h2 s h3).symm
  | i+2,h3,h4=>exact R.kept _ h2 (i+2) s x h3 (by simpa using h4)
theorem jll0:wm ([V.str "grants"]++rest)=false:=by
 show pJ "grants" rest=false
 unfold pJ;rw [show form "grants"=none by decide +kernel]
theorem yp {k:Str}{l:List cW} (hf:form k=some l):wm (.str k::rest)=(decide (rest.length=l.length)&&0x2D):=by
 show pJ k rest=_
 unfold pJ;rw [hf]
theorem jll1 {k:Str}{l:List cW} (hf:form k=some l) (hl:rest.length=l.length):wm (V.str k::(rest++[V.int 1]))=false:=by
 rw [yp hf,decide_eq_false (by simp;lia),Bool.false_and]
theorem jll2 {k:Str}{l:List cW} (hf:form k=some l) (hl:rest.length=l.length):wm (V.str k::rest.dropLast)=false:=by
 have:=(nU hf).1;rw [yp hf,decide_eq_false (by simp;lia),Bool.false_and]
theorem Qo {k:Str}{l:List cW} (hf:form k=some l) {s:cW} (h1:l[i]?=some s) (h2:rest[i]?=some v) (h:jm s v=false):wm (V.str k::rest)=false:=by
 rw [yp hf,Dw (xH h1 h2) h,Bool.false_and,Bool.and_false]
theorem jll3 {k:Str}{l:List cW}{n:Int} (hf:form k=some l) (hn:jm .d (.int n)=false):wm ([V.str k,V.int n]++rest)=false:=by
 have:∀ p∈forms,p.2[0]?=some cW.d:=by decide
 exact Qo (rest:=V.int n::rest) hf (i:=0) (this _ (dH hf)) rfl hn
theorem jll6 {k:Str}{l:List cW} (hf:form k=some l):wm (([V.str k,v]++[V.str "Not one"])++rest)=false:=by
 have:∀ p∈forms,p.2[1]?=some cW.n\/p.2[1]?=some cW.c:=by decide
 rcases this _ (dH hf) with h | h
 ·exact Qo (rest:=v::V.str "Not one"::rest) hf (i:=1) h rfl 0xE
 ·exact Qo (rest:=v::V.str "Not one"::rest) hf (i:=1) h rfl 0xE
inductive HX (vs:List V) (H:Hp) (Q:VK):Prop
 | mk (a:Addr) (r:List V) (n:Int) (_:vs=[.ref a,.int n]) (_:H a=some (.tup r)) (_:Bd r) (_:∀ p r' H',Same H H'->H' p=some (.tup r')->dD r'->wm r'=false->Q (.ref p) H'):HX vs H Q
def W7:Sp:=fun vs H Q _=>HX vs H Q
theorem seven {ps:List Addr}{i:Int} (hl:ps.length=7) (h0:0<=i) (h1:i<7):∃ p∈ps,lK (ps.map V.ref) i=some (.ref p):=by
 obtain ⟨x,e,m⟩:=gk (xs:=ps.map V.ref) h0 (by rw [bL,hl];exact h1);obtain ⟨p,hp,rfl⟩:=List.mem_map.mp m;exact ⟨p,hp,e⟩
inductive Bf (K:PySem.W.Frag) (vs:List V) (H:Hp) (Q:VK):Prop
 | mk (a b:Addr) (ps:List Addr) (rs:List (List V)) (ds:List Int) (_:vs=[.ref a,.ref b]) (_:bf K H a (ps.map V.ref)) (_:bD H ps rs) (_:0<ps.length) (_:(∀ r∈rs,Bd r)) (_:bf K H b (ds.map V.int)) (_:5<=ds.length) (_:∀ p r H',Same H H'->H' p=some (.tup r)->dD r->(wm r=false\/r∈rs)->Q (.ref p) H'):Bf K vs H Q
def Qp (K:PySem.W.Frag):Sp:=fun vs H Q _=>Bf K vs H Q
theorem vA {α β:Type}{F:α->β->Prop}:∀ {l:List α}{l2:List β},Paired F l l2->∀ {a:α},a∈l->∃ b∈l2,F a b
 | _,_,.nil,_,h=>nomatch h
 | _,_,.cons h hs,a,m=>by
  rcases List.mem_cons.mp m with rfl | m
  ·exact ⟨_,List.mem_cons_self ..,h⟩
  ·obtain ⟨b,hb,q⟩:=vA hs m;exact ⟨b,jw _ hb,q⟩
theorem lX (ds:List Int) {i:Int} (h0:0<=i) (h1:i<ds.length):∃ v:Int,lK (ds.map V.int) i=some (.int v)/\v∈ds:=by
 obtain ⟨x,e,m⟩:=gk (xs:=ds.map V.int) h0 (by rw [bL];exact h1);obtain ⟨v,hv,rfl⟩:=List.mem_map.mp m;exact ⟨v,e,hv⟩
section
variable {f:Addr}
theorem a0O:aY ["_law_row", "_law_number"] ["_law_row", "_law_number"] (aH XM):=0x0
theorem Yt (F:gQ K "_law_ill" "_law_ill" XM f fd):aX P w K mg base cU 1 f fd ["_law_row", "_law_number"] W7:=by
 refine F.ok a0O 0xA 0x3
 ·obtain ⟨a,r,n,rfl,_⟩:=h;rfl
 obtain ⟨a,r,n,rfl,ha,hP,kk⟩:=h;refine tM.out ⟨_,aV (bH (lA aU (jg (rR (fJ jB (oO (rQ lu dZ)) (uQ jd (wv 0) (lW cZ) lV))
  (rR (fJ jB (wv 0) (oO (rQ cZ dZ)))
  (wR (uQ jd (wv 0) lV (lW (Nv cZ)))
  (rR (fJ jB (oO (wR (lA bA (wv 0) cZ aR) (a0L (Nv cZ) dZ))) (uQ jd (wv 0) (lW cZ) lV))
  (rR (fJ jB (oO (wR (lA bA (wv 0) cZ aR) (rQ cZ dZ))) (uQ jd (wv 0) (lW cZ) lV))
  (Yp (oO (rQ lu dZ))
  (rR (fJ jB (fJ jB (uQ jd (wv 0) lV (lW cZ)) (oO (rQ lu dZ))) (uQ jd (wv 0) (lW cZ) lV))
   dZ)))))))) (fJ bO (wv 1) cZ) rP)),?_⟩
 obtain ⟨k,l,v,u,rest,rfl,hf,hl,l6,R⟩:=hP.ex;have hlen:(V.str k::v::u::rest).length=l.length+1:=by rw [jT,hl]
 have hs:∀ n:V,([some (V.ref a),some n]:L2.St)[0]?=some (some (.ref a)):=fun _=>rfl;have hrl:rest.length<=4:=by simp at hl;lia
 refine oY (r1:=[V.str "grants"]) yj (fun H' s'=>qy (j:=1) (hs _) (s' _ _ ha) 0x8 0x4) 0x4 (by simp;lia) _ fun p0 H0 s0 e0=>?_;refine oY (Yr (hs _) (s0 _ _ ha)) (fun H' s'=>yj) 0x4 (by simp;lia) _ fun p1 H1 s1 e1=>?_;have t1:=s0.trans s1;refine a0N (hs _) (t1 _ _ ha) 0x4 _ fun p2 H2 s2 e2=>?_;have t2:=t1.trans s2;refine oY (Qk (u:=V.int (-1)) (hs _) (t2 _ _ ha) fun Q q=>⟨_,rfl,q⟩) (fun H' s'=>qy (j:=2) (hs _) (s' _ _ (t2 _ _ ha)) 0x8 0x4) 0x4 (by simp;lia) _ fun p3 H3 s3 e3=>?_;have t3:=t2.trans s3;refine oY (Qk (u:=V.int 10000) (hs _) (t3 _ _ ha) fun Q q=>q) (fun H' s'=>qy (j:=2) (hs _) (s' _ _ (t3 _ _ ha)) 0x8 0x4) 0x4 (by simp;lia) _ fun p4 H4 s4 e4=>?_;have t4:=t3.trans s4;refine yj _ fun p5 H5 s5 e5=>?_;have t5:=t4.trans s5;refine oY (oY (a0M (j:=2) (hs _) (t5 _ _ ha) 0x4) (fun H' s'=>yj) 0x4 0x4) (fun H' s'=>qy (j:=3) (hs _) (s' _ _ (t5 _ _ ha)) 0x8 0x4) 0x4 (by simp;lia) _ fun p6 H6 s6 e6=>?_;have t6:=t5.trans s6;refine ⟨small 0x4,fun q hq=>?_⟩;have t7:=t6.trans (aq hq (.lst [V.ref p0,V.ref p1,V.ref p2,V.ref p3,V.ref p4,V.ref p5,V.ref p6]));obtain ⟨p,hp,ep⟩:=seven (ps:=[p0,p1,p2,p3,p4,p5,p6]) rfl (Int.emod_nonneg n (by decide:(7:Int)≠0)) (Int.emod_lt_of_pos n 0x8);refine ⟨_,rfl,_,_,rfl,rfl,(by show (0:Int)<7;decide),q,_,_,_,rfl,rfl,bf.of ak,ep,?_⟩
 have u6:=aq hq (.lst [V.ref p0,V.ref p1,V.ref p2,V.ref p3,V.ref p4,V.ref p5,V.ref p6]);simp only [List.mem_cons,List.not_mem_nil,or_false] at hp;rcases hp with rfl | rfl | rfl | rfl | rfl | rfl | rfl
 ·exact kk _ _ _ t7 (u6 _ _ (s6 _ _ (s5 _ _ (s4 _ _ (s3 _ _ (s2 _ _ (s1 _ _ e0))))))) (ill0 R) jll0
 ·exact kk _ _ _ t7 (u6 _ _ (s6 _ _ (s5 _ _ (s4 _ _ (s3 _ _ (s2 _ _ e1)))))) (ill1 hf hl l6 R) (jll1 hf hl)
 ·exact kk _ _ _ t7 (u6 _ _ (s6 _ _ (s5 _ _ (s4 _ _ (s3 _ _ e2))))) (ill2 hf R) (jll2 hf hl)
 ·exact kk _ _ _ t7 (u6 _ _ (s6 _ _ (s5 _ _ (s4 _ _ e3)))) (ill3 hf R) (jll3 hf 0x8)
 ·exact kk _ _ _ t7 (u6 _ _ (s6 _ _ (s5 _ _ e4))) (ill3 hf R) (jll3 hf 0x8)
 ·exact kk _ _ _ t7 (u6 _ _ (s6 _ _ e5)) ill5 0xE
 ·exact kk _ _ _ t7 (u6 _ _ e6) (ill6 hf R) (jll6 hf)
theorem Qq:aY ["_law_rows", "_law_d", "_law_row"] ["_law_rows", "_law_d"] (aH NQ):=0x0
theorem Uq (F:gQ K "_law_pick" "_law_pick" NQ f fd) (ml:mg "len"=none)  (G1:aX P w K mg base cU 1 g1 d1 ["_law_row", "_law_number"] W7) (M1:Ms K mg "_law_ill" g1 d1 ["_law_row", "_law_number"]):aX P w K mg base cU 2 f fd ["_law_rows", "_law_d"] (Qp K):=by
 refine F.ok Qq 0xA 0x3
 ·obtain ⟨a,b,ps,rs,ds,rfl,_⟩:=h;rfl
 obtain ⟨a,b,ps,rs,ds,rfl,ha,hps,hr0,hrP,hb,hd,kk⟩:=h;refine tM.out ⟨_,aG (cg (i:=2) Qq.nd rfl 0x5 (lA aU (wv 0) (fJ bO (lA aU (wv 1) cZ aR) (wV rfl ml (wv 0))) rP))
  (aG (cM (aN cu (aQ bO (aK aU (pv 1) au aR) au) au (aZ _)) (aV (bH ⟨bB G1 hr rfl M1.m M1.k M1.b .nil bN (aj (pv 2) (aj (aK aU (pv 1) au aR) ao))⟩)) bI)
  (aV (bH (wv 2)))),?_⟩
 have hl:ps.length=rs.length:=hps.length;obtain ⟨v1,e1,_⟩:=lX ds (i:=1) 0x8 0x1;obtain ⟨v3,e3,_⟩:=lX ds (i:=3) 0x8 0x1;obtain ⟨v4,e4,_⟩:=lX ds (i:=4) 0x8 0x1;have pos:(0:Int)<((ps.map V.ref).length:Int):=by rw [bL];lia
 obtain ⟨x,ex,mx⟩:=gk (xs:=ps.map V.ref) (Int.emod_nonneg v1 (Int.ne_of_gt pos)) (Int.emod_lt_of_pos v1 pos);obtain ⟨p,hp,rfl⟩:=List.mem_map.mp mx;obtain ⟨r,hr1,hpr⟩:=vA hps hp;refine ⟨_,rfl,_,rfl,b,_,_,_,rfl,rfl,hb,e1,_,rfl,a,_,rfl,.inl ha,_,_,rfl,rfl,pos,a,_,_,_,rfl,rfl,ha,ex,?_⟩;refine ⟨_,rfl,b,_,_,_,rfl,rfl,hb,e3,_,_,rfl,rfl,(by show (0:Int)<7;decide),rfl,_,rfl,?_⟩
 refine je (fun c=>?_) (fun c=>?_)
 ·exact ⟨_,rfl,_,rfl,b,_,_,_,rfl,rfl,hb,e4,p,r,_,rfl,hpr,hrP r hr1,fun q r' H' s' eq g w'=>kk q r' H' s' eq g (.inl w')⟩
 ·exact ⟨_,rfl,kk p r H (Same.refl _) hpr (hrP r hr1).g (.inr hr1)⟩
end
structure Ent where
 q:Addr
 n:Int
 p:Addr
 r:List V
structure jr where
 t:Addr
 en:Addr
 fr:Nat
 es:List Ent
def DQ (H:Hp) (e:Ent):Prop:=H e.q=some (.tup [.int e.n,.ref e.p])/\H e.p=some (.tup e.r)
def iV (H:Hp) (a:Addr) (es:List Ent):Prop:=H a=some 0x13/\∀ e∈es,DQ H e
def mK (H:Hp) (s:jr):Prop:=H s.t=some (.tup [.ref s.en,.int (s.fr:Int)])/\iV H s.en s.es
def mdV (en b a:Addr) (fr:Nat):List (Key×V):=[(.inr "entries",.ref en),(.inr "free",.int (fr:Int)),(.inr "behind",.ref b),(.inr "ahead",.ref a)]
structure gK (H:Hp) (m en b a:Addr) (fr:Nat) (es:List Ent) (bs as:List jr):Prop where
 m:H m=some (.dK (mdV en b a fr))
 en:iV H en es
 b:H b=some (.lst 0x20)
 a:H a=some (.lst 0x2C)
 bs:∀ s∈bs,mK H s
 as:∀ s∈as,mK H s
theorem iV.same {es:List Ent} (h:iV H a es) (s:Same H H'):iV H' a es:=⟨s _ _ h.1,fun e he=>⟨s _ _ (h.2 e he).1,s _ _ (h.2 e he).2⟩⟩
theorem gK.same {m:Addr}{fr:Nat}{es:List Ent}{bs as:List jr} (h:gK H m en b a fr es bs as) (s:Same H H'):gK H' m en b a fr es bs as :=
 ⟨s _ _ h.m,h.en.same s,s _ _ h.b,s _ _ h.a,fun x hx=>⟨s _ _ (h.bs x hx).1,(h.bs x hx).2.same s⟩,fun x hx=>⟨s _ _ (h.as x hx).1,(h.as x hx).2.same s⟩⟩
section
variable {m:Addr}{fr:Nat}{es:List Ent}{bs as:List jr}
theorem gK.gE (h:gK H m en b a fr es bs as):gR H m (V.str "entries") (some (.ref en)):=gR.k (k:=.inr "entries") h.m
theorem gK.gF (h:gK H m en b a fr es bs as):gR H m (V.str "free") (some (.int (fr:Int))):=gR.k (k:=.inr "free") h.m
theorem gK.gB (h:gK H m en b a fr es bs as):gR H m (V.str "behind") (some (.ref b)):=gR.k (k:=.inr "behind") h.m
theorem gK.gA (h:gK H m en b a fr es bs as):gR H m (V.str "ahead") (some (.ref a)):=gR.k (k:=.inr "ahead") h.m
end
inductive Tn where
 | en (p:Addr) (r:List V)
 | al (l:Addr) (ps:List Addr) (rs:List (List V))
 | st (n:Int)
 | co (n:Int) (p:Addr) (r:List V)
 | ba
 | ag
def Tn.vs:Tn->List V
 | .en p _=>[.str "enter",.ref p]
 | .al l _ _=>[.str "all",.ref l]
 | .st n=>[.str "strike",.int n]
 | .co n p _=>[.str "correct",.int n,.ref p]
 | .ba=>[.str "back"]
 | .ag=>[.str "again"]
def Tn.At (pool:List (List V)) (H:Hp):Tn->Prop
 | .en p r=>H p=some (.tup r)/\dD r/\(wm r=false\/r∈pool)
 | .al l ps rs=>H l=some (.lst (ps.map V.ref))/\bD H ps rs/\(∀ r∈rs,dD r/\(wm r=false\/r∈pool))/\ps.length<=3
 | .co _ p r=>H p=some (.tup r)/\dD r/\(wm r=false\/r∈pool)
 | _=>True
theorem lY {Q:VK}{es:List Ent} (j:Nat) (g:Ent->V) (hg:∀ e:Ent,([V.int e.n,V.ref e.p])[j]?=some (g e)) (hL:H L=some 0x13) (hes:∀ e∈es,DQ H e) (hl:es.length<=1000) (hD:H D=none)
  (k:∀ H',Same H H'->H' D=some (.lst (es.map g))->Q (.ref D) H'):kI (Vh K L) D σ 1 [] (mZ 0) Gd (Rt (Sh K) (pP 0) (tC (.int (j:Int)))) Q H:=by
 refine gY (K:=K) (a:=L) (xs:=es.map fun e=>V.ref e.q) (fun i ys H7=>ys=(es.take i).map g/\Same H H7/\H7 D=some (.lst ys)) (fun i ys H7 h=>bf.of (h.2.1 _ _ hL)) ⟨rfl,aq hD _,ak⟩ (fun i ys H7 h=>h.2.2) ?_ ?_
 ·rintro i ys H7 x hx ⟨rfl,s7,Qs⟩;rw [iK] at hx;obtain ⟨t,ht,rfl⟩:=Option.map_eq_some_iff.mp hx;have hi:i<es.length:=(List.getElem?_eq_some_iff.mp ht).1;refine 0x21;refine dG ?_;refine ⟨_,rfl,t.q,_,_,_,rfl,rfl,bF.of (s7 _ _ (hes t (jL ht)).1),bh (hg t),Qs,?_,?_,aW s7 hD,ak⟩
  ·rw [bL,List.length_take];exact bY 0x1
  ·rw [List.take_add_one,ht,jO];rfl
 rintro ys H7 ⟨rfl,s7,Qs⟩;rw [bL,List.take_length] at Qs;exact k H7 s7 Qs
theorem ig {α β:Type}{F:α->β->Prop}{x:α}{y:β}:∀ {l:List α}{l2:List β},Paired F l l2->F x y->Paired F (l++[x]) (l2++[y])
 | _,_,.nil,h=>.cons h .nil
 | _,_,.cons h hs,q=>.cons h (ig hs q)
def W8:List Str:=["enter", "all", "strike", "correct", "back", "again"]
inductive Bg (K:PySem.W.Frag) (vs:List V) (H:Hp) (Q:VK):Prop
 | mk (m rw_ d y en b a:Addr) (fr:Nat) (es:List Ent) (bs as:List jr) (ps:List Addr) (rs:List (List V)) (ds:List Int) (ws:List Str) (_:vs=[.ref m,.ref rw_,.ref d,.ref y]) (_:gK H m en b a fr es bs as) (_:es.length<=1000) (_:bf K H rw_ (ps.map V.ref)) (_:bD H ps rs) (_:0<ps.length) (_:(∀ r∈rs,Bd r)) (_:bf K H d (ds.map V.int)) (_:ds.length=8) (_:bf K H y (ws.map V.str)) (_:0<ws.length) (_:(∀ z∈ws,z∈W8)) (_:∀ t T H',Same H H'->H' t=some (.tup (Tn.vs T))->T.At rs H'->(∀ l qs us,T=.al l qs us->H l=none)->Q (.ref t) H'):Bg K vs H Q
def Qt (K:PySem.W.Frag):Sp:=fun vs H Q _=>Bg K vs H Q
section
variable {f:Addr}
theorem yq:aY ["_law_model", "_law_rows", "_law_d", "_law_ways", "_law_way", "_law_numbers", "_law_number"] ["_law_model", "_law_rows", "_law_d", "_law_ways"] (aH zU):=0x0
def scT1:Scope:={ kind:=.function,names:=[(".0",.local),("_law_entry",.local)],isGenerator:=false,isCoroutine:=false }
theorem csT1:dw ["_law_model", "_law_rows", "_law_d", "_law_ways", "_law_way", "_law_numbers", "_law_number"] (aH zU) scT1 ["_law_entry"] [] []:=0x2
theorem Yu:((["_law_entry"]:List Str)++([]:List Str)).Nodup:=by decide +kernel
def scT2:Scope:={ kind:=.function,names:=[(".0",.local),("_law_k",.local),("_law_pick",.globalImplicit),("_law_d",.free),("_law_rows",.free)],isGenerator:=false,isCoroutine:=false }
theorem csT2:dw ["_law_model", "_law_rows", "_law_d", "_law_ways", "_law_way", "_law_numbers", "_law_number"] (aH zU) scT2 ["_law_k"] ["_law_d", "_law_rows"] [2,1]:=0x2
theorem ndT2:((["_law_k"]:List Str)++(["_law_d", "_law_rows"]:List Str)).Nodup:=by decide +kernel
theorem Ur (F:gQ K "_law_turn" "_law_turn" zU f fd) (ml:mg "len"=none) (mr:mg "range"=none)  (G1:aX P w K mg base cU 2 g1 d1 ["_law_rows", "_law_d"] (Qp K)) (M1:Ms K mg "_law_pick" g1 d1 ["_law_rows", "_law_d"]):aX P w K mg base cU 3 f fd ["_law_model", "_law_rows", "_law_d", "_law_ways"] (Qt K):=by
 refine F.ok yq 0xA 0x3
 ·obtain ⟨m,rw_,d,y,en,b,a,fr,es,bs,as,ps,rs,ds,ws,rfl,_⟩:=h;rfl
 obtain ⟨m,rw_,d,y,en,b,a,fr,es,bs,as,ps,rs,ds,ws,rfl,R,hes,hrw,hps,hp0,hrP,hd,hdl,hy,hw0,hwz,kk⟩:=h;refine tM.out ⟨_,aG (cg (i:=4) yq.nd rfl 0x5 (lA aU (wv 3) (fJ bO (lA aU (wv 2) cZ aR) (wV rfl ml (wv 3))) rP))
  (aG (cg (i:=5) yq.nd rfl 0x5 ⟨aQ wz (aQ X8 (eN rfl csT1 (fX 0x2E) (fun s H fp C=>⟨aO (i:=0) Yu rfl 0x5,dN,aK (gj (K:=K)) 0x10 au aR⟩)) au)
   (cL (aj 0x2E (aj au (aj (Ft vZ au) (aj (aQ bZ 0x2E (aQ bO (aK aU (pv 2) au aR) au)) ao)))))⟩)
  (aG (cg (i:=6) yq.nd rfl 0x5 (lA aU (wv 5) (fJ bO (lA aU (wv 2) cZ aR) (wV rfl ml (wv 5))) rP))
  (aG (cM (aN cu (pv 4) aD (aZ _)) (aV (bH ⟨cJ (aj (pv 4) (aj (bB G1 hr rfl M1.m M1.k M1.b .nil bN (aj (pv 1) (aj (pv 2) ao))) ao))⟩)) bI)
  (aG (cM (aN cu (pv 4) aD (aZ _)) (aV (bH ⟨cJ (aj (pv 4) (aj (eN rfl csT2 (dh rfl mr (aj (aQ bO (aK aU (pv 2) au aR) au) ao)) (fun s H fp C=>⟨aO (i:=0) ndT2 rfl 0x5,dN,bB G1 hr rfl M1.m M1.k M1.b .nil bN (aj (pv 2) (aj (cT (za (K:=K)) (pv 1) (cR 0x10) fZ) ao))⟩)) ao))⟩)) bI)
  (aG (cM (aN cu (pv 4) aD (aZ _)) (aV (bH ⟨cJ (aj (pv 4) (aj (pv 6) ao))⟩)) bI)
  (aG (cM (aN cu (pv 4) aD (aZ _)) (aV (bH ⟨cJ (aj (pv 4) (aj (pv 6) (aj (bB G1 hr rfl M1.m M1.k M1.b .nil bN (aj (pv 1) (aj (pv 2) ao))) ao)))⟩)) bI)
  (aV (bH ⟨cJ (aj (pv 4) ao)⟩)))))))),?_⟩
 have wpos:(0:Int)<((ws.map V.str).length:Int):=by rw [bL];lia
 obtain ⟨v0,e0,_⟩:=lX ds (i:=0) 0x8 0x1;obtain ⟨v2,e2,_⟩:=lX ds (i:=2) 0x8 0x1;obtain ⟨v5,e5,_⟩:=lX ds (i:=5) 0x8 0x1;obtain ⟨x,ex,mx⟩:=gk (xs:=ws.map V.str) (Int.emod_nonneg v0 (Int.ne_of_gt wpos)) (Int.emod_lt_of_pos v0 wpos);obtain ⟨z,hz,rfl⟩:=List.mem_map.mp mx;refine ⟨_,rfl,_,rfl,d,_,_,_,rfl,rfl,hd,e0,_,rfl,y,_,rfl,.inl hy,_,_,rfl,rfl,wpos,y,_,_,_,rfl,rfl,hy,ex,?_⟩;refine ⟨_,rfl,m,_,rfl,R.gE,en,rfl,⟨_,bf.of R.en.1⟩,fun D hD=>?_⟩;refine lY 0 (fun e=>V.int e.n) (fun e=>rfl) R.en.1 R.en.2 hes hD fun H1 s1 hD1=>?_;refine ⟨D,3,_,rfl,rfl,hD1,by decide,by decide,by rw [bL];exact small (by show _ * 3<=_;lia),fun D2 hD2=>?_⟩
 have s2:=s1.trans (aq hD2 (.lst (List.replicate (3:Int).toNat (es.map fun e=>V.int e.n)).flatten));have l2:(upd H1 D2 (.lst (List.replicate (3:Int).toNat (es.map fun e=>V.int e.n)).flatten)) D2=some (.lst (List.replicate (3:Int).toNat (es.map fun e=>V.int e.n)).flatten):=ak;generalize upd H1 D2 (.lst (List.replicate (3:Int).toNat (es.map fun e=>V.int e.n)).flatten)=H2 at s2 l2 ⊢;have R2:=R.same s2;refine ⟨_,rfl,m,_,rfl,R2.gF,1,rfl,_,rfl,m,_,rfl,R2.gF,_,rfl,d,_,_,_,rfl,rfl,s2.seq hd,e2,_,_,rfl,rfl,(by show (0:Int)<9;decide),_,_,rfl,rfl,small 0x4,fun D3 Sv=>?_⟩
 have s3:=aq Sv (.lst [V.int (fr:Int),V.int 0,V.int (-1),V.int ((fr:Int)+v2 % 9)]);have l3:(upd H2 D3 (.lst [V.int (fr:Int),V.int 0,V.int (-1),V.int ((fr:Int)+v2 % 9)])) D3=some (.lst [V.int (fr:Int),V.int 0,V.int (-1),V.int ((fr:Int)+v2 % 9)]):=ak;refine ⟨D2,D3,_,_,rfl,rfl,s3 _ _ l2,l3,by rw [len_rep,bL];exact small (by show 3 * _+4<=_;lia),fun D4 Hg=>?_⟩
 have t3:=s2.trans s3;generalize upd H2 D3 (.lst [V.int (fr:Int),V.int 0,V.int (-1),V.int ((fr:Int)+v2 % 9)])=H3 at t3 Hg ⊢;obtain ⟨ns,hns⟩:∃ ns:List Int,(List.replicate (3:Int).toNat (es.map fun e=>V.int e.n)).flatten++[V.int (fr:Int),V.int 0,V.int (-1),V.int ((fr:Int)+v2 % 9)]=ns.map V.int :=
  ⟨es.map (·.n)++(es.map (·.n)++(es.map (·.n)++[(fr:Int),0,-1,(fr:Int)+v2 % 9])),by simp [List.replicate,Function.comp_def]⟩
 have npos:0<ns.length:=by
  have:=congrArg List.length hns;rw [bL,jj] at this;simp at this;lia
 rw [hns];have s4:=t3.trans (aq Hg (.lst (ns.map V.int)));have l4:(upd H3 D4 (.lst (ns.map V.int))) D4=some (.lst (ns.map V.int)):=ak;generalize upd H3 D4 (.lst (ns.map V.int))=H4 at s4 l4 ⊢;have Qu:(0:Int)<((ns.map V.int).length:Int):=by rw [bL];lia
 obtain ⟨nn,en',mn⟩:=gk (xs:=ns.map V.int) (Int.emod_nonneg v2 (Int.ne_of_gt Qu)) (Int.emod_lt_of_pos v2 Qu);obtain ⟨num,_,rfl⟩:=List.mem_map.mp mn;refine ⟨_,rfl,_,rfl,d,_,_,_,rfl,rfl,s4.seq hd,e2,_,rfl,D4,_,rfl,.inl (bf.of l4),_,_,rfl,rfl,Qu,D4,_,_,_,rfl,rfl,bf.of l4,en',?_⟩;have Yv:bD H4 ps rs:=L2.Paired.fQ hps fun a b h=>s4 _ _ h;have hzw:=hwz z hz;unfold W8 at hzw;simp only [List.mem_cons,List.not_mem_nil,or_false] at hzw;refine ⟨_,rfl,rfl,_,rfl,?_⟩;rcases hzw with rfl | rfl | rfl | rfl | rfl | rfl
 ·refine bR ?_;refine ⟨_,rfl,_,rfl,_,rfl,rw_,d,ps,rs,ds,rfl,s4.seq hrw,Yv,hp0,hrP,s4.seq hd,by lia,fun p r H5 s5 e5 g5 q5=>⟨small 0x4,fun t ht=>?_⟩⟩;exact kk t (.en p r) _ ((s4.trans s5).trans (aq ht _)) ak ⟨(aq ht _) _ _ e5,g5,q5⟩ (fun _ _ _ e=>by cases e)
 ·refine aL ?_;have b0:=Int.emod_nonneg v5 (show (4:Int)≠0 by decide)
  have b1:=Int.emod_lt_of_pos v5 (show (0:Int)<4 by decide)
  refine ⟨_,rfl,rfl,_,rfl,bR ?_⟩;refine ⟨_,rfl,_,rfl,d,_,_,_,rfl,rfl,s4.seq hd,e5,_,_,rfl,rfl,(by show (0:Int)<4;decide),_,rfl,by lia,by lia,fun D5 W9=>?_⟩
  refine jD (lo:=0) (n:=(v5 % 4).toNat) (fun i ys H5=>∃ (qs:List Addr) (us:List (List V)),ys=qs.map V.ref/\qs.length=i/\bD H5 qs us/\(∀ r∈us,dD r/\(wm r=false\/r∈rs))/\Same H4 H5/\H5 D5=some (.lst ys)) ⟨[],[],rfl,rfl,.nil,(fun r hr=>nomatch hr),aq W9 _,ak⟩ (fun i ys H5 h=>by obtain ⟨qs,us,_,_,_,_,_,h⟩:=h;exact h) ?_ ?_
  ·rintro i ys H5 hi ⟨qs,us,rfl,hql,hqs,hus,s5,Bh⟩;refine 0x21;refine dG ?_;refine ⟨_,rfl,_,rfl,_,rfl,_,rfl,d,_,rfl,(s4.trans s5).seq hd,fun D6 hD6=>?_⟩;have s6:=aq hD6 (.lst (dj (ds.map V.int) (some (0+(i:Int))) none));have e6:dj (ds.map V.int) (some (0+(i:Int))) none=(ds.drop i).map V.int:=by
    rw [Int.zero_add,Yq _ _ (by rw [bL];lia),List.map_drop]
   rw [e6] at s6 ⊢;have D56:D5≠D6:=aM Bh hD6;refine ⟨rw_,D6,ps,rs,ds.drop i,rfl,(s4.trans (s5.trans s6)).seq hrw,L2.Paired.fQ Yv fun a b h=>s6 _ _ (s5 _ _ h),hp0,hrP,bf.of ak,by rw [List.length_drop];lia,fun p r H7 s7 e7 g7 q7=>⟨s7 _ _ (s6 _ _ Bh),?_,?_⟩⟩
   ·rw [bL];exact bY 0x1
   ·have Us:Same H5 H7:=s6.trans s7;have hD0:H4 D5=none:=W9;refine ⟨qs++[p],us++[r],by simp,by simp [hql],?_,?_,aW (s5.trans Us) W9,ak⟩
    ·have nt:∀ c r,H7 c=some (.tup r)->c≠D5:=fun c r h e=>by rw [e,Us _ _ Bh] at h;cases h
     refine ig (L2.Paired.fQ hqs fun c r h=>?_) ?_
     ·rw [aA (nt c r (Us _ _ h))];exact Us _ _ h
     ·rw [aA (nt p r e7)];exact e7
    ·intro r' hr';rcases List.mem_append.mp hr' with h | h
     ·exact hus r' h
     ·rw [List.mem_singleton.mp h];exact ⟨g7,q7⟩
  ·rintro ys H5 ⟨qs,us,rfl,hql,hqs,hus,s5,Bh⟩;refine ⟨small 0x4,fun t ht=>?_⟩;have s6:=aq ht (.tup [V.str "all",V.ref D5]);exact kk t (.al D5 qs us) _ ((s4.trans s5).trans s6) ak ⟨s6 _ _ Bh,L2.Paired.fQ hqs fun a b h=>s6 _ _ h,hus,by lia⟩ (fun _ _ _ e=>by cases e;exact s4.free W9)
 ·refine aL ?_;refine ⟨_,rfl,rfl,_,rfl,aL ?_⟩;refine ⟨_,rfl,rfl,_,rfl,bR ?_⟩;refine ⟨_,rfl,_,rfl,small 0x4,fun t ht=>?_⟩;exact kk t (.st num) _ (s4.trans (aq ht _)) ak trivial (fun _ _ _ e=>by cases e)
 ·refine aL ?_;refine ⟨_,rfl,rfl,_,rfl,aL ?_⟩;refine ⟨_,rfl,rfl,_,rfl,aL ?_⟩;refine ⟨_,rfl,rfl,_,rfl,bR ?_⟩;refine ⟨_,rfl,_,rfl,_,rfl,_,rfl,rw_,d,ps,rs,ds,rfl,s4.seq hrw,Yv,hp0,hrP,s4.seq hd,by lia,fun p r H5 s5 e5 g5 q5=>⟨small 0x4,fun t ht=>?_⟩⟩;exact kk t (.co num p r) _ ((s4.trans s5).trans (aq ht _)) ak ⟨(aq ht _) _ _ e5,g5,q5⟩ (fun _ _ _ e=>by cases e)
 ·refine aL ?_;refine ⟨_,rfl,rfl,_,rfl,aL ?_⟩;refine ⟨_,rfl,rfl,_,rfl,aL ?_⟩;refine ⟨_,rfl,rfl,_,rfl,aL ?_⟩;refine ⟨_,rfl,small 0x4,fun t ht=>?_⟩;exact kk t .ba _ (s4.trans (aq ht _)) ak trivial (fun _ _ _ e=>by cases e)
 ·refine aL ?_;refine ⟨_,rfl,rfl,_,rfl,aL ?_⟩;refine ⟨_,rfl,rfl,_,rfl,aL ?_⟩;refine ⟨_,rfl,rfl,_,rfl,aL ?_⟩;refine ⟨_,rfl,small 0x4,fun t ht=>?_⟩;exact kk t .ag _ (s4.trans (aq ht _)) ak trivial (fun _ _ _ e=>by cases e)
end
end M
namespace L2
open PySem
theorem grab {a b:TS}{D:Ends} (Pv:L2.St->Hp->Prop) (h2:∀ σ' H',Pv σ' H'->b D σ' H') (h1:(∀ σ' H',Pv σ' H'->b D σ' H')->a { D with nx:=fun σ' H'=>b D σ' H' } σ H):IK a b D σ H:=h1 h2
end L2
namespace M
open PySem L2 PyProof.Rows
abbrev Ct:=Int×Addr×List V
def Ent.c (e:Ent):Ct:=(e.n,e.p,e.r)
def newL (fr:Nat):List Addr->List (List V)->List Ct
 | p::ps,r::rs=>((fr:Int),p,r)::newL (fr+1) ps rs
 | _,_=>[]
def Tn.mp:Tn->List Addr
 | .en p _=>[p]
 | .al _ ps _=>ps
 | _=>[]
def Tn.mr:Tn->List (List V)
 | .en _ r=>[r]
 | .al _ _ rs=>rs
 | _=>[]
def Tn.sel (T:Tn) (l:List Ct):List Ct:=match T with
 | .st n=>l.filter fun x=>decide (x.1≠n)
 | .co n p r=>l.map fun x=>if x.1=n then (x.1,p,r) else x
 | _=>l
def Tn.kd:Tn->Str
 | .en _ _=>"enter" | .al _ _ _=>"all" | .st _=>"strike" | .co _ _ _=>"correct" | .ba=>"back" | .ag=>"again"
theorem Tn.v0 (T:Tn):lK T.vs 0=some (.str T.kd):=by cases T <;> exact bh (j:=0) rfl
def Tn.new (T:Tn) (fr:Nat) (l:List Ct):List Ct:=T.sel (l++newL fr T.mp T.mr)
theorem Tn.rows {T:Tn} (h:T.At pool H):bD H T.mp T.mr:=by
 cases T with
 | en p r=>exact .cons h.1 .nil
 | al l ps rs=>exact h.2.1
 | _=>exact .nil
theorem tE:∀ {fr:Nat}{ps:List Addr}{rs:List (List V)}{H:Hp},bD H ps rs->(newL fr ps rs).length=ps.length
 | _,_,_,_,.nil=>rfl
 | fr,_,_,H,.cons h hs=>by
  show (newL (fr+1) _ _).length+1=_
  rw [tE hs];rfl
theorem HY {H:Hp}:∀ {ps:List Addr}{rs:List (List V)}{fr i:Nat}{p:Addr},bD H ps rs->ps[i]?=some p->∃ r,(newL fr ps rs)[i]?=some (((fr+i:Nat):Int),p,r)/\H p=some (.tup r)
 | _,_,_,_,_,.nil,h=>by simp at h
 | _,_,fr,0,p,.cons (b:=r) h hs,e=>by
  have e':=Option.some.inj ((List.getElem?_cons_zero ..).symm.trans e);subst e';exact ⟨r,rfl,h⟩
 | _,_,fr,i+1,p,.cons h hs,e=>by
  obtain ⟨r,e1,e2⟩:=HY (fr:=fr+1) (i:=i) hs (by simpa using e);refine ⟨r,?_,e2⟩
  show (newL (fr+1) _ _)[i]?=_
  rw [e1]
  congr 3
  lia
theorem Tn.At.same {T:Tn} (h:T.At pool H) (s:Same H H'):T.At pool H':=by
 cases T with
 | en p r=>exact ⟨s _ _ h.1,h.2⟩
 | al l ps rs=>exact ⟨s _ _ h.1,L2.Paired.fQ h.2.1 fun a b h=>s _ _ h,h.2.2⟩
 | co n p r=>exact ⟨s _ _ h.1,h.2⟩
 | _=>exact h
theorem Tn.DR {T:Tn} (h:T.At pool H):T.mp.length<=3:=by
 cases T with
 | en p r=>simp [Tn.mp]
 | al l ps rs=>exact h.2.2.2
 | _=>simp [Tn.mp]
inductive Bj (vs:List V) (H:Hp) (Q:VK):Prop
 | mk (m t en b a:Addr) (fr:Nat) (es:List Ent) (bs as:List jr) (T:Tn) (pool:List (List V)) (_:vs=[.ref m,.ref t]) (_:gK H m en b a fr es bs as) (_:es.length<=900) (_:H t=some (.tup T.vs)) (_:T.At pool H) (_:∀ u en' es' H',Same H H'->H' u=some (.tup [.ref en',.int ((fr+T.mp.length:Nat):Int)])->iV H' en' es'->H en'=none->es'.map Ent.c=T.new fr 0x17->Q (.ref u) H'):Bj vs H Q
def DW:Sp:=fun vs H Q _=>Bj vs H Q
section
variable {f:Addr}
abbrev nNE:List Str:=["_law_model", "_law_turn_here", "_law_entries", "_law_free", "_law_more", "_law_row"]
theorem tY:aY nNE ["_law_model", "_law_turn_here"] (aH zV):=0x0
def scK1:Scope:={ kind:=.function,names:=[(".0",.local),("_law_entry",.local),("_law_turn_here",.free)],isGenerator:=false,isCoroutine:=false }
theorem csK1:dw nNE (aH zV) scK1 ["_law_entry"] ["_law_turn_here"] [1]:=0x2
theorem ndK1:((["_law_entry"]:List Str)++(["_law_turn_here"]:List Str)).Nodup:=by decide +kernel
def scK2:Scope:={ kind:=.function,names:=[(".0",.local),("_law_entry",.local),("int",.globalImplicit),("_law_turn_here",.free)],isGenerator:=false,isCoroutine:=false }
theorem csK2:dw nNE (aH zV) scK2 ["_law_entry"] ["_law_turn_here"] [1]:=0x2
theorem Ut (F:gQ K "_law_new_entries" "_law_new_entries" zV f fd) (Kc:mg "list"=none) (mt:mg "int"=none):aX P w K mg base cU 1 f fd ["_law_model", "_law_turn_here"] DW:=by
 refine F.ok tY 0xA 0x3
 ·obtain ⟨m,t,en,b,a,fr,es,bs,as,T,pool,rfl,_⟩:=h;rfl
 obtain ⟨m,t,en,b,a,fr,es,bs,as,T,pool,rfl,R,hes,ht,hT,kk⟩:=h;refine tM.out ⟨_,aG (cg (i:=2) tY.nd rfl 0x5 ⟨bM cN rfl Kc eO (aj 0x2E ao)⟩)
  (aG (cg (i:=3) tY.nd rfl 0x5 ⟨cC (u1 hr) 0x10 aD 0x9⟩)
  (aG (cg (i:=4) tY.nd rfl 0x5 (jg dZ))
  (aG (cM 0xD (aV (cg (i:=4) tY.nd rfl 0x5 (jg (wR (lA bA (wv 1) cZ aR) dZ)))) bI)
  (aG (cM 0xD (aV (cg (i:=4) tY.nd rfl 0x5 (lA bA (wv 1) cZ aR))) bI)
  (aG (rT PassesOwn.never rfl (fX (pv 4)) (aO (i:=5) tY.nd rfl 0x5)
   (aG ⟨bW (gw PySem.F.plainAttrs_list PySem.F.slot_list_append PySem.F.type_list_append c7 (pv 2) (aj (cJ (aj (pv 3) (aj (pv 5) ao))) ao))⟩
   (aV (cg (i:=3) tY.nd rfl 0x5 (fJ bZ (wv 3) cZ)))))
  (aG (cM 0xD (aV ⟨qe (i:=2) rfl csK1 (fX (pv 2)) (fun s H fp C=>⟨aO (i:=0) ndK1 rfl 0x5,wB (aN mq (aK (gj (K:=K)) 0x10 au aR) (aK (gj (K:=K)) (pv 1) au aR) (aZ _)),pv 0⟩) tY.nd rfl 0x5⟩) bI)
  (aG (cM 0xD (aV ⟨qe (i:=2) rfl csK2 (fX (pv 2)) (fun s H fp C=>⟨aO (i:=0) ndK1 rfl 0x5,dN,cJ (aj (aK (gj (K:=K)) 0x10 au aR) (aj
    (aK (iB (K:=K)) (cL (aj (aK (gj (K:=K)) 0x10 au aR) (aj (aK (gj (K:=K)) (pv 1) au aR) ao))) (bM oG rfl mt wD (aj (fB cu (aK (gj (K:=K)) 0x10 au aR) (aK (gj (K:=K)) (pv 1) au aR) (aZ _)) ao)) 0x9) ao))⟩) tY.nd rfl 0x5⟩) bI)
  (aV (bH ⟨cJ (aj (pv 2) (aj (pv 3) ao))⟩))))))))),?_⟩
 refine ⟨_,rfl,m,_,rfl,R.gE,en,_,rfl,.inl (bf.of R.en.1),fun L hL=>?_⟩;have s1:=aq hL 0x13;have L1:(upd H L 0x13) L=some 0x13:=ak;generalize upd H L 0x13=H1 at s1 L1 ⊢;refine ⟨_,rfl,m,_,rfl,(R.same s1).gF,?_⟩;refine ⟨small 0x4,fun M0 hM0=>?_⟩;have s2:=s1.trans (aq hM0 (.lst []));have Wa:(upd H1 M0 (.lst [])) L=some 0x13:=(aq hM0 _) _ _ L1;have M2:(upd H1 M0 (.lst [])) M0=some (.lst []):=ak;have nM:M0≠L:=fun e=>by rw [e,L1] at hM0;cases hM0
 generalize upd H1 M0 (.lst [])=H2 at s2 Wa M2 ⊢;have t2:=s2 _ _ ht;dsimp only [mZ];refine grab (a:=vX _ _ _) (fun σ' H'=>∃ mo,σ'=[some (.ref m),some (.ref t),some (.ref L),some (.int (fr:Int)),some (.ref mo),none]/\Same H H'/\H' L=some 0x13/\mo≠L/\((∀ l ps rs,T≠.al l ps rs)->H' mo=some (.lst (T.mp.map V.ref)))) ?_ fun go=>?_
 rotate_left
 ·refine ⟨_,rfl,t,_,_,_,rfl,rfl,bF.of t2,T.v0,rfl,_,rfl,?_⟩;cases T with
  | en p r=>exact bR ⟨_,rfl,t,_,_,_,rfl,rfl,bF.of t2,bh (j:=1) rfl,small 0x4,fun M1 hM1=>go _ _ ⟨M1,rfl,s2.trans (aq hM1 _),(aq hM1 _) _ _ Wa,(fun e=>by rw [e,Wa] at hM1;cases hM1),fun _=>ak⟩⟩
  | al l ps rs=>exact aL (go _ _ ⟨M0,rfl,s2,Wa,nM,fun h=>absurd rfl (h l ps rs)⟩)
  | st n=>exact aL (go _ _ ⟨M0,rfl,s2,Wa,nM,fun _=>M2⟩)
  | co n p r=>exact aL (go _ _ ⟨M0,rfl,s2,Wa,nM,fun _=>M2⟩)
  | ba=>exact aL (go _ _ ⟨M0,rfl,s2,Wa,nM,fun _=>M2⟩)
  | ag=>exact aL (go _ _ ⟨M0,rfl,s2,Wa,nM,fun _=>M2⟩)
 rintro σ' H3 ⟨mo,rfl,s3,L3,nm,hmo⟩;refine grab (a:=vX _ _ _) (fun σ' H'=>∃ mo,σ'=[some (.ref m),some (.ref t),some (.ref L),some (.int (fr:Int)),some (.ref mo),none]/\Same H H'/\H' L=some 0x13/\mo≠L/\H' mo=some (.lst (T.mp.map V.ref))) ?_ fun go=>?_
 rotate_left
 ·refine ⟨_,rfl,t,_,_,_,rfl,rfl,bF.of (s3 _ _ ht),T.v0,rfl,_,rfl,?_⟩;cases T with
  | en p r=>exact aL (go _ _ ⟨mo,rfl,s3,L3,nm,hmo (by intros;nofun)⟩)
  | al l ps rs=>exact bR ⟨_,rfl,t,_,_,_,rfl,rfl,bF.of (s3 _ _ ht),bh (j:=1) rfl,go _ _ ⟨l,rfl,s3,L3,(fun e=>by rw [<- e,hT.1] at hL;cases hL),s3 _ _ hT.1⟩⟩
  | st n=>exact aL (go _ _ ⟨mo,rfl,s3,L3,nm,hmo (by intros;nofun)⟩)
  | co n p r=>exact aL (go _ _ ⟨mo,rfl,s3,L3,nm,hmo (by intros;nofun)⟩)
  | ba=>exact aL (go _ _ ⟨mo,rfl,s3,L3,nm,hmo (by intros;nofun)⟩)
  | ag=>exact aL (go _ _ ⟨mo,rfl,s3,L3,nm,hmo (by intros;nofun)⟩)
 clear hmo nm mo L3 s3 H3;rintro σ' H4 ⟨mo,rfl,s4,L4,nm,hmo⟩;have hml:=Tn.DR hT;refine ⟨_,rfl,mo,rfl,⟨_,bf.of hmo⟩,qM (K:=K) (a:=mo) (xs:=T.mp.map V.ref) (fun i σ Hx=>∃ (ns:List Ent) (u:Option V),σ=[some (.ref m),some (.ref t),some (.ref L),some (.int ((fr+i:Nat):Int)),some (.ref mo),u]/\Same H Hx/\Hx L=some (.lst ((es++ns).map fun e=>V.ref e.q))/\Hx mo=some (.lst (T.mp.map V.ref)) /\
  ns.map Ent.c=(newL fr T.mp T.mr).take i/\(∀ e∈ns,DQ Hx e)/\ns.length=i) ⟨[],none,rfl,s4,by rw [List.append_nil];exact L4,hmo,rfl,(fun e he=>nomatch he),rfl⟩ (fun i σ Hx _ h=>by obtain ⟨ns,u,_,_,_,h,_⟩:=h;exact bf.of h) ?_ ?_⟩
 ·rintro i x σ Hx hx ⟨ns,u,rfl,sx,Lx,mx,hns,oks,hnl⟩;rw [iK] at hx;obtain ⟨p,hp,rfl⟩:=Option.map_eq_some_iff.mp hx;have hi:i<T.mp.length:=(List.getElem?_eq_some_iff.mp hp).1;obtain ⟨r,er,hpr⟩:=HY (fr:=fr) (Tn.rows hT) hp;refine ⟨_,rfl,.inl ⟨rfl,_,bf.of Lx⟩,_,rfl,_,rfl,small 0x4,fun q hq=>?_⟩;have s5:=aq hq (.tup [V.int ((fr+i:Nat):Int),V.ref p]);have q5:(upd Hx q (.tup [V.int ((fr+i:Nat):Int),V.ref p])) q=some (.tup [V.int ((fr+i:Nat):Int),V.ref p]):=ak;generalize upd Hx q (.tup [V.int ((fr+i:Nat):Int),V.ref p])=H5 at s5 q5 ⊢;refine ⟨L,_,_,rfl,rfl,s5 _ _ Lx,by rw [bL,jj];exact bY 0x1,?_⟩;have nt:∀ c r,H5 c=some (.tup r)->c≠L:=fun c r h e=>by rw [e,s5 _ _ Lx] at h;cases h
  refine ⟨_,rfl,_,_,rfl,rfl,ns++[⟨q,((fr+i:Nat):Int),p,r⟩],some (.ref p),?_,aW (sx.trans s5) hL,?_,?_,?_,?_,by simp [hnl]⟩
  ·rw [<- show (((fr+i:Nat):Int)+1)=((fr+(i+1):Nat):Int) by lia];rfl
  ·rw [ak];simp
  ·rw [aA nm];exact s5 _ _ mx
  ·rw [jO,hns,List.take_add_one,er];rfl
  ·intro e he;rcases List.mem_append.mp he with h | h
   ·have o:=oks e h;exact ⟨by rw [aA (nt _ _ (s5 _ _ o.1))];exact s5 _ _ o.1,by rw [aA (nt _ _ (s5 _ _ o.2))];exact s5 _ _ o.2⟩
   ·rw [List.mem_singleton.mp h];have o2:=s5 _ _ (sx _ _ hpr);exact ⟨by rw [aA (nt _ _ q5)];exact q5,by rw [aA (nt _ _ o2)];exact o2⟩
 rintro σ Hx ⟨ns,u,rfl,sx,Lx,mx,hns,oks,hnl⟩;rw [bL] at hns hnl;rw [List.take_of_length_le (by rw [tE (Tn.rows hT)];exact Nat.le_refl _)] at hns;have BJ:∀ e∈es++ns,DQ Hx e:=fun e he=>by
  rcases List.mem_append.mp he with h | h
  ·exact ⟨sx _ _ (R.en.2 e h).1,sx _ _ (R.en.2 e h).2⟩
  ·exact oks e h
 have ec:(es++ns).map Ent.c=es.map Ent.c++newL fr T.mp T.mr:=by rw [jO,hns]
 have hlen:(es++ns).length<=903:=by rw [jj];lia
 generalize es++ns=fs at Lx BJ ec hlen;rw [bL];have tx:=sx _ _ ht;have fin:∀ (en':Addr) (fs':List Ent) (Hy:Hp),Same Hx Hy->Hy en'=some (.lst (fs'.map fun e=>V.ref e.q))->(∀ e∈fs',DQ Hy e)->H en'=none->fs'.map Ent.c=T.sel (fs.map Ent.c)->∀ t',Hy t'=none->Q (.ref t') (upd Hy t' (.tup [V.ref en',V.int ((fr+T.mp.length:Nat):Int)])):=fun en' fs' Hy sy h1 h2 h3 h4 t' ht' =>
  kk t' en' fs' _ ((sx.trans sy).trans (aq ht' _)) ak ⟨(aq ht' _) _ _ h1,fun e he=>⟨(aq ht' _) _ _ (h2 e he).1,(aq ht' _) _ _ (h2 e he).2⟩⟩ h3 (by rw [h4,ec];rfl)
 refine ⟨_,rfl,t,_,_,_,rfl,rfl,bF.of tx,T.v0,rfl,_,rfl,?_⟩;cases T with
 | en p r=>exact aL 0x19
 | al l ps rs=>exact aL 0x19
 | ba=>exact aL 0x19
 | ag=>exact aL 0x19
 | st n =>
  refine bR ?_;refine ⟨_,rfl,L,rfl,⟨_,bf.of Lx⟩,fun D hD=>?_⟩;refine gY (K:=K) (a:=L) (xs:=fs.map fun e=>V.ref e.q) (fun i ys H7=>ys=((fs.take i).filter fun e=>decide (e.n≠n)).map (fun e=>V.ref e.q)/\Same Hx H7/\H7 D=some (.lst ys)) (fun i ys H7 h=>bf.of (h.2.1 _ _ Lx)) ⟨rfl,aq hD _,ak⟩ (fun i ys H7 h=>h.2.2) ?_ ?_
  ·rintro i ys H7 x hx ⟨rfl,s7,Qs⟩;rw [iK] at hx;obtain ⟨e,he,rfl⟩:=Option.map_eq_some_iff.mp hx;have hi:i<fs.length:=(List.getElem?_eq_some_iff.mp he).1;refine 0x21;refine ⟨_,rfl,e.q,_,_,_,rfl,rfl,bF.of (s7 _ _ (BJ e (jL he)).1),at0 _ _,_,rfl,t,_,_,_,rfl,rfl,bF.of (s7 _ _ tx),bh (j:=1) rfl,rfl,_,rfl,?_⟩;have et:(fs.take (i+1))=fs.take i++[e]:=by rw [List.take_add_one,he];rfl
   by_cases hn:e.n=n
   ·refine uz (show V.int e.n=V.int n by rw [hn]) ?_
    refine ⟨?_,s7,Qs⟩;rw [et,List.filter_append,List.filter_cons_of_neg (by simp [hn]),List.filter_nil,List.append_nil]
   ·rw [show (!decide (V.int e.n=V.int n))=true by rw [decide_eq_false fun h=>hn (by injection h)];rfl]
    refine bR ?_;refine ⟨_,rfl,Qs,?_,?_,aW s7 hD,ak⟩
    ·rw [bL];have:=List.length_filter_le (fun e:Ent=>decide (e.n≠n)) (fs.take i);rw [List.length_take] at this;exact bY 0x1
    ·rw [et,List.filter_append,List.filter_cons_of_pos (by simp [hn]),List.filter_nil,jO];rfl
  rintro ys Hy ⟨rfl,sy,hDy⟩;rw [bL,List.take_length] at hDy;have ty:=sy _ _ tx;refine ⟨_,rfl,t,_,_,_,rfl,rfl,bF.of ty,at0 _ _,rfl,_,rfl,aL ⟨_,rfl,_,rfl,small 0x4,fin D _ Hy sy hDy (fun e he=>?_) (sx.free hD) ?_⟩⟩
  ·have o:=BJ e (List.mem_filter.mp he).1;exact ⟨sy _ _ o.1,sy _ _ o.2⟩
  ·show _=List.filter _ _
   rw [List.filter_map];rfl
 | co n p r =>
  refine aL ?_;refine ⟨_,rfl,t,_,_,_,rfl,rfl,bF.of tx,at0 _ _,rfl,_,rfl,bR ?_⟩;refine ⟨_,rfl,L,rfl,⟨_,bf.of Lx⟩,fun D hD=>?_⟩;have hpr:Hx p=some (.tup r):=sx _ _ hT.1;refine gY (K:=K) (a:=L) (xs:=fs.map fun e=>V.ref e.q) (fun i ys H7=>∃ gs:List Ent,ys=gs.map (fun e=>V.ref e.q)/\gs.map Ent.c=((fs.take i).map Ent.c).map (fun x=>if x.1=n then (x.1,p,r) else x)/\(∀ e∈gs,DQ H7 e)/\gs.length=min i fs.length/\Same Hx H7/\H7 D=some (.lst ys)) (fun i ys H7 h=>by obtain ⟨gs,_,_,_,_,h,_⟩:=h;exact bf.of (h _ _ Lx)) ⟨[],rfl,rfl,(fun e he=>nomatch he),by simp,aq hD _,ak⟩ (fun i ys H7 h=>by obtain ⟨gs,_,_,_,_,_,h⟩:=h;exact h) ?_ ?_
  ·rintro i ys H7 x hx ⟨gs,rfl,hgs,ogs,hgl,s7,Qs⟩;rw [iK] at hx;obtain ⟨e,he,rfl⟩:=Option.map_eq_some_iff.mp hx;have hi:i<fs.length:=(List.getElem?_eq_some_iff.mp he).1;have oe:=BJ e (jL he);refine 0x21;refine dG ?_;refine ⟨_,rfl,e.q,_,_,_,rfl,rfl,bF.of (s7 _ _ oe.1),at0 _ _,_,rfl,e.q,_,_,_,rfl,rfl,bF.of (s7 _ _ oe.1),bh (j:=1) rfl,_,rfl,t,_,_,_,rfl,rfl,bF.of (s7 _ _ tx),bh (j:=2) rfl,small 0x4,fun l8 h8=>?_⟩;have s8:=aq h8 (.lst [V.ref e.p,V.ref p]);have e8:(upd H7 l8 (.lst [V.ref e.p,V.ref p])) l8=some (.lst [V.ref e.p,V.ref p]):=ak;generalize upd H7 l8 (.lst [V.ref e.p,V.ref p])=H8 at s8 e8 ⊢;refine ⟨_,rfl,e.q,_,_,_,rfl,rfl,bF.of (s8 _ _ (s7 _ _ oe.1)),at0 _ _,_,rfl,t,_,_,_,rfl,rfl,bF.of (s8 _ _ (s7 _ _ tx)),bh (j:=1) rfl,rfl,.inr ⟨_,rfl,l8,_,_,V.ref (if e.n=n then p else e.p),rfl,rfl,bf.of e8,?_,small 0x4,fun q hq=>?_⟩⟩
   ·by_cases hn:e.n=n
    ·rw [if_pos hn,hn,decide_eq_true rfl];exact bh (j:=1) rfl
    ·rw [if_neg hn,decide_eq_false fun h=>hn (by injection h)];exact bh (j:=0) rfl
   ·have s9:=s8.trans (aq hq (.tup [V.int e.n,V.ref (if e.n=n then p else e.p)]))
    have q9:(upd H8 q (.tup [V.int e.n,V.ref (if e.n=n then p else e.p)])) q=some (.tup [V.int e.n,V.ref (if e.n=n then p else e.p)]):=ak
    generalize upd H8 q (.tup [V.int e.n,V.ref (if e.n=n then p else e.p)])=H9 at s9 q9 ⊢
    have D9:=s9 _ _ Qs;have nt:∀ c r,H9 c=some (.tup r)->c≠D:=fun c r h e=>by rw [e,D9] at h;cases h
    have up:∀ c r,H9 c=some (.tup r)->∀ o,(upd H9 D o) c=some (.tup r):=fun c r h o=>by rw [aA (nt c r h)];exact h
    refine ⟨D9,by rw [bL];exact bY 0x1,gs++[⟨q,e.n,if e.n=n then p else e.p,if e.n=n then r else e.r⟩],by simp,?_,?_,by simp;lia,aW (s7.trans s9) hD,ak⟩
    ·rw [jO,hgs,List.take_add_one,he];simp only [Option.toList_some,jO,List.map_cons,List.map_nil,Ent.c]
     by_cases hn:e.n=n
     ·simp [hn]
     ·simp [hn]
    ·intro e' he';rcases List.mem_append.mp he' with h | h
     ·have o:=ogs e' h;exact ⟨up _ _ (s9 _ _ o.1) _,up _ _ (s9 _ _ o.2) _⟩
     ·rw [List.mem_singleton.mp h];refine ⟨up _ _ q9 _,?_⟩
      by_cases hn:e.n=n
      ·simp only [if_pos hn];exact up _ _ (s9 _ _ (s7 _ _ hpr)) _
      ·simp only [if_neg hn];exact up _ _ (s9 _ _ (s7 _ _ oe.2)) _
  rintro ys Hy ⟨gs,rfl,hgs,ogs,hgl,sy,hDy⟩;rw [bL,List.take_length] at hgs;exact ⟨_,rfl,_,rfl,small 0x4,fin D gs Hy sy hDy ogs (sx.free hD) hgs⟩
end
end M
namespace L2
open PySem
section
variable {j0 j1 j2 j3:Nat}{p0 p1 p3:Pos}{e1 e2 e3 e4:Expr}{t4:TE}
abbrev Qw (t1 t2 t3 t4:TE):List (TE×TE):=[(tC (.str "entries"),t1),(tC (.str "free"),t2),(tC (.str "behind"),t3),(tC (.str "ahead"),t4)]
theorem Uu (h1:PE X e1 t1) (h2:PE X e2 t2) (h3:PE X e3 t3) (h4:PE X e4 t4):PE X (.Dict [some (.Constant (.str "entries") j0 p0),some (.Constant (.str "free") j1 p1),some (.Constant (.str "behind") j2 p2),some (.Constant (.str "ahead") j3 p3)] [e1,e2,e3,e4] q) (nO (Qw t1 t2 t3 t4)):=by
 refine wN ?h ?a ?b ?c ?d
 case a=>exact rfl
 case b=>exact rfl
 case c=>exact List.cons_ne_nil _ _
 case d=>exact Nat.le_of_ble_eq_true rfl
 case h=>exact cP aD h1 (cP aD h2 (cP aD h3 (cP aD h4 wM)))
theorem qz (h1:WE X e1 t1) (h2:WE X e2 t2) (h3:WE X e3 t3) (h4:WE X e4 t4):WE X (.Dict [some (.Constant (.str "entries") j0 p0),some (.Constant (.str "free") j1 p1),some (.Constant (.str "behind") j2 p2),some (.Constant (.str "ahead") j3 p3)] [e1,e2,e3,e4] q) (nO (Qw t1 t2 t3 t4)):=⟨Uu h1.h h2.h h3.h h4.h⟩
end
end L2
namespace M
open PySem L2 PyProof.Rows
def F4 (Q:VK) (d:Addr) (v1 v2 v3 v4:V) (H4:Hp):Prop:=H4 d=some (.dK [])/\∃ kvs:List (Key×V),[(V.str "entries",v1),(V.str "free",v2),(V.str "behind",v3),(V.str "ahead",v4)]=kvs.map (fun kv=>(kV kv.1,kv.2))/\kvs.length<=15/\Q (.ref d) (upd H4 d (.dK (dY [] kvs)))
theorem F4.mk {Q:VK}{v1 v2 v3 v4:V} (h:H4 d=some (.dK [])) (q:Q (.ref d) (upd H4 d (.dK [(.inr "entries",v1),(.inr "free",v2),(.inr "behind",v3),(.inr "ahead",v4)]))):F4 Q d v1 v2 v3 v4 H4 :=
 ⟨h,[(.inr "entries",v1),(.inr "free",v2),(.inr "behind",v3),(.inr "ahead",v4)],rfl,Nat.le_of_ble_eq_true rfl,q⟩
theorem qC {t4:TE}{Q:VK} (h:∀ d,H d=none->t1 σ (upd H d (.dK [])) fun v1 H1=>t2 σ H1 fun v2 H2=>t3 σ H2 fun v3 H3=>t4 σ H3 fun v4 H4=>F4 Q d v1 v2 v3 v4 H4):nO (Qw t1 t2 t3 t4) σ H Q:=h
theorem yr {fr:Nat}{es:List Ent}{bs as:List jr} (hd:H d=none) (s:Same H H4) (h4:H4 d=some (.dK [])) (he:iV H4 en es) (hb:H4 b=some (.lst 0x20)) (ha:H4 a=some (.lst 0x2C)) (kb:∀ s∈bs,mK H4 s) (ka:∀ s∈as,mK H4 s) :
  Same H (upd H4 d (.dK (mdV en b a fr)))/\gK (upd H4 d (.dK (mdV en b a fr))) d en b a fr es bs as:=by
 have up:∀ c o,H4 c=some o->(∀ k,o≠.dK k)->(upd H4 d (.dK (mdV en b a fr))) c=some o:=fun c o h hn=>by
  rw [aA fun e=>?_]
  ·exact h
  ·rw [e,h4] at h;injection h with h;exact hn _ h.symm
 have en':∀ {en:Addr}{es:List Ent},iV H4 en es->iV (upd H4 d (.dK (mdV _ b a fr))) en es:=fun h=>⟨up _ _ h.1 (by nofun),fun e he=>⟨up _ _ (h.2 e he).1 (by nofun),up _ _ (h.2 e he).2 (by nofun)⟩⟩;exact ⟨aW s hd,⟨ak,en' he,up _ _ hb (by nofun),up _ _ ha (by nofun),fun x hx=>⟨up _ _ (kb x hx).1 (by nofun),en' (kb x hx).2⟩,fun x hx=>⟨up _ _ (ka x hx).1 (by nofun),en' (ka x hx).2⟩⟩⟩
def Ia:Sp:=fun vs H Q _=>vs=[]/\∀ m en b a H',Same H H'->H en=none->H b=none->H a=none->gK H' m en b a 1 [] [] []->Q (.ref m) H'
theorem mK.same {s:jr} (h:mK H s) (sm:Same H H'):mK H' s:=⟨sm _ _ h.1,h.2.same sm⟩
section
variable {f:Addr}
theorem Uv:aY [] [] (aH Dj):=0x0
theorem Qx (F:gQ K "_law_plain_model" "_law_plain_model" Dj f fd):aX P w K mg base cU 1 f fd [] Ia:=by
 refine F.ok Uv 0xA 0x3
 ·obtain ⟨rfl,_⟩:=h;rfl
 obtain ⟨rfl,k⟩:=h;refine tM.out ⟨_,aV (bH (qz (jg dZ) cZ (jg dZ) (jg dZ))),?_⟩;refine qC fun d hd=>?_;have s0:=aq hd (.dK []);refine ⟨small 0x4,fun en he=>⟨small 0x4,fun b hb=>⟨small 0x4,fun a ha=>?_⟩⟩⟩;have s1:=aq he (.lst []);have s2:=aq hb (.lst []);have s3:=aq ha (.lst []);have d3:=s3 _ _ (s2 _ _ (s1 _ _ (show (upd H d (.dK [])) d=some (.dK []) from ak)))
 obtain ⟨r1,r2⟩:=yr (fr:=1) (en:=en) (b:=b) (a:=a) (es:=[]) (bs:=[]) (as:=[]) hd (s0.trans (s1.trans (s2.trans s3))) d3 ⟨s3 _ _ (s2 _ _ ak),(fun e he=>nomatch he)⟩ (s3 _ _ ak) ak (fun e he=>nomatch he) (fun e he=>nomatch he)
 exact F4.mk d3 (k d en b a _ r1 (s0.free he) (s0.free (s1.free hb)) (s0.free (s1.free (s2.free ha))) r2)
def Uw (H:Hp) (en:Addr) (fr:Nat) (es:List Ent) (bs as:List jr) (en':Addr) (fr':Nat) (es':List Ent) (bs' as':List jr):Tn->Prop
 | .ba=>∃ oZ s t,bs=oZ++[s]/\en'=s.en/\fr'=s.fr/\es'=s.es/\bs'=oZ/\as'=as++[⟨t,en,fr,es⟩]
 | .ag=>∃ as0 s t,as=as0++[s]/\en'=s.en/\fr'=s.fr/\es'=s.es/\bs'=bs++[⟨t,en,fr,es⟩]/\as'=as0
 | T=>∃ t,H en'=none/\fr'=fr+T.mp.length/\es'.map Ent.c=T.new fr 0x17/\bs'=bs++[⟨t,en,fr,es⟩]/\as'=[]
theorem Tn.Ux {T:Tn} (h:T≠.ba):decide (V.str T.kd=V.str "back")=false:=by
 cases T with
 | ba=>exact absurd rfl h
 | _=>rfl
theorem Tn.Qy {T:Tn} (h:T≠.ag):decide (V.str T.kd=V.str "again")=false:=by
 cases T with
 | ag=>exact absurd rfl h
 | _=>rfl
theorem Uw.mk {fr:Nat}{es es':List Ent}{bs as bs' as':List jr}{T:Tn} (h1:T≠.ba) (h2:T≠.ag) (h:∃ t,H en'=none/\fr'=fr+T.mp.length/\es'.map Ent.c=T.new fr 0x17/\bs'=bs++[⟨t,en,fr,es⟩]/\as'=[]):Uw H en fr es bs as en' fr' es' bs' as' T:=by
 cases T with
 | ba=>exact absurd rfl h1
 | ag=>exact absurd rfl h2
 | _=>exact h
theorem Qz {α β:Type}{f:α->β}{l:List α}{x:α}:((l++[x]).map f)[((l++[x]).map f).length - 1]?=some (f x):=by
 rw [bL,jj,List.length_singleton,Nat.add_sub_cancel,jO,List.getElem?_append_right (by rw [bL];exact Nat.le_refl _),bL,Nat.sub_self];rfl
theorem QB {α β:Type}{f:α->β}{l:List α}{x:α}:((l++[x]).map f).dropLast=l.map f:=by
 rw [jO];exact List.dropLast_concat
inductive vB (vs:List V) (H:Hp) (Q:VK):Prop
 | mk (m t en b a:Addr) (fr:Nat) (es:List Ent) (bs as:List jr) (T:Tn) (pool:List (List V)) (_:vs=[.ref m,.ref t]) (_:gK H m en b a fr es bs as) (_:es.length<=900) (_:bs.length<=900) (_:as.length<=900) (_:H t=some (.tup T.vs)) (_:T.At pool H) (_:(T=.ba->bs≠[])) (_:(T=.ag->as≠[])) (_:∀ m' en' b' a' fr' es' bs' as' H',Same H H'->gK H' m' en' b' a' fr' es' bs' as'->H b'=none->H a'=none->Uw H en fr es bs as en' fr' es' bs' as' T->Q (.ref m') H'):vB vs H Q
def yt:Sp:=fun vs H Q _=>vB vs H Q
theorem gn:aY ["_law_model", "_law_turn_here", "_law_now", "_law_behind", "_law_ahead", "_law_entries", "_law_free"] ["_law_model", "_law_turn_here"] (aH Di):=0x0
theorem QC (F:gQ K "_law_moved" "_law_moved" Di f fd) (Kc:mg "list"=none)  (G1:aX P w K mg base cU 1 g1 d1 ["_law_model", "_law_turn_here"] DW) (M1:Ms K mg "_law_new_entries" g1 d1 ["_law_model", "_law_turn_here"]):aX P w K mg base cU 2 f fd ["_law_model", "_law_turn_here"] yt:=by
 refine F.ok gn 0xA 0x3
 ·obtain ⟨m,t,en,b,a,fr,es,bs,as,T,pool,rfl,_⟩:=h;rfl
 obtain ⟨m,t,en,b,a,fr,es,bs,as,T,pool,rfl,R,hes,hbl,hal,ht,hT,hba,hag,kk⟩:=h;refine tM.out ⟨_,aG (cg (i:=2) gn.nd rfl 0x5 ⟨cJ (aj 0x2E (aj 0x2E ao))⟩)
  (aG (cg (i:=3) gn.nd rfl 0x5 ⟨bM cN rfl Kc eO (aj 0x2E ao)⟩)
  (aG (cg (i:=4) gn.nd rfl 0x5 ⟨bM cN rfl Kc eO (aj 0x2E ao)⟩)
  (aG (cM 0xD
   (aG ⟨gG (qT (name:="pop") PySem.F.plainAttrs_list PySem.F.slot_list_pop PySem.F.type_list_pop wu (pv 3)) (fu rfl (bw (aO (i:=5) gn.nd rfl 0x5) (bw (aO (i:=6) gn.nd rfl 0x5) cQ)))⟩
   (aV (bH (qz (wv 5) (wv 6) (wv 3) (fJ wz (wv 4) (jg (wU (wv 2) dZ))))))) bI)
  (aG (cM 0xD
   (aG ⟨gG (qT (name:="pop") PySem.F.plainAttrs_list PySem.F.slot_list_pop PySem.F.type_list_pop wu (pv 4)) (fu rfl (bw (aO (i:=5) gn.nd rfl 0x5) (bw (aO (i:=6) gn.nd rfl 0x5) cQ)))⟩
   (aV (bH (qz (wv 5) (wv 6) (fJ wz (wv 3) (jg (wU (wv 2) dZ))) (wv 4))))) bI)
  (aG ⟨gG (bB G1 hr rfl M1.m M1.k M1.b .nil bN (aj 0x10 (aj (pv 1) ao))) (fu rfl (bw (aO (i:=5) gn.nd rfl 0x5) (bw (aO (i:=6) gn.nd rfl 0x5) cQ)))⟩
  (aV (bH (qz (wv 5) (wv 6) (fJ wz (wv 3) (jg (wU (wv 2) dZ))) (jg dZ))))))))),?_⟩
 refine ⟨_,rfl,m,_,rfl,R.gE,_,rfl,m,_,rfl,R.gF,small 0x4,fun nw hnw=>?_⟩;have s1:=aq hnw (.tup [V.ref en,V.int (fr:Int)]);have n1:(upd H nw (.tup [V.ref en,V.int (fr:Int)])) nw=some (.tup [V.ref en,V.int (fr:Int)]):=ak;generalize upd H nw (.tup [V.ref en,V.int (fr:Int)])=H1 at s1 n1 ⊢;have R1:=R.same s1;refine ⟨_,rfl,m,_,rfl,R1.gB,b,_,rfl,.inl (bf.of R1.b),fun b2 hb2=>?_⟩;have s2:=s1.trans (aq hb2 (.lst 0x20));have b2v:(upd H1 b2 (.lst 0x20)) b2=some (.lst 0x20):=ak;have n2:=(aq hb2 (.lst 0x20)) _ _ n1;generalize upd H1 b2 (.lst 0x20)=H2 at s2 b2v n2 ⊢;have hb0:H b2=none:=s1.free hb2;have R2:=R.same s2;refine ⟨_,rfl,m,_,rfl,R2.gA,a,_,rfl,.inl (bf.of R2.a),fun a2 ha2=>?_⟩;have s3:=s2.trans (aq ha2 (.lst 0x2C));have a3v:(upd H2 a2 (.lst 0x2C)) a2=some (.lst 0x2C):=ak;have n3:=(aq ha2 (.lst 0x2C)) _ _ n2;have b3v:=(aq ha2 (.lst 0x2C)) _ _ b2v;have nab:a2≠b2:=fun e=>by rw [e,b2v] at ha2;cases ha2
 generalize upd H2 a2 (.lst 0x2C)=H3 at s3 a3v n3 b3v ⊢;have ha0:H a2=none:=s2.free ha2;have R3:=R.same s3;refine ⟨_,rfl,t,_,_,_,rfl,rfl,bF.of (s3 _ _ ht),T.v0,rfl,_,rfl,?_⟩;have nk:∀ {Hx:Hp},Same H3 Hx->mK Hx ⟨nw,en,fr,es⟩:=fun sx=>⟨sx _ _ n3,R3.en.same sx⟩
 by_cases h1:T=.ba
 ·subst h1;refine bR ?_;rcases List.eq_nil_or_concat bs with e0 | ⟨oZ,s0,e0⟩
  ·exact absurd e0 (hba rfl)
  rw [List.concat_eq_append] at e0;subst e0;refine ⟨_,rfl,.inl ⟨rfl,_,bf.of b3v⟩,b2,_,_,rfl,rfl,b3v,Qz,?_⟩;rw [QB];have s4:Same H (upd H3 b2 (.lst (oZ.map fun s=>V.ref s.t))):=aW s3 hb0;have b4v:(upd H3 b2 (.lst (oZ.map fun s=>V.ref s.t))) b2=some (.lst (oZ.map fun s=>V.ref s.t)):=ak;have a4v:(upd H3 b2 (.lst (oZ.map fun s=>V.ref s.t))) a2=some (.lst 0x2C):=by rw [aA nab];exact a3v
  have n4:(upd H3 b2 (.lst (oZ.map fun s=>V.ref s.t))) nw=some (.tup [V.ref en,V.int (fr:Int)]):=by rw [aA fun e=>by rw [e,b3v] at n3;cases n3];exact n3
  generalize upd H3 b2 (.lst (oZ.map fun s=>V.ref s.t))=H4 at s4 b4v a4v n4 ⊢;have k0:mK H s0:=R.bs s0 0x4;refine ⟨s0.t,_,rfl,bF.of (s4 _ _ k0.1),rfl,_,_,rfl,_,_,rfl,rfl,?_⟩;refine qC fun d hd=>?_;have s5:=aq hd (.dK []);have d5:(upd H4 d (.dK [])) d=some (.dK []):=ak;generalize upd H4 d (.dK [])=H5 at s5 d5 ⊢;refine ⟨_,rfl,_,rfl,_,rfl,_,rfl,_,rfl,small 0x4,fun l6 h6=>?_⟩;have s6:=aq h6 (.lst [V.ref nw]);have Wb:(upd H5 l6 (.lst [V.ref nw])) l6=some (.lst [V.ref nw]):=ak;generalize upd H5 l6 (.lst [V.ref nw])=H6 at s6 Wb ⊢;refine ⟨a2,l6,_,_,rfl,rfl,s6 _ _ (s5 _ _ a4v),Wb,by rw [bL];exact small (by simp;lia),fun a7 h7=>?_⟩;have s7:=aq h7 (.lst (0x2C++[V.ref nw]));have Wc:(upd H6 a7 (.lst (0x2C++[V.ref nw]))) a7=some (.lst ((as++[(⟨nw,en,fr,es⟩:jr)]).map fun s:jr=>V.ref s.t)):=by rw [ak,jO];rfl
  generalize upd H6 a7 (.lst (0x2C++[V.ref nw]))=H7 at s7 Wc ⊢;have t7:=s5.trans (s6.trans s7);have g7:=s4.trans t7;have d7:=s7 _ _ (s6 _ _ d5);obtain ⟨r1,r2⟩:=yr (H:=H) (fr:=s0.fr) (en:=s0.en) (b:=b2) (a:=a7) (es:=s0.es) (bs:=oZ) (as:=as++[⟨nw,en,fr,es⟩]) (s4.free hd) g7 d7 (k0.2.same g7) (t7 _ _ b4v) Wc (fun x hx=>(R.bs x (by simp [hx])).same g7) (fun x hx=>by
   rcases List.mem_append.mp hx with h | h
   ·exact (R.as x h).same g7
   ·rw [List.mem_singleton.mp h];exact ⟨t7 _ _ n4,R.en.same g7⟩)
  exact F4.mk d7 (kk d s0.en b2 a7 s0.fr s0.es oZ _ _ r1 r2 hb0 (s4.free (s5.free (s6.free h7))) ⟨oZ,s0,nw,rfl,rfl,rfl,rfl,rfl,rfl⟩)
 ·rw [Tn.Ux h1];refine aL ?_;refine ⟨_,rfl,t,_,_,_,rfl,rfl,bF.of (s3 _ _ ht),T.v0,rfl,_,rfl,?_⟩
  by_cases h2:T=.ag
  ·subst h2;refine bR ?_;rcases List.eq_nil_or_concat as with e0 | ⟨as0,s0,e0⟩
   ·exact absurd e0 (hag rfl)
   rw [List.concat_eq_append] at e0;subst e0;refine ⟨_,rfl,.inl ⟨rfl,_,bf.of a3v⟩,a2,_,_,rfl,rfl,a3v,Qz,?_⟩;rw [QB];have s4:Same H (upd H3 a2 (.lst (as0.map fun s=>V.ref s.t))):=aW s3 ha0;have a4v:(upd H3 a2 (.lst (as0.map fun s=>V.ref s.t))) a2=some (.lst (as0.map fun s=>V.ref s.t)):=ak;have b4v:(upd H3 a2 (.lst (as0.map fun s=>V.ref s.t))) b2=some (.lst 0x20):=by rw [aA (Ne.symm nab)];exact b3v
   have n4:(upd H3 a2 (.lst (as0.map fun s=>V.ref s.t))) nw=some (.tup [V.ref en,V.int (fr:Int)]):=by rw [aA fun e=>by rw [e,a3v] at n3;cases n3];exact n3
   generalize upd H3 a2 (.lst (as0.map fun s=>V.ref s.t))=H4 at s4 b4v a4v n4 ⊢;have k0:mK H s0:=R.as s0 0x4;refine ⟨s0.t,_,rfl,bF.of (s4 _ _ k0.1),rfl,_,_,rfl,_,_,rfl,rfl,?_⟩;refine qC fun d hd=>?_;have s5:=aq hd (.dK []);have d5:(upd H4 d (.dK [])) d=some (.dK []):=ak;generalize upd H4 d (.dK [])=H5 at s5 d5 ⊢;refine ⟨_,rfl,_,rfl,_,rfl,_,rfl,small 0x4,fun l6 h6=>?_⟩;have s6:=aq h6 (.lst [V.ref nw]);have Wb:(upd H5 l6 (.lst [V.ref nw])) l6=some (.lst [V.ref nw]):=ak;generalize upd H5 l6 (.lst [V.ref nw])=H6 at s6 Wb ⊢;refine ⟨b2,l6,_,_,rfl,rfl,s6 _ _ (s5 _ _ b4v),Wb,by rw [bL];exact small (by simp;lia),fun a7 h7=>?_⟩;have s7:=aq h7 (.lst (0x20++[V.ref nw]));have Wc:(upd H6 a7 (.lst (0x20++[V.ref nw]))) a7=some (.lst ((bs++[(⟨nw,en,fr,es⟩:jr)]).map fun s:jr=>V.ref s.t)):=by rw [ak,jO];rfl
   generalize upd H6 a7 (.lst (0x20++[V.ref nw]))=H7 at s7 Wc ⊢;have t7:=s5.trans (s6.trans s7);have g7:=s4.trans t7;have d7:=s7 _ _ (s6 _ _ d5);refine ⟨_,rfl,?_⟩;obtain ⟨r1,r2⟩:=yr (H:=H) (fr:=s0.fr) (en:=s0.en) (b:=a7) (a:=a2) (es:=s0.es) (bs:=bs++[⟨nw,en,fr,es⟩]) (as:=as0) (s4.free hd) g7 d7 (k0.2.same g7) Wc (t7 _ _ a4v) (fun x hx=>by
    rcases List.mem_append.mp hx with h | h
    ·exact (R.bs x h).same g7
    ·rw [List.mem_singleton.mp h];exact ⟨t7 _ _ n4,R.en.same g7⟩) (fun x hx=>(R.as x (by simp [hx])).same g7)
   exact F4.mk d7 (kk d s0.en a7 a2 s0.fr s0.es _ as0 _ r1 r2 (s4.free (s5.free (s6.free h7))) ha0 ⟨as0,s0,nw,rfl,rfl,rfl,rfl,rfl,rfl⟩)
  ·rw [Tn.Qy h2];refine aL ?_;refine ⟨_,rfl,_,rfl,m,t,en,b,a,fr,es,bs,as,T,pool,rfl,R3,hes,s3 _ _ ht,hT.same s3,fun u en' es' H4 s4 hu hen' hn4 hc=>?_⟩;refine ⟨u,_,rfl,bF.of hu,rfl,_,_,rfl,_,_,rfl,rfl,?_⟩;refine qC fun d hd=>?_;have s5:=aq hd (.dK []);have d5:(upd H4 d (.dK [])) d=some (.dK []):=ak;generalize upd H4 d (.dK [])=H5 at s5 d5 ⊢;refine ⟨_,rfl,_,rfl,_,rfl,_,rfl,small 0x4,fun l6 h6=>?_⟩;have s6:=aq h6 (.lst [V.ref nw]);have Wb:(upd H5 l6 (.lst [V.ref nw])) l6=some (.lst [V.ref nw]):=ak;generalize upd H5 l6 (.lst [V.ref nw])=H6 at s6 Wb ⊢;refine ⟨b2,l6,_,_,rfl,rfl,s6 _ _ (s5 _ _ (s4 _ _ b3v)),Wb,by rw [bL];exact small (by simp;lia),fun a7 h7=>?_⟩;have s7:=aq h7 (.lst (0x20++[V.ref nw]));have Wc:(upd H6 a7 (.lst (0x20++[V.ref nw]))) a7=some (.lst ((bs++[(⟨nw,en,fr,es⟩:jr)]).map fun s:jr=>V.ref s.t)):=by rw [ak,jO];rfl
   generalize upd H6 a7 (.lst (0x20++[V.ref nw]))=H7 at s7 Wc ⊢;refine ⟨small 0x4,fun a8 h8=>?_⟩;have s8:=aq h8 (.lst []);have a8v:(upd H7 a8 (.lst [])) a8=some (.lst []):=ak;generalize upd H7 a8 (.lst [])=H8 at s8 a8v ⊢;have t8:=s5.trans (s6.trans (s7.trans s8));have g8:=s3.trans (s4.trans t8);have d8:=s8 _ _ (s7 _ _ (s6 _ _ d5));obtain ⟨r1,r2⟩:=yr (H:=H) (fr:=fr+T.mp.length) (en:=en') (b:=a7) (a:=a8) (es:=es') (bs:=bs++[⟨nw,en,fr,es⟩]) (as:=[]) (s3.free (s4.free hd)) g8 d8 (hen'.same t8) (s8 _ _ Wc) a8v (fun x hx=>by
    rcases List.mem_append.mp hx with h | h
    ·exact (R.bs x h).same g8
    ·rw [List.mem_singleton.mp h];exact nk (s4.trans t8)) (fun x hx=>nomatch hx)
   exact F4.mk d8 (kk d en' a7 a8 _ es' _ [] _ r1 r2 (s3.free (s4.free (s5.free (s6.free h7)))) (s3.free (s4.free (s5.free (s6.free (s7.free h8))))) (Uw.mk h1 h2 ⟨nw,s3.free hn4,rfl,hc,rfl,rfl⟩))
end
end M
namespace L2
open PySem PySem.Spec PyProof.Rows
inductive QD (K:PySem.W.Frag) (R:It->Hp->Prop) (x:V) (H1:Hp):Prop
 | mk (a:Addr) (_:x=.ref a) (_:(((∃ xs,bf K H1 a xs)/\R (Vh K a) H1)\/((∃ xs,bF K H1 a xs)/\R (Itt K a) H1))):QD K R x H1
def iSeq (K:PySem.W.Frag) (tl:TE):TI:=fun σ H R=>tl σ H fun x H1=>QD K R x H1
theorem Yw {l:Expr} (hl:PE X l tl):PI X tg l (iSeq X.K tl):=by
 intro pins s σ H R I h;refine cB (hl pins s σ H _ I h) fun v s1 zq=>?_;obtain ⟨x,H1,I1,r1,q1⟩:=zq;obtain ⟨a,e,h2⟩:=q1;subst e;cases r1;rcases h2 with ⟨⟨xs,hq⟩,q⟩ | ⟨⟨xs,hq⟩,q⟩
 ·obtain ⟨its,rv,p,hz⟩:=I1.list hq;refine wpAny_pyIter_list p.isList ?_;refine ⟨s1.heap.objs.size,[s1.heap.objs.size],_,_,H1,rfl,I1.kept (t':=s1.toks) fun b o e=>Heap.get?_push_of_some _ e,uh a _,0x18,fun b hb=>?_,q⟩;have e:b=s1.heap.objs.size:=by simpa using hb
  subst e;exact I1.tQ 0x6 (I1.hok.fresh 0x6)
 ·obtain ⟨its,rv,p,hz⟩:=I1.tuple hq;refine wpAny_pyIter_tuple (show s1.heap.IsTuple a its.toArray from p) ?_
  refine ⟨s1.heap.objs.size,[s1.heap.objs.size],_,_,H1,rfl,I1.kept (t':=s1.toks) fun b o e=>Heap.get?_push_of_some _ e,BP a _,0x18,fun b hb=>?_,q⟩;have e:b=s1.heap.objs.size:=by simpa using hb
  subst e;exact I1.tQ 0x6 (I1.hok.fresh 0x6)
inductive QF (K:PySem.W.Frag) (x y:V) (H:Hp) (Q:VK):Prop
 | mk (a b:Addr) (xs:List V) (_:x=.ref a) (_:y=.ref b) (_:bf K H a xs) (_:bf K H b []) (_:Q (.bl xs.isEmpty) H):QF K x y H Q
def rEqE (K:PySem.W.Frag):R2:=fun x y H Q=>QF K x y H Q
theorem QG (hu:X.A.units<cLine):jM X (compareOp .Eq) (rEqE X.K):=by
 intro pins s σ H x y v u Q I rx ry h;obtain ⟨a,b,xs,rfl,rfl,ha,hb,q⟩:=h;cases rx;cases ry;obtain ⟨its,r1,p1,_⟩:=I.list ha;obtain ⟨its2,r2,p2,_⟩:=I.list hb;cases r2;cases r1 with
 | nil=>exact SeqAt.eq_listAt (e:=fun _=>true) p1.isList p2.isList rfl hu (fun i hi=>absurd hi 0x4) ⟨.bl true,H,I,rfl,q⟩
 | cons r1 rs=>exact SeqAt.eq_list_lengthsAt p1.isList p2.isList 0x4 hu ⟨.bl false,H,I,rfl,q⟩
section
variable {j0 j1 j2:Nat}{p0 p1:Pos}{e1 e2 e3:Expr}
abbrev QH (t1 t2 t3:TE):List (TE×TE):=[(tC (.str "enter"),t1),(tC (.str "all"),t2),(tC (.str "correct"),t3)]
theorem QJ (h1:PE X e1 t1) (h2:PE X e2 t2) (h3:PE X e3 t3):PE X (.Dict [some (.Constant (.str "enter") j0 p0),some (.Constant (.str "all") j1 p1),some (.Constant (.str "correct") j2 p2)] [e1,e2,e3] q) (nO (QH t1 t2 t3)):=by
 refine wN ?h ?a ?b ?c ?d
 case a=>exact rfl
 case b=>exact rfl
 case c=>exact List.cons_ne_nil _ _
 case d=>exact Nat.le_of_ble_eq_true rfl
 case h=>exact cP aD h1 (cP aD h2 (cP aD h3 wM))
end
end L2
namespace M
open PySem L2 PyProof.Rows
def F3 (Q:VK) (d:Addr) (v1 v2 v3:V) (H4:Hp):Prop:=H4 d=some (.dK [])/\∃ kvs:List (Key×V),[(V.str "enter",v1),(V.str "all",v2),(V.str "correct",v3)]=kvs.map (fun kv=>(kV kv.1,kv.2))/\kvs.length<=15/\Q (.ref d) (upd H4 d (.dK (dY [] kvs)))
def Yx (v1 v2 v3:V):List (Key×V):=[(.inr "enter",v1),(.inr "all",v2),(.inr "correct",v3)]
theorem F3.mk {Q:VK}{v1 v2 v3:V} (h:H4 d=some (.dK [])) (q:Q (.ref d) (upd H4 d (.dK (Yx v1 v2 v3)))):F3 Q d v1 v2 v3 H4 :=
 ⟨h,[(.inr "enter",v1),(.inr "all",v2),(.inr "correct",v3)],rfl,Nat.le_of_ble_eq_true rfl,q⟩
theorem QK {Q:VK} (h:∀ d,H d=none->t1 σ (upd H d (.dK [])) fun v1 H1=>t2 σ H1 fun v2 H2=>t3 σ H2 fun v3 H3=>F3 Q d v1 v2 v3 H3):nO (QH t1 t2 t3) σ H Q:=h
section
variable {f:Addr}
abbrev nRf:List Str:=["_law_model", "_law_turn_here", "_law_handed", "_law_rows"]
theorem Yy:aY nRf ["_law_model", "_law_turn_here"] (aH rW):=0x0
def a0P:Scope:={ kind:=.function,names:=[(".0",.local),("_law_row",.local),("_law_good",.globalImplicit)],isGenerator:=false,isCoroutine:=false }
theorem a0Q:dw nRf (aH rW) a0P ["_law_row"] [] []:=0x2
theorem a0R:((["_law_row"]:List Str)++([]:List Str)).Nodup:=by decide +kernel
def a0S:Scope:={ kind:=.function,names:=[(".0",.local),("_law_entry",.local)],isGenerator:=false,isCoroutine:=false }
theorem Wd:dw nRf (aH rW) a0S ["_law_entry"] [] []:=0x2
def Tn.hd:Tn->List (List V)
 | .en _ r=>[r]
 | .al _ _ rs=>rs
 | .co _ _ r=>[r]
 | _=>[]
def Tn.num:Tn->Option Int
 | .st n=>some n
 | .co n _ _=>some n
 | _=>none
theorem Yz:bootBuiltins "set"=some (.type "set"):=by decide +kernel
theorem u0 (h:n+64<cLine):n<cLine:=by lia
def dz (T:Tn) (fr:Nat) (es:List Ent) (bs as:List jr):Str :=
 if T.hd.all wm=false then "NoForm" else if (T.num.any fun n=>!(es.map (·.n)).contains n)=true then "NoEntry" else if (T.kd="back"/\bs.isEmpty=true)\/(T.kd="again"/\as.isEmpty=true) then "NothingThere" else if ¬ ((T.new fr 0x17).map (·.2.2)).Nodup then "Twice" else ""
inductive vC (vs:List V) (H:Hp) (Q:VK):Prop
 | mk (m t en b a:Addr) (fr:Nat) (es:List Ent) (bs as:List jr) (T:Tn) (pool:List (List V)) (_:vs=[.ref m,.ref t]) (_:gK H m en b a fr es bs as) (_:es.length<=250) (_:(∀ e∈es,dD e.r)) (_:H t=some (.tup T.vs)) (_:T.At pool H) (_:∀ H',Same H H'->Q (.str (dz T fr es bs as)) H'):vC vs H Q
def Ib:Sp:=fun vs H Q _=>vC vs H Q
theorem Tn.YB (T:Tn):1<=T.vs.length/\T.vs.length<=3:=by cases T <;> simp [Tn.vs]
def keyO:V->Key
 | .int i=>.inl i
 | .str z=>.inr z
 | _=>.inl 0
def kR (r:List V):List Key:=r.map keyO
theorem DX (h:dD r):(kR r).map kV=r:=by
 have h2:=List.all_eq_true.mp h.2;unfold kR;rw [List.map_map];have:∀ l:List V,(∀ v∈l,jF v=true)->l.map (kV∘keyO)=l:=by
  intro l
  induction l with
  | nil=>exact fun _=>rfl
  | cons x t ih =>
   intro hx;rw [List.map_cons,ih fun v hv=>hx v (jw _ hv)]
   congr 1
   have:=hx x (List.mem_cons_self ..);cases x with
   | int i=>rfl
   | str z=>rfl
   | non=>cases this
   | bl _=>cases this
   | yC _=>cases this
   | flt _=>cases this
   | ref _=>cases this
   | ty _=>cases this
 exact this r h2
theorem QL {es:List Ent} (h:∀ e∈es,dD e.r):(es.map fun e=>kR e.r).Nodup↔(es.map ((·.2.2)∘Ent.c)).Nodup:=by
 unfold List.Nodup;rw [List.pairwise_map,List.pairwise_map]
 constructor
 ·intro hp;refine List.Pairwise.imp_of_mem (fun {a b} ha hb hab e=>hab ?_) hp;have:a.r=b.r:=e;rw [this]
 ·intro hp;refine List.Pairwise.imp_of_mem (fun {a b} ha hb hab e=>hab ?_) hp
  show a.r=b.r
  rw [<- DX (h a ha),<- DX (h b hb),e]
theorem Tn.Uy {T:Tn}{fr:Nat}{l:List Ct} (h:bD H T.mp T.mr):(T.new fr l).length<=l.length+T.mp.length:=by
 have e:(l++newL fr T.mp T.mr).length=l.length+T.mp.length:=by rw [jj,tE h]
 unfold Tn.new;cases T with
 | st n =>
  refine Nat.le_trans (List.length_filter_le _ _) (Nat.le_of_eq e)
 | co n p r =>
  refine Nat.le_of_eq ?_
  show (List.map _ _).length=_
  rw [bL];exact e
 | _=>exact Nat.le_of_eq e
theorem DY:∀ {ps:List Addr}{rs:List (List V)}{fr:Nat}{x:Ct},bD H ps rs->x∈newL fr ps rs->x.2.2∈rs
 | _,_,_,_,.nil,h=>nomatch h
 | _,_,fr,x,.cons h hs,m=>by
  rcases List.mem_cons.mp m with rfl | m
  ·exact List.mem_cons_self ..
  ·exact jw _ (DY hs m)
theorem Tn.a0T {T:Tn}{fr:Nat}{l:List Ct}{x:Ct} (hT:T.At pool H) (hl:∀ x∈l,dD x.2.2) (hx:x∈T.new fr l):dD x.2.2:=by
 have hm:∀ x∈l++newL fr T.mp T.mr,dD x.2.2:=fun x hx=>by
  rcases List.mem_append.mp hx with h | h
  ·exact hl x h
  ·have h2:=DY (Tn.rows hT) h;cases T with
   | en p r=>rw [List.mem_singleton.mp h2];exact hT.2.1
   | al q ps rs=>exact (hT.2.2.1 _ h2).1
   | _=>cases h2
 unfold Tn.new at hx;cases T with
 | st n=>exact hm x (List.mem_filter.mp hx).1
 | co n p r =>
  obtain ⟨y,hy,rfl⟩:=List.mem_map.mp hx
  by_cases e:y.1=n
  ·rw [if_pos e];exact hT.2.1
  ·rw [if_neg e];exact hm y hy
 | _=>exact hm x hx
theorem Bk {n:Int}:∀ {es:List Ent},inV (V.int n) (es.map fun e=>V.int e.n)=(es.map (·.n)).contains n
 | []=>rfl
 | e::r=>by
  have ih:=Bk (n:=n) (es:=r);unfold inV at ih ⊢;rw [List.map_cons,List.any_cons,ih,List.map_cons,List.contains_cons]
  congr 1
  show decide (e.n=n)=(n==e.n)
  rw [Bool.eq_iff_iff];simp only [decide_eq_true_eq,beq_iff_eq];exact eq_comm
theorem vD {es:List Ent}:(es.map fun e=>V.int e.n).all mD=true:=by
 rw [List.all_eq_true];intro v hv;obtain ⟨e,_,rfl⟩:=List.mem_map.mp hv;rfl
theorem Ie {α β:Type}{F:α->β->Prop}:∀ {l:List α}{l2:List β}{i:Nat}{a:α},Paired F l l2->l[i]?=some a->∃ b,l2[i]?=some b/\F a b
 | _,_,_,_,.nil,h=>by simp at h
 | _,_,0,a,.cons (b:=b) h hs,e=>by
  have e':=Option.some.inj ((List.getElem?_cons_zero ..).symm.trans e);subst e';exact ⟨b,rfl,h⟩
 | _,_,i+1,a,.cons h hs,e=>Ie (i:=i) hs (by simpa using e)
theorem vG {qs:List Addr}{rs:List (List V)} (hr:bD H qs rs) (hg:∀ r∈rs,dD r) (hl:qs.length<=3) (hD:H D=none) (i:Nat) (ys:List V) (H7:Hp) (x:V) (hx:(qs.map V.ref)[i]?=some x) (h:ys=(rs.take i).map (fun r=>V.bl (wm r))/\Same H H7/\H7 D=some (.lst ys)) :
  qW D σ 1 [] (mZ 0) Gd (KR (Dz K) [] E0 (fD (pP 0) oJ)) x ys H7 (fun ys H7=>ys=(rs.take (i+1)).map (fun r=>V.bl (wm r))/\Same H H7/\H7 D=some (.lst ys)):=by
 obtain ⟨rfl,s7,Qs⟩:=h;rw [iK] at hx;obtain ⟨q,hq,rfl⟩:=Option.map_eq_some_iff.mp hx;obtain ⟨r,Ea,hqr⟩:=Ie hr hq;obtain ⟨⟨k,rest,rfl,Rr⟩,_⟩:=hg r (jL Ea);have hi:i<qs.length:=(List.getElem?_eq_some_iff.mp hq).1;refine 0x21;refine dG ?_;refine ⟨_,rfl,q,k,rest,rfl,bF.of (s7 _ _ hqr),Rr,fun H8 s8=>⟨s8 _ _ Qs,?_,?_,aW (s7.trans s8) hD,ak⟩⟩
 ·rw [bL,List.length_take];exact bY 0x1
 ·rw [List.take_add_one,Ea,jO];rfl
theorem QM (F:gQ K "_law_refusal" "_law_refusal" rW f fd) (ml:mg "len"=none) (ma:mg "all"=none) (ms:mg "set"=none)  (G1:aX P w K mg base cU 2 g1 d1 ["_law_row"] (Dz K)) (M1:Ms K mg "_law_good" g1 d1 ["_law_row"])
  (G2:aX P w K mg base cU 1 g2 d2 ["_law_model", "_law_turn_here"] DW) (M2:Ms K mg "_law_new_entries" g2 d2 ["_law_model", "_law_turn_here"]):aX P w K mg base cU 3 f fd ["_law_model", "_law_turn_here"] (Ib):=by
 refine F.ok Yy 0xA 0x3
 ·obtain ⟨m,t,en,b,a,fr,es,bs,as,T,pool,rfl,_⟩:=h;rfl
 obtain ⟨m,t,en,b,a,fr,es,bs,as,T,pool,rfl,R,hes,hrw,ht,hT,kk⟩:=h;have hr1:cI 1 _:=hr.mono 0x8;refine tM.out ⟨_,aG (cg (i:=2) Yy.nd rfl 0x5 ⟨zF (u1 hr) (QJ (cT jd (pv 1) (cR au) (cR au)) (aK bA (aQ jB (pv 1) (cJ (aj (cL ao) ao))) au aR) (cT jd (pv 1) (cR au) fZ)) (aK bA (pv 1) au aR) (cL ao) ⟨rfl,rfl,rfl,rfl⟩⟩)
  (aG (cM (eU (dX (aP (jl (K:=K) rfl hr.hd) rfl ma qY (aj (eN rfl a0Q (Yw (pv 2)) (fun s H fp C=>⟨aO (i:=0) a0R rfl 0x5,dN,bB G1 hr rfl M1.m M1.k M1.b .nil bN (aj 0x10 ao)⟩)) ao)))) (aV (bH lu)) bI)
  (aG (cM (PW.pt (jU (aN jk (aK bA (pv 1) au aR) (cJ (aj aD (aj aD ao))) 0x16) (iQ (aN jC (aK bA (pv 1) au aR) (eN rfl Wd (fX 0x2E) (fun s H fp C=>⟨aO (i:=0) Yu rfl 0x5,dN,aK (gj (K:=K)) 0x10 au aR⟩)) 0x16)))) (aV (bH lu)) bI)
  (aG (cM (PW.pt (ud (PW.pt (jU 0xD (iQ (aN (QG (u0 hr.units)) 0x2E (cL ao) (aZ _))))) (oE (PW.pt (jU 0xD (iQ (aN (QG (u0 hr.units)) 0x2E (cL ao) (aZ _)))))))) (aV (bH lu)) bI)
  (aG ⟨qe (i:=3) rfl Wd (fX (aK bA (bB G2 hr1 rfl M2.m M2.k M2.b .nil bN (aj 0x10 (aj (pv 1) ao))) au aR)) (fun s H fp C=>⟨aO (i:=0) Yu rfl 0x5,dN,aK (gj (K:=K)) 0x10 au aR⟩) Yy.nd rfl 0x5⟩
  (aG (cM (aN mq (aP JM rfl ml PySem.boot_len (aj (bM (JL hr.hd hr.units) rfl ms Yz (aj (pv 3) ao)) ao)) (aP bQ rfl ml PySem.boot_len (aj (pv 3) ao)) (aZ _)) (aV (bH lu)) bI)
  (aV (bH lu))))))),?_⟩
 obtain ⟨l1,l3⟩:=T.YB;refine grab (a:=BL _ _) (fun σ' H'=>∃ (hx:Addr) (qs:List Addr),σ'=[some (.ref m),some (.ref t),some (.ref hx),none]/\Same H H'/\(bf K H' hx (qs.map V.ref)\/bF K H' hx (qs.map V.ref))/\bD H' qs T.hd/\qs.length<=3) ?_ fun go=>?_
 rotate_left
 ·dsimp only [BL,N6];refine QK fun d hd=>?_;have s0:=aq hd (.dK []);have d0:(upd H d (.dK [])) d=some (.dK []):=ak;generalize upd H d (.dK [])=H0 at s0 d0 ⊢;refine ⟨_,rfl,_,rfl,_,rfl,t,_,rfl,bF.of (s0 _ _ ht),nwN (j:=1) 0x8 l1,fun p1 hp1=>?_⟩;have s1:=aq hp1 (.tup (dj T.vs (some 1) (some 2)));have p1v:(upd H0 p1 (.tup (dj T.vs (some 1) (some 2)))) p1=some (.tup (dj T.vs (some 1) (some 2))):=ak;generalize upd H0 p1 (.tup (dj T.vs (some 1) (some 2)))=H1 at s1 p1v ⊢;refine ⟨_,rfl,small 0x4,fun l0 hl0=>?_⟩;have s2:=aq hl0 (.lst []);generalize upd H1 l0 (.lst [])=H2 at s2 ⊢;refine ⟨small 0x4,fun p2 hp2=>?_⟩;have s3:=aq hp2 (.tup [V.ref l0]);have p2v:(upd H2 p2 (.tup [V.ref l0])) p2=some (.tup [V.ref l0]):=ak;generalize upd H2 p2 (.tup [V.ref l0])=H3 at s3 p2v ⊢;have g3:=s0.trans (s1.trans (s2.trans s3));refine ⟨t,p2,_,_,rfl,rfl,bF.of (g3 _ _ ht),bF.of p2v,(fun e=>by rw [e] at l1;simp at l1),small (by simp;lia),0x28,fun _ p3 hp3=>?_⟩;have s4:=aq hp3 (.tup (T.vs++[V.ref l0]));have p3v:(upd H3 p3 (.tup (T.vs++[V.ref l0]))) p3=some (.tup (T.vs++[V.ref l0])):=ak;generalize upd H3 p3 (.tup (T.vs++[V.ref l0]))=H4 at s4 p3v ⊢;obtain ⟨v2,hv2,_⟩:=gk (xs:=T.vs++[V.ref l0]) (i:=1) 0x8 (by simp;lia);refine ⟨p3,_,_,_,rfl,rfl,bF.of p3v,hv2,?_⟩;have g4:=g3.trans s4;refine ⟨_,rfl,_,rfl,t,_,rfl,bF.of (g4 _ _ ht),nwN (j:=2) 0x8 l1,fun p4 hp4=>?_⟩;have s5:=aq hp4 (.tup (dj T.vs (some 2) none));have p4v:(upd H4 p4 (.tup (dj T.vs (some 2) none))) p4=some (.tup (dj T.vs (some 2) none)):=ak;generalize upd H4 p4 (.tup (dj T.vs (some 2) none))=H5 at s5 p4v ⊢;have g5:=g4.trans s5;have t5:Same H0 H5:=s1.trans (s2.trans (s3.trans (s4.trans s5)));have d5:=t5 _ _ d0;refine F3.mk d5 ?_;have g6:Same H (upd H5 d (.dK (Yx (.ref p1) v2 (.ref p4)))):=aW g5 hd;have d6:(upd H5 d (.dK (Yx (.ref p1) v2 (.ref p4)))) d=some (.dK (Yx (.ref p1) v2 (.ref p4))):=ak;have k6:∀ c r,H5 c=some (.tup r)->(upd H5 d (.dK (Yx (.ref p1) v2 (.ref p4)))) c=some (.tup r):=fun c r h=>by
   rw [aA fun e=>by rw [e,d5] at h;cases h];exact h
  generalize upd H5 d (.dK (Yx (.ref p1) v2 (.ref p4)))=H6 at g6 d6 k6 ⊢;refine ⟨d,rfl,.inl ⟨_,.inl d6⟩,?_⟩;refine ⟨_,rfl,t,_,_,_,rfl,rfl,bF.of (g6 _ _ ht),T.v0,small 0x4,fun l5 hl5=>?_⟩;have s7:=aq hl5 (.lst []);have l5v:(upd H6 l5 (.lst [])) l5=some (.lst []):=ak;generalize upd H6 l5 (.lst [])=H7 at s7 l5v ⊢;have g7:=g6.trans s7;refine ⟨jE (Yx (.ref p1) v2 (.ref p4)) (.inr T.kd),gR.k (k:=.inr T.kd) (s7 _ _ d6),?_⟩;have hT7:=hT.same g7;have p1w:=s7 _ _ (k6 _ _ (s5 _ _ (s4 _ _ (s3 _ _ (s2 _ _ p1v)))));have p4w:=s7 _ _ (k6 _ _ p4v);cases T with
  | en p r=>exact go _ _ ⟨p1,[p],rfl,g7,.inr (bF.of p1w),.cons hT7.1 .nil,by simp⟩
  | al l ps rs =>
   have e2:v2=.ref l:=by
    have e:=hv2;rw [show lK ((Tn.al l ps rs).vs++[V.ref l0]) 1=some (V.ref l) from bh (j:=1) rfl] at e
    injection e with e;exact e.symm
   subst e2;exact go _ _ ⟨l,ps,rfl,g7,.inl (bf.of hT7.1),hT7.2.1,hT7.2.2.2⟩
  | st n=>exact go _ _ ⟨l5,[],rfl,g7,.inl (bf.of l5v),.nil,by simp⟩
  | co n p r=>exact go _ _ ⟨p4,[p],rfl,g7,.inr (bF.of p4w),.cons hT7.1 .nil,by simp⟩
  | ba=>exact go _ _ ⟨l5,[],rfl,g7,.inl (bf.of l5v),.nil,by simp⟩
  | ag=>exact go _ _ ⟨l5,[],rfl,g7,.inl (bf.of l5v),.nil,by simp⟩
 rintro σ' H1 ⟨hx,qs,rfl,s1,hq,hrs,hql⟩;have hgd:∀ r∈T.hd,dD r:=fun r hr=>by
  cases T with
  | en p r'=>rw [List.mem_singleton.mp hr];exact hT.2.1
  | al l ps rs=>exact (hT.2.2.1 r hr).1
  | co n p r'=>rw [List.mem_singleton.mp hr];exact hT.2.1
  | st n=>cases hr
  | ba=>cases hr
  | ag=>cases hr
 have hll:T.hd.length=qs.length:=hrs.length.symm;refine grab (a:=vX _ _ _) (fun σ' H'=>σ'=[some (.ref m),some (.ref t),some (.ref hx),none]/\Same H H'/\T.hd.all wm=true) ?_ fun go=>?_
 rotate_left
 ·have fin:∀ D H2,H2 D=some (.lst ((T.hd.take qs.length).map fun r=>V.bl (wm r)))->∃ (p:Addr) (bs:List Bool),[V.ref D]=[V.ref p]/\bf K H2 p (bs.map V.bl)/\bs.all id=T.hd.all wm:=fun D H2 h=>by
   rw [List.take_of_length_le (Nat.le_of_eq hll)] at h;exact ⟨D,T.hd.map wm,rfl,bf.of (by rw [h,List.map_map];rfl),by rw [List.all_map];rfl⟩
  have last:∀ H2,Same H1 H2->∀ c:Bool,c=T.hd.all wm->if (!c)=true then Q (V.str "NoForm") H2 else _:=fun H2 s2 c hc=>by
   cases c with
   | true=>exact aL (go _ _ ⟨rfl,s1.trans s2,hc.symm⟩)
   | false =>
    have:=kk H2 (s1.trans s2);unfold dz at this;rw [if_pos hc.symm] at this;exact bR this
  refine ⟨_,rfl,hx,rfl,?_⟩;rcases hq with hq | hq
  ·refine .inl ⟨⟨_,hq⟩,fun D hD=>?_⟩;refine gY (K:=K) (a:=hx) (xs:=qs.map V.ref) (fun i ys H7=>ys=(T.hd.take i).map (fun r=>V.bl (wm r))/\Same H1 H7/\H7 D=some (.lst ys)) (fun i ys H7 h=>h.2.1.seq hq) ⟨rfl,aq hD _,ak⟩ (fun i ys H7 h=>h.2.2) (vG hrs hgd hql hD) ?_;rintro ys H2 ⟨rfl,s2,hD2⟩;rw [bL] at hD2;obtain ⟨p,bs',e1,e2,e3⟩:=fin D H2 hD2;exact ⟨p,bs',e1,e2,_,rfl,last H2 s2 _ e3⟩
  ·refine .inr ⟨⟨_,hq⟩,fun D hD=>?_⟩;refine Ma (K:=K) (a:=hx) (xs:=qs.map V.ref) (fun i ys H7=>ys=(T.hd.take i).map (fun r=>V.bl (wm r))/\Same H1 H7/\H7 D=some (.lst ys)) (fun i ys H7 h=>h.2.1.wO hq) ⟨rfl,aq hD _,ak⟩ (fun i ys H7 h=>h.2.2) (vG hrs hgd hql hD) ?_;rintro ys H2 ⟨rfl,s2,hD2⟩;rw [bL] at hD2;obtain ⟨p,bs',e1,e2,e3⟩:=fin D H2 hD2;exact ⟨p,bs',e1,e2,_,rfl,last H2 s2 _ e3⟩
 rintro σ' H2 ⟨rfl,s2,hall⟩;refine grab (a:=vX _ _ _) (fun σ' H'=>σ'=[some (.ref m),some (.ref t),some (.ref hx),none]/\Same H H'/\(T.num.any fun n=>!(es.map (·.n)).contains n)=false) ?_ fun go=>?_
 rotate_left
 ·refine ⟨_,rfl,t,_,_,_,rfl,rfl,bF.of (s2 _ _ ht),T.v0,small 0x4,fun q hq=>⟨q,_,rfl,.inr (bF.of ak),rfl,rfl,_,rfl,?_⟩⟩;have s3:=s2.trans (aq hq (.tup [V.str "strike",V.str "correct"]));generalize upd H2 q (.tup [V.str "strike",V.str "correct"])=H3 at s3 ⊢;have R3:=R.same s3;have two:∀ n:Int,T.num=some n->∀ H4,Same H3 H4->∀ c:Bool,c=!inV (V.int n) (es.map fun e=>V.int e.n)->if c=true then Q (V.str "NoEntry") H4 else _:=fun n hn H4 s4 c hc=>by
   rw [Bk] at hc;have ea:(T.num.any fun n=>!(es.map (·.n)).contains n)=c:=by rw [hn,hc];rfl
   cases c with
   | false=>exact aL (go _ _ ⟨rfl,s3.trans s4,ea⟩)
   | true =>
    have:=kk H4 (s3.trans s4);unfold dz at this;rw [if_neg (by rw [hall];decide),if_pos ea] at this;exact bR this
  cases T with
  | en p r=>exact aL (go _ _ ⟨rfl,s3,rfl⟩)
  | al l ps rs=>exact aL (go _ _ ⟨rfl,s3,rfl⟩)
  | ba=>exact aL (go _ _ ⟨rfl,s3,rfl⟩)
  | ag=>exact aL (go _ _ ⟨rfl,s3,rfl⟩)
  | st n =>
   refine bR ⟨_,rfl,t,_,_,_,rfl,rfl,bF.of (s3 _ _ ht),bh (j:=1) rfl,_,rfl,m,_,rfl,R3.gE,en,rfl,⟨_,bf.of R3.en.1⟩,fun D hD=>?_⟩;refine lY 0 (fun e=>V.int e.n) (fun e=>rfl) R3.en.1 R3.en.2 0x1 hD fun H4 s4 Hg=>?_;exact ⟨D,_,rfl,.inl (bf.of Hg),rfl,vD,_,rfl,two n rfl H4 s4 _ rfl⟩
  | co n p r =>
   refine bR ⟨_,rfl,t,_,_,_,rfl,rfl,bF.of (s3 _ _ ht),bh (j:=1) rfl,_,rfl,m,_,rfl,R3.gE,en,rfl,⟨_,bf.of R3.en.1⟩,fun D hD=>?_⟩;refine lY 0 (fun e=>V.int e.n) (fun e=>rfl) R3.en.1 R3.en.2 0x1 hD fun H4 s4 Hg=>?_;exact ⟨D,_,rfl,.inl (bf.of Hg),rfl,vD,_,rfl,two n rfl H4 s4 _ rfl⟩
 rintro σ' H3 ⟨rfl,s3,hnum⟩;have R3:=R.same s3;refine grab (a:=vX _ _ _) (fun σ' H'=>σ'=[some (.ref m),some (.ref t),some (.ref hx),none]/\Same H H'/\¬ ((T.kd="back"/\bs.isEmpty=true)\/(T.kd="again"/\as.isEmpty=true))) ?_ fun go=>?_
 rotate_left
 ·have yes:∀ H5,Same H3 H5->((T.kd="back"/\bs.isEmpty=true)\/(T.kd="again"/\as.isEmpty=true))->Q (V.str "NothingThere") H5:=fun H5 s5 hy=>by
   have:=kk H5 (s3.trans s5);unfold dz at this;rw [if_neg (by rw [hall];decide),if_neg (by rw [hnum];decide),if_pos hy] at this;exact this
  refine ⟨_,rfl,t,_,_,_,rfl,rfl,bF.of (s3 _ _ ht),T.v0,rfl,_,rfl,?_⟩;have plain:T.kd≠"back"->T.kd≠"again"->¬ ((T.kd="back"/\bs.isEmpty=true)\/(T.kd="again"/\as.isEmpty=true)):=fun h1 h2 h=>by
   rcases h with ⟨h,_⟩ | ⟨h,_⟩
   ·exact h1 h
   ·exact h2 h
  cases T with
  | en p r=>exact aL (aL ⟨_,rfl,t,_,_,_,rfl,rfl,bF.of (s3 _ _ ht),at0 _ _,rfl,_,rfl,aL (aL (go _ _ ⟨rfl,s3,plain (show ("enter" : Str)≠"back" by decide +kernel) (show ("enter" : Str)≠"again" by decide +kernel)⟩))⟩)
  | al l ps rs=>exact aL (aL ⟨_,rfl,t,_,_,_,rfl,rfl,bF.of (s3 _ _ ht),at0 _ _,rfl,_,rfl,aL (aL (go _ _ ⟨rfl,s3,plain (show ("all" : Str)≠"back" by decide +kernel) (show ("all" : Str)≠"again" by decide +kernel)⟩))⟩)
  | st n=>exact aL (aL ⟨_,rfl,t,_,_,_,rfl,rfl,bF.of (s3 _ _ ht),at0 _ _,rfl,_,rfl,aL (aL (go _ _ ⟨rfl,s3,plain (show ("strike" : Str)≠"back" by decide +kernel) (show ("strike" : Str)≠"again" by decide +kernel)⟩))⟩)
  | co n p r=>exact aL (aL ⟨_,rfl,t,_,_,_,rfl,rfl,bF.of (s3 _ _ ht),at0 _ _,rfl,_,rfl,aL (aL (go _ _ ⟨rfl,s3,plain (show ("correct" : Str)≠"back" by decide +kernel) (show ("correct" : Str)≠"again" by decide +kernel)⟩))⟩)
  | ba =>
   refine bR ⟨_,rfl,m,_,rfl,R3.gB,small 0x4,fun l hl=>?_⟩;have s5:=aq hl (.lst []);refine ⟨b,l,_,rfl,rfl,bf.of (s5 _ _ R3.b),bf.of ak,_,rfl,?_⟩;have Uz:=s3.trans s5;generalize upd H3 l (.lst [])=H5 at s5 Uz ⊢;cases bs with
   | nil=>exact bR (yes H5 s5 (.inl ⟨rfl,rfl⟩))
   | cons x r=>exact aL ⟨_,rfl,t,_,_,_,rfl,rfl,bF.of (Uz _ _ ht),at0 _ _,rfl,_,rfl,aL (aL (go _ _ ⟨rfl,Uz,fun h=>by
     rcases h with ⟨_,h⟩ | ⟨h,_⟩
     ·cases h
     ·exact absurd h (show ("back" : Str)≠"again" by decide +kernel)⟩))⟩
  | ag =>
   refine aL (aL ⟨_,rfl,t,_,_,_,rfl,rfl,bF.of (s3 _ _ ht),at0 _ _,rfl,_,rfl,bR ⟨_,rfl,m,_,rfl,R3.gA,small 0x4,fun l hl=>?_⟩⟩);have s5:=aq hl (.lst []);refine ⟨a,l,_,rfl,rfl,bf.of (s5 _ _ R3.a),bf.of ak,_,rfl,?_⟩;have Uz:=s3.trans s5;generalize upd H3 l (.lst [])=H5 at s5 Uz ⊢;cases as with
   | nil=>exact bR (yes H5 s5 (.inr ⟨rfl,rfl⟩))
   | cons x r=>exact aL (go _ _ ⟨rfl,Uz,fun h=>by
     rcases h with ⟨h,_⟩ | ⟨_,h⟩
     ·exact absurd h (show ("again" : Str)≠"back" by decide +kernel)
     ·cases h⟩)
 rintro σ' H4 ⟨rfl,s4,hno⟩;have R4:=R.same s4;refine ⟨_,rfl,_,rfl,m,t,en,b,a,fr,es,bs,as,T,pool,rfl,R4,by lia,s4 _ _ ht,hT.same s4,fun u en' es' H5 s5 hu hen hn5 hc=>⟨u,_,_,_,rfl,rfl,bF.of hu,at0 _ _,en',rfl,⟨_,bf.of hen.1⟩,fun D hD=>?_⟩⟩;have hlen:es'.length<=253:=by
  have h1:=congrArg List.length hc;rw [bL] at h1;have h2:=Tn.Uy (T:=T) (fr:=fr) (l:=es.map Ent.c) (Tn.rows hT);have h3:=Tn.DR hT;rw [bL] at h2;lia
 have hgs:∀ e∈es',dD e.r:=fun e he=>by
  have hm:e.c∈T.new fr 0x17:=by rw [<- hc];exact List.mem_map_of_mem he
  exact Tn.a0T hT (fun x hx=>by obtain ⟨e0,h0,rfl⟩:=List.mem_map.mp hx;exact hrw e0 h0) hm
 refine lY 1 (fun e=>V.ref e.p) (fun e=>rfl) hen.1 hen.2 0x1 hD fun H6 s6 hD6=>?_;have g6:=s4.trans (s5.trans s6);have hrk:Paired (fun a r=>H6 a=some (.tup (r.map kV))) (es'.map (·.p)) (es'.map fun e=>kR e.r):=by
  have:∀ l:List Ent,(∀ e∈l,dD e.r/\H6 e.p=some (.tup e.r))->Paired (fun a r=>H6 a=some (.tup (r.map kV))) (l.map (·.p)) (l.map fun e=>kR e.r):=by
   intro l
   induction l with
   | nil=>exact fun _=>.nil
   | cons x r ih=>exact fun h=>.cons (by rw [DX (h x (List.mem_cons_self ..)).1];exact (h x (List.mem_cons_self ..)).2) (ih fun e he=>h e (jw _ he))
  exact this es' fun e he=>⟨hgs e he,s6 _ _ (hen.2 e he).2⟩
 have hD6':H6 D=some (.lst ((es'.map (·.p)).map V.ref)):=by rw [hD6,List.map_map];rfl
 refine ⟨_,rfl,D,es'.map (·.p),es'.map (fun e=>kR e.r),rfl,bf.of hD6',hrk,by rw [bL];lia,fun l hl=>?_⟩;have s7:=aq hl (Ax l (fL (es'.map fun e=>kR e.r)).length);have l7:(upd H6 l (Ax l (fL (es'.map fun e=>kR e.r)).length)) l=some (Ax l (fL (es'.map fun e=>kR e.r)).length):=ak;generalize upd H6 l (Ax l (fL (es'.map fun e=>kR e.r)).length)=H7 at s7 l7 ⊢;have g7:=g6.trans s7;have hle:(fL (es'.map fun e=>kR e.r)).length<=es'.length:=by
  have:=sV (es'.map fun e=>kR e.r);rw [bL] at this;exact this
 have hnd:(fL (es'.map fun e=>kR e.r)).length=es'.length↔((T.new fr 0x17).map (·.2.2)).Nodup:=by
  rw [<- hc,List.map_map];have e1:=Q0 (l:=es'.map fun e=>kR e.r);rw [bL] at e1;rw [e1];exact QL hgs
 refine ⟨l,_,rfl,l7,by lia,_,rfl,D,_,rfl,.inl (bf.of (s7 _ _ hD6')),rfl,_,rfl,?_⟩;have fin:=kk H7 g7;unfold dz at fin;rw [if_neg (by rw [hall];decide),if_neg (by rw [hnum];decide),if_neg hno] at fin
 by_cases nd:((T.new fr 0x17).map (·.2.2)).Nodup
 ·rw [if_neg (not_not_intro nd)] at fin;refine uz (by rw [hnd.mpr nd,bL,bL]) fin
 ·rw [if_pos nd] at fin;have hne:¬ V.int (((fL (es'.map fun e=>kR e.r)).length:Nat):Int)=V.int ((((es'.map (·.p)).map V.ref).length:Nat):Int):=fun e=>nd (hnd.mp (by
   injection e with e;rw [bL,bL] at e;lia))
  rw [decide_eq_false hne];exact bR fin
end
theorem UG {l1 l2:List (Int×V)} (h:l1.Perm l2) (h1:l1.Pairwise fun x y=>x.1<y.1) (h2:l2.Pairwise fun x y=>x.1<y.1):l1=l2 :=
 List.Perm.eq_of_pairwise (le:=fun x y:Int×V=>x.1<y.1) (fun a b _ _ h3 h4=>by lia) h1 h2 h
def pr (e:Ent):Int×V:=(e.n,.ref e.p)
theorem yu {p:Addr} (h:H p=some (.tup r)) (hg:dD r):Oa H (n+2) (.ref p) (.ref p):=by
 refine .inr (.inl ⟨p,p,r,r,rfl,rfl,h,h,rfl,?_,fun i x y hx hy=>?_⟩)
 ·obtain ⟨⟨k,rest,rfl,R⟩,_⟩:=hg;have:=R.len;rw [jT];lia
 ·rw [hx] at hy;injection hy with hy;refine .inl ⟨hy,?_⟩;have:=List.all_eq_true.mp hg.2 x (jL hx);cases x with
  | int i=>rfl
  | str z=>rfl
  | non=>rfl
  | bl _=>rfl
  | yC _=>cases this
  | flt _=>cases this
  | ref _=>cases this
  | ty _=>cases this
theorem QS {q:Addr}{es:List Ent} (hq:H q=some (.lst (as.map V.ref))) (hi:Items H as (es.map pr)) (hL:iV H L es) (hg:∀ e∈es,dD e.r) (hl:es.length<=1000):Oa H (n+4) (.ref q) (.ref L):=by
 refine .inr (.inr ⟨q,L,_,_,rfl,rfl,hq,hL.1,?_,?_,fun i x y hx hy=>?_⟩)
 ·rw [bL,bL,hi.1,bL]
 ·rw [bL,hi.1,bL];exact hl
 ·rw [iK] at hx hy;obtain ⟨a,ha,rfl⟩:=Option.map_eq_some_iff.mp hx;obtain ⟨e,he,rfl⟩:=Option.map_eq_some_iff.mp hy;have me:=jL he;have h1:=hi.2 i a (pr e) ha (by rw [iK,he];rfl);obtain ⟨h2,h3⟩:=hL.2 e me;refine .inr (.inl ⟨a,e.q,_,_,rfl,rfl,h1,h2,rfl,by simp,fun j x y hx hy=>?_⟩)
  match j,hx,hy with
  | 0,hx,hy =>
   have ex:x=V.int e.n:=by simpa [pr] using hx.symm
   have ey:y=V.int e.n:=by simpa using hy.symm
   subst ex;subst ey;exact .inl ⟨rfl,rfl⟩
  | 1,hx,hy =>
   have ex:x=V.ref e.p:=by simpa [pr] using hx.symm
   have ey:y=V.ref e.p:=by simpa using hy.symm
   subst ex;subst ey;exact yu h3 (hg e me)
  | j+2,hx,hy=>simp at hx
inductive QT (C:Addr) (vs:List V) (H:Hp) (Q:VK):Prop
 | mk (x dx st d e l:Addr) (n k:Int) (kvs:List (Prod Int V)) (rs ls:List V) (m en b a:Addr) (fr:Nat) (es:List Ent) (bs as:List jr) (_:vs=[.ref x,.ref m]) (_:bV C H x dx st d e l n k (fr:Int) kvs rs ls) (_:gK H m en b a fr es bs as) (_:kvs.Perm (es.map pr)) (_:es.Pairwise (fun x y=>x.n<y.n)) (_:es.length<64) (_:(∀ e∈es,dD e.r)) (_:∀ H',Same H H'->Q (.bl true) H'):QT C vs H Q
def YC (C:Addr):Sp:=fun vs H Q _=>QT C vs H Q
section
variable {f:Addr}
theorem scIs:aY ["_law_roll", "_law_model"] ["_law_roll", "_law_model"] (aH XR):=0x0
theorem a0U (T:fO K C) (F:gQ K "_law_roll_is" "_law_roll_is" XR f fd) (Kc:mg "list"=none)  (G1:aX P w K mg base cU 4 g1 d1 ["_law_found", "_law_due"] (oU 4)) (M1:Ms K mg "_law_same" g1 d1 ["_law_found", "_law_due"])
  {k2 k3:Nat} (h2:k2<=4) (h3:k3<=4) (G2:aX P w K mg base cU k2 g2 d2 ["self"] (xR C)) (m2:Meth K C "rows" g2) (b2:Binds K d2 ["self"] []) (G3:aX P w K mg base cU k3 g3 d3 ["self"] (VL C)) (m3:Meth K C "free" g3) (b3:Binds K d3 ["self"] []):aX P w K mg base cU 5 f fd ["_law_roll", "_law_model"] (YC C):=by
 refine F.ok scIs 0xA 0x3
 ·obtain ⟨x,dx,st,d,e,l,n,k,kvs,rs,ls,m,en,b,a,fr,es,bs,as,rfl,_⟩:=h;rfl
 obtain ⟨x,dx,st,d,e,l,n,k,kvs,rs,ls,m,en,b,a,fr,es,bs,as,rfl,R,B,hp,hup,hl,hg,kk⟩:=h;have hr2:cI k2 _:=hr.mono h2;have VD:cI k3 _:=hr.mono h3;refine tM.out ⟨_,aV (bH ⟨jz (bB G1 hr rfl M1.m M1.k M1.b .nil bN (aj (gq (E:=E0) 0x10 T.cl m2 G2 hr2 b2 .nil bN) (aj (bM cN rfl Kc eO (aj (cC (u1 hr) (pv 1) aD 0x9) ao)) ao)))
  (jV (bB G1 hr rfl M1.m M1.k M1.b .nil bN (aj (gq (E:=E0) 0x10 T.cl m3 G3 VD b3 .nil bN) (aj (cC (u1 hr) (pv 1) aD 0x9) ao))))⟩),?_⟩
 have hkl:kvs.length<64:=by have:=hp.length_eq;rw [bL] at this;lia
 refine ⟨_,rfl,x,dx,_,rfl,R.o,rfl,x,dx,st,d,e,l,n,k,_,kvs,rs,ls,rfl,R,hkl,fun q as' ys H1 s1 hq0 hq1 hperm hys hit=>?_⟩;have B1:=B.same s1;refine ⟨_,rfl,m,_,rfl,B1.gE,en,_,rfl,.inl (bf.of B1.en.1),fun L hL=>?_⟩;have s2:=aq hL 0x13;have L2v:(upd H1 L 0x13) L=some 0x13:=ak;generalize upd H1 L 0x13=H2 at s2 L2v ⊢;have eys:ys=es.map pr:=UG (hperm.trans hp) hys (by rw [List.pairwise_map];exact hup);subst eys;have it2:Items H2 as' (es.map pr):=⟨hit.1,fun j a y h1 h2=>s2 _ _ (hit.2 j a y h1 h2)⟩;have B2:=B1.same s2;refine ⟨_,_,rfl,QS (n:=0) (s2 _ _ hq1) it2 ⟨L2v,B2.en.2⟩ hg 0x1,fun H3 s3=>?_⟩;have g3:=(show Same H H1 from s1).trans (s2.trans s3)
 have R3:=R.same g3;refine ⟨_,rfl,bR ?_⟩;refine ⟨_,rfl,x,dx,_,rfl,R3.o,rfl,x,dx,st,d,e,l,n,k,_,kvs,rs,ls,rfl,R3,?_⟩;exact ⟨_,rfl,m,_,rfl,(B2.same s3).gF,_,_,rfl,.inl ⟨rfl,rfl⟩,fun H4 s4=>kk H4 (g3.trans s4)⟩
end
end M
namespace L2
open PySem PySem.Spec PyProof.Rows
inductive QV (K:PySem.W.Frag) (x y:V) (H:Hp) (Q:VK):Prop
 | mk (a b:Addr) (as:List Addr) (_:x=.ref a) (_:y=.ref b) (_:bf K H a (as.map V.ref)) (_:bf K H b (as.map V.ref)) (_:Q (.bl true) H):QV K x y H Q
def rEqS (K:PySem.W.Frag):R2:=fun x y H Q=>QV K x y H Q
theorem YD (hu:X.A.units<cLine):jM X (compareOp .Eq) (rEqS X.K):=by
 intro pins s σ H x y v u Q I rx ry h;obtain ⟨a,b,as,rfl,rfl,ha,hb,q⟩:=h;cases rx;cases ry;obtain ⟨its,r1,p1,_⟩:=I.list ha;obtain ⟨its2,r2,p2,_⟩:=I.list hb;have e1:=lU r1;have e2:=lU r2;subst e1;subst e2;refine SeqAt.eq_listAt (e:=fun _=>true) p1.isList p2.isList rfl hu (fun j h1 h2=>SeqAt.EqAt.same _) ?_;have:(List.range (as.map Value.ref).toArray.size).all (fun _=>true)=true:=by simp
 rw [this];exact ⟨.bl true,H,I,rfl,q⟩
end L2
namespace M
open PySem L2 PyProof.Rows
def JV (C CF CN CT CH:Addr) (K:PySem.W.Frag) (x t:Addr) (H:Hp) (Q:VK) (E:XK):Tn->Prop
 | .en p _=>yd C CF CT K [.ref x,.ref p] H Q E
 | .st n=>tD C CN [.ref x,.int n] H Q E
 | .co n p _=>oX C CF CN CT K [.ref x,.int n,.ref p] H Q E
 | .ba=>DN C CH [.ref x] H Q E
 | .ag=>yh C CH [.ref x] H Q E
 | .al l ps _=>H l=some (.lst (ps.map V.ref))/\∀ h,H h=none->∀ Q1:VK,(∀ q ns H1,H1 q=some (.lst ns)->ns.length<=1000->q≠h->H1 h=some (.lst (ps.map V.ref))->H1 l=some (.lst (ps.map V.ref))->H1 t=some (.tup [.str "all",.ref l]) ->
   (∀ k,H1 k=none->Q (.ref k) (upd (upd (upd H1 k (.lst ns)) h (.lst [])) q (.lst (ns++[.int 0]))))->Q1 (.ref q) H1)->jH C CF CT K [.ref x,.ref h] (upd H h (.lst (ps.map V.ref))) Q1 E
inductive QW (C CF CN CT CH:Addr) (K:PySem.W.Frag) (vs:List V) (H:Hp) (Q:VK) (E:XK):Prop
 | mk (x dx t st e l:Addr) (n m:Int) (T:Tn) (_:vs=[.ref x,.ref t]) (_:H x=some (.ins C dx (FR n m st e l))) (_:H t=some (.tup T.vs)) (_:JV C CF CN CT CH K x t H Q E T):QW C CF CN CT CH K vs H Q E
def spDo (C CF CN CT CH:Addr) (K:PySem.W.Frag):Sp:=fun vs H Q E=>QW C CF CN CT CH K vs H Q E
section
variable {f:Addr}
theorem UJ:aY ["_law_roll", "_law_turn_here", "_law_handed", "_law_told_here", "_law_kept"] ["_law_roll", "_law_turn_here"] (aH XQ):=0x0
theorem a0V (T0:fO K C) (F:gQ K "_law_roll_do" "_law_roll_do" XQ f fd) (Kc:mg "list"=none) {g6:Addr}{d6:FuncData}
  (G1:aX P w K mg base (iC P w) 6 g1 d1 ["self", "row"] (yd C CF CT K)) (m1:Meth K C "enter" g1) (b1:Binds K d1 ["self", "row"] [])
  (G2:aX P w K mg base (iC P w) 5 g2 d2 ["self", "rows"] (jH C CF CT K)) (m2:Meth K C "enter_all" g2) (b2:Binds K d2 ["self", "rows"] [])
  (G3:aX P w K mg base (iC P w) 2 g3 d3 ["self", "number"] (tD C CN)) (m3:Meth K C "strike" g3) (b3:Binds K d3 ["self", "number"] [])
  (G4:aX P w K mg base (iC P w) 5 g4 d4 ["self", "number", "row"] (oX C CF CN CT K)) (m4:Meth K C "correct" g4) (b4:Binds K d4 ["self", "number", "row"] [])
  (G5:aX P w K mg base (iC P w) 1 g5 d5 ["self"] (DN C CH)) (m5:Meth K C "back" g5) (b5:Binds K d5 ["self"] [])
  (G6:aX P w K mg base (iC P w) 1 g6 d6 ["self"] (yh C CH)) (m6:Meth K C "again" g6) (b6:Binds K d6 ["self"] []):aX P w K mg base (iC P w) 7 f fd ["_law_roll", "_law_turn_here"] (spDo C CF CN CT CH K):=by
 obtain ⟨oc,od,kV,doc,pm,an,cdv,ct,osl,rfl,lk,hcd⟩:=F.ex;refine jZ lk hcd UJ 0xA fun A outer s H vs Q E hr h=>?_
 ·obtain ⟨x,dx,t,st,e,l,n,m,T,rfl,_⟩:=h;rfl
 obtain ⟨x,dx,t,st,e0,l0,n0,m0,T,rfl,hx,ht,k⟩:=h;have hr5:cI 5 _:=hr.mono 0x8;have hr2:cI 2 _:=hr.mono 0x8;have hr1:cI 1 _:=hr.mono 0x8;refine tM.out ⟨_,aG (cM 0xD (aV (bH ⟨fY (CX:=iC P w) (E:=E) 0x10 T0.cl m1 G1 hr b1 .nil dO (aj (aK bA (pv 1) au aR) ao)⟩)) bI)
  (aG (cM 0xD
   (aG (cg (i:=2) UJ.nd rfl 0x5 ⟨bM cN rfl Kc eO (aj (aK bA (pv 1) au aR) ao)⟩)
   (aG (cg (i:=3) UJ.nd rfl 0x5 ⟨fY (CX:=iC P w) (E:=E) 0x10 T0.cl m2 G2 hr5 b2 .nil dO (aj (pv 2) ao)⟩)
   (aG (cg (i:=4) UJ.nd rfl 0x5 ⟨Kq (aN (YD (u0 hr.units)) (pv 2) (aK bA (pv 1) au aR) (aZ _)) (bM cN rfl Kc eO (aj (pv 3) ao)) aD⟩)
   (aG ⟨bW (qT (name:="clear") PySem.F.plainAttrs_list PySem.F.slot_list_clear PySem.F.type_list_clear Lp (pv 2))⟩
   (aG ⟨bW (gw PySem.F.plainAttrs_list PySem.F.slot_list_append PySem.F.type_list_append c7 (pv 3) (aj au ao))⟩
   (aV (bH (wv 4)))))))) bI)
  (aG (cM 0xD (aV (bH ⟨fY (CX:=iC P w) (E:=E) 0x10 T0.cl m3 G3 hr2 b3 .nil dO (aj (aK bA (pv 1) au aR) ao)⟩)) bI)
  (aG (cM 0xD (aV (bH ⟨fY (CX:=iC P w) (E:=E) 0x10 T0.cl m4 G4 hr5 b4 .nil dO (aj (aK bA (pv 1) au aR) (aj (aK bA (pv 1) au aR) ao))⟩)) bI)
  (aG (cM 0xD (aV (bH ⟨gq (CX:=iC P w) (E:=E) 0x10 T0.cl m5 G5 hr1 b5 .nil dO⟩)) bI)
  (aV (bH ⟨gq (CX:=iC P w) (E:=E) 0x10 T0.cl m6 G6 hr1 b6 .nil dO⟩)))))),?_⟩
 refine ⟨_,rfl,t,_,_,_,rfl,rfl,bF.of ht,T.v0,rfl,_,rfl,?_⟩;cases T with
 | en p r=>exact bR ⟨_,rfl,x,dx,_,rfl,hx,rfl,_,rfl,t,_,_,_,rfl,rfl,bF.of ht,bh (j:=1) rfl,k⟩
 | al l ps rs =>
  refine aL ⟨_,rfl,t,_,_,_,rfl,rfl,bF.of ht,at0 _ _,rfl,_,rfl,bR ?_⟩;obtain ⟨hl,k⟩:=k;refine ⟨_,rfl,t,_,_,_,rfl,rfl,bF.of ht,bh (j:=1) rfl,l,_,rfl,.inl (bf.of hl),fun h hh=>?_⟩;have x1:=(aq hh (.lst (ps.map V.ref))) _ _ hx;refine ⟨_,rfl,x,dx,_,rfl,x1,rfl,_,rfl,?_⟩;dsimp only [oJ,List.cons_append,List.nil_append];refine k h hh _ fun q ns H1 hq hn nqh hh1 hl1 ht1 kq=>?_;refine ⟨_,rfl,_,rfl,t,_,_,_,rfl,rfl,bF.of ht1,bh (j:=1) rfl,h,l,ps,rfl,rfl,bf.of hh1,bf.of hl1,_,rfl,bR ?_⟩;refine ⟨_,rfl,q,_,rfl,.inl (bf.of hq),fun k2 hk2=>?_⟩;have s2:=aq hk2 (.lst ns);have h2:=s2 _ _ hh1;have q2:=s2 _ _ hq;have fin:=kq k2 hk2;generalize upd H1 k2 (.lst ns)=H2 at s2 h2 q2 fin ⊢;refine ⟨_,rfl,.inl ⟨rfl,_,bf.of h2⟩,h,_,rfl,rfl,h2,?_⟩;have q3:(upd H2 h (.lst [])) q=some (.lst ns):=by rw [aA nqh];exact q2
  refine ⟨_,rfl,.inl ⟨rfl,_,bf.of q3⟩,q,_,_,rfl,rfl,q3,bY 0x1,?_⟩;exact ⟨_,rfl,fin⟩
 | st n=>exact aL ⟨_,rfl,t,_,_,_,rfl,rfl,bF.of ht,at0 _ _,rfl,_,rfl,aL ⟨_,rfl,t,_,_,_,rfl,rfl,bF.of ht,at0 _ _,rfl,_,rfl,bR ⟨_,rfl,x,dx,_,rfl,hx,rfl,_,rfl,t,_,_,_,rfl,rfl,bF.of ht,bh (j:=1) rfl,k⟩⟩⟩
 | co n p r=>exact aL ⟨_,rfl,t,_,_,_,rfl,rfl,bF.of ht,at0 _ _,rfl,_,rfl,aL ⟨_,rfl,t,_,_,_,rfl,rfl,bF.of ht,at0 _ _,rfl,_,rfl,aL ⟨_,rfl,t,_,_,_,rfl,rfl,bF.of ht,at0 _ _,rfl,_,rfl,bR ⟨_,rfl,x,dx,_,rfl,hx,rfl,_,rfl,t,_,_,_,rfl,rfl,bF.of ht,bh (j:=1) rfl,_,rfl,t,_,_,_,rfl,rfl,bF.of ht,bh (j:=2) rfl,k⟩⟩⟩⟩
 | ba=>exact aL ⟨_,rfl,t,_,_,_,rfl,rfl,bF.of ht,at0 _ _,rfl,_,rfl,aL ⟨_,rfl,t,_,_,_,rfl,rfl,bF.of ht,at0 _ _,rfl,_,rfl,aL ⟨_,rfl,t,_,_,_,rfl,rfl,bF.of ht,at0 _ _,rfl,_,rfl,aL ⟨_,rfl,t,_,_,_,rfl,rfl,bF.of ht,at0 _ _,rfl,_,rfl,bR ⟨_,rfl,x,dx,_,rfl,hx,rfl,k⟩⟩⟩⟩⟩
 | ag=>exact aL ⟨_,rfl,t,_,_,_,rfl,rfl,bF.of ht,at0 _ _,rfl,_,rfl,aL ⟨_,rfl,t,_,_,_,rfl,rfl,bF.of ht,at0 _ _,rfl,_,rfl,aL ⟨_,rfl,t,_,_,_,rfl,rfl,bF.of ht,at0 _ _,rfl,_,rfl,aL ⟨_,rfl,t,_,_,_,rfl,rfl,bF.of ht,at0 _ _,rfl,_,rfl,aL ⟨_,rfl,x,dx,_,rfl,hx,rfl,k⟩⟩⟩⟩⟩
end
end M
namespace L2
open PySem PySem.Spec PySem.W PySem.Calls PyProof.Rows
theorem JW:typeLookup (.type "list") "keys"=pure none:=am_miss_of_fast 0xE
theorem vH:entryFor table "dict.update.loop"=some Builtin.«dict.update.loop»:=entryFor_of_tree (by kernel_rfl)
theorem lZ:plainId "dict.update.loop"=true:=by decide +kernel
theorem JX {o:Obj}{xs:Array Value}{k:Nat}{Q:Option Value->Shared->Prop}
  (hx:s.heap.get? a=some o) (hc:o.cls=.type "list") (hdat:o.data=.seq xs k) (hd:o.dict=none) (hA:A.handled=none)
  (h:∀ h' tk e,Heap.NewExcOf s.heap h' e "AttributeError"->Q none { s with heap:=h',toks:=tk }) :
  wpAny 0xB A (getAttr? (.ref a) "keys") Q E s:=by
 obtain ⟨c,dct,dat,sl⟩:=o;simp only at hc hdat hd;subst hc hdat hd;obtain ⟨hp,g,d,tk,os⟩:=s;have hT:∀ tk',(⟨hp,g,d,tk',os⟩:Shared).TypeIs (.ref a) "list":=fun _=>⟨_,hx,rfl⟩;have f1:=sub_AttributeError;have f3:=PySem.F.slot_list_getattribute.lookup;have f4:=PySem.F.slot_list_getattribute.bind (.ref a);have f5:=am_list_getattr_none;unfold getAttr? getAttrBy? getAttrBy
 repeat (any_goals (first | assumption | exact hT _ | ((with_reducible show wpAny _ _ (call (Value.builtin "list.__getattribute__") _ _) _ _ _);refine call_meets PySem.F.slot_list_getattribute (hT _) am_entry_list_getattribute (PySem.F.args_list_getattribute_2 _ _) (meets_getattribute_miss_list a xs k sl "keys" _ JW (by decide +kernel) (by decide +kernel)) ⟨hx,hA,fun h' tk' e hx'=>?_⟩) | wp_step))
 obtain ⟨t',u',he⟩:=hx'.there
 show wpAny _ _ (getattributeRaised _ _ _ _ _ _ _) _ _ _
 unfold getattributeRaised
 repeat (any_goals (first | assumption | wp_step))
 exact h _ _ _ hx'.of
def iW {K:Type} [DecidableEq K] (knd:KeyKind prog w K) (h:Heap) (its:List Value) (ps:List (K×Value)):Prop :=
 its.length=ps.length/\∀ (i:Nat) v,its[i]?=some v->∃ k u b key o n,ps[i]?=some (k,u)/\v=Value.ref b/\h.get? b=some o/\o.cls=.type "tuple"/\o.data=.seq #[key,u] n/\knd.is k key=true
theorem iW.at {K:Type} [DecidableEq K] {knd:KeyKind prog w K}{ps:List (K×Value)} (x:iW knd h its ps) (k:∀ b o,h.get? b=some o->o.cls=.type "tuple"->h'.get? b=some o):iW knd h' its ps :=
 ⟨x.1,fun i v hv=>by
  obtain ⟨kk,u,b,key,o,n,h1,h2,h3,h4,h5⟩:=x.2 i v hv;exact ⟨kk,u,b,key,o,n,h1,h2,k b o h3 h4,h4,h5⟩⟩
theorem Eb {K:Type} [DecidableEq K] (kvs:List (K×Value)) (k:K) (v:Value):(stored kvs k v).length<=kvs.length+1:=by
 unfold stored
 split <;> simp
section
variable {K:Type} [DecidableEq K] {knd:KeyKind prog w K}
theorem pair_items {o:Obj}{key:Value}{Q:List Value->Shared->Prop} (hb:s.heap.get? b=some o) (hc:o.cls=.type "tuple") (hd:o.data=.seq #[key,u] n) (h:Q [key,u] s):wpAny 0xB A (Builtin.Dict.pairItems (.ref b)) Q E s:=by
 obtain ⟨c,dct,dat,sl⟩:=o;simp only at hc hd;subst hc hd;obtain ⟨hp,g,d,tk,os⟩:=s;have hT:(⟨hp,g,d,tk,os⟩:Shared).TypeIs (.ref b) "tuple":=⟨_,hb,rfl⟩;unfold Builtin.Dict.pairItems
 repeat (any_goals (first | assumption | wp_step))
variable {R:Result->Shared->Prop}{I:Addr}{wr:List Addr}{G:Array GenState->Array GenState->Prop}{P:Nat->Value->Prop}{St:Nat->Shared->Prop}
theorem Ec (W:WalksS prog w A.in1 I fp wr G n P St) (S:Addr) (hSf:S∉fp) (its:List Value) (l:List (K×Value)) (hn:l.length=n) (hval:∀ i v,P i v->its[i]?=some v) (hb:n<=1000)
  (hwr:∀ (s:Shared) (i:Nat),St i s->∀ b∈wr,∃ o,s.heap.get? b=some o/\o.cls≠.type "tuple") :
  ∀ (k i:Nat) (j:Int) (t:Tok) (s:Shared) (acc:List (K×Value)),n - i=k->i<=n->acc.length<=i->St i s->s.heap.DictOf knd S acc->iW knd s.heap its l->(∀ s',Moved (S::wr) G s s'->s'.heap.DictOf knd S ((l.drop i).foldl (fun a p=>stored a p.1 p.2) acc)->R (.ok (.ret .none)) s') ->
   codeAny 0xB A (.builtin "dict.update.loop" ⟨[.ref S,.ref I,.int j t,.none],[]⟩) R s:=by
 have hSw:S∉wr:=fun h=>hSf (W.sub _ h);have sub:∀ b∈wr,b∈S::wr:=fun b hb=>jw _ hb;intro k
 induction k with
 | zero =>
  intro i j t s acc hk hi ha st hS hT hR;have hin:i=n:=by lia
  subst hin;refine codeAny_builtin vH ?_;rw [Around.under_plainId lZ _]
  show wpAny _ A.in1 (pyNext (.ref I) >>= _) _ _ s
  refine wpAny_bind (W.done s _ _ st fun s' hm=>?_);rw [<- hn,List.drop_length] at hR;have hS':s'.heap.DictOf knd S acc:=by
   obtain ⟨o,es,ep,ho,r⟩:=hS;exact ⟨o,es,ep,hm.heap _ _ hSw ho,r⟩
  exact wpAny_bind (wpAny_pure (wpAny_pure (hR s' (hm.mono sub) hS')))
 | succ k ih =>
  intro i j t s acc hk hi ha st hS hT hR;have hlt:i<n:=by lia
  refine codeAny_builtin vH ?_;rw [Around.under_plainId lZ _]
  show wpAny _ A.in1 (pyNext (.ref I) >>= _) _ _ s
  refine wpAny_bind (W.item i s _ _ hlt st fun v s' hP st' hm=>?_);have hS':s'.heap.DictOf knd S acc:=by
   obtain ⟨o,es,ep,ho,r⟩:=hS;exact ⟨o,es,ep,hm.heap _ _ hSw ho,r⟩
  have hT':iW knd s'.heap its l:=hT.at fun b o hbo hc=>by
   refine hm.heap b _ (fun hbw=>?_) hbo;obtain ⟨o',ho',hne⟩:=hwr s i st b hbw;rw [hbo] at ho';injection ho' with ho';exact hne (by rw [<- ho'];exact hc)
  obtain ⟨kx,ux,bx,key,ob,nb,hk1,rfl,hk2,hk3,hk4,hk5⟩:=hT'.2 i v (hval i v hP)
  show wpAny _ A.in1 (holding [Value.ref bx] _ >>= _) _ _ s'
  refine wpAny_bind (wpAny_holding (wpAny_bind (wpAny_tryCatch (pair_items hk2 hk3 hk4 ?_))));refine wpAny_holding (wpAny_dictSet_pairs hk5 hS' (fun h' hD sb=>?_) ?hsz)
  case hsz=>exact Nat.le_trans ha (Nat.le_trans (Nat.le_of_lt hlt) (Nat.le_trans hb 0xE))
  have eI:l.drop i=(kx,ux)::l.drop (i+1):=by
   have hi':i<l.length:=by lia
   rw [List.drop_eq_getElem_cons hi'];rw [dB hi'] at hk1;injection hk1 with hk1;rw [hk1]
  rw [eI,List.foldl_cons] at hR;have Yn:iW knd h' its l:=hT'.at fun b o hbo hc=>by
   have hne:b≠S:=fun e=>by
    subst e;obtain ⟨oS,es,ep,hoS,hcS,r⟩:=hS';rw [hoS] at hbo;injection hbo with hbo;rw [<- hbo,hcS.1] at hc;injection hc with hc;exact absurd hc 0x8
   exact sb.extBut _ _ hne hbo
  refine wpAny_pure ⟨plainId_quiet lZ _,ih (i+1) _ _ _ _ 0x1 hlt (Nat.le_trans (Eb ..) 0x1) (W.frame _ s' _ _ st' (Nat.le_add_right _ _) fun b hb o e=>?_) hD Yn fun s2 hm2 hS2=>?_⟩
  ·rw [sb.2 b (fun h:b=S=>hSf (by rw [<- h];exact hb))];exact e
  ·refine hR s2 (Moved.trans W.gtrans ((hm.mono sub).then_heap (Nat.le_add_right _ _) fun b o hb e=>?_) hm2) hS2;rw [sb.2 b (fun h:b=S=>hb (by rw [h];exact List.mem_cons_self))];exact e
set_option maxRecDepth 100000 in
theorem Ed {o:Addr}{l:List (K×Value)} (hh:A.handled=none) (hl:PlainL s.heap o its.toArray) (hi:iW knd s.heap its l) (hb:l.length<=1000)
  (h:∀ (h':Heap) (tk:Nat),h'.DictOf knd s.heap.objs.size (l.foldl (fun a p=>stored a p.1 p.2) [])->(∀ b o,s.heap.get? b=some o->h'.get? b=some o)->Q 0x23 { s with heap:=h',toks:=tk }) :
  wpAny 0xB A (call (.type "dict") [.ref o]) Q E s:=by
 refine callType_codes (Q₁:=fun obj s₁=>obj=.ref s.heap.objs.size/\s₁={ s with heap:=s.heap.push { cls:=.type "dict",data:=.dict #[] } }) PySem.F.kt_called_dict (PySem.F.kt_typeCall_dict_1 _) PySem.F.entry_dict_init (kt_code_dict_new _ ⟨rfl,rfl⟩) ?_;rintro obj s₁ ⟨rfl,rfl⟩;have hnew:(s.heap.push { cls:=.type "dict",data:=.dict #[] }).DictOf knd s.heap.objs.size []:=Heap.DictOf.new s.heap;obtain ⟨ol,nl,hol,hc,hd,hs⟩:=hl;have hol':(s.heap.push { cls:=.type "dict",data:=.dict #[] }).get? o=some ol:=Heap.get?_push_of_some _ hol;have hT:Shared.TypeIs { s with heap:=s.heap.push { cls:=.type "dict",data:=.dict #[] } } (.ref o) "list":=⟨_,hol',hc⟩;refine ⟨hnew.typeIs,PySem.F.args_dict_init_2 _ _,?_⟩;unfold Builtin.«dict.__init__»;refine wpAny_bind ?_;unfold Builtin.Dict.selfAndRest;refine wpAny_bind (wpAny_notOrdered_dict hnew.typeIs ?_)
 show wpAny _ _ (pure (s.heap.objs.size,[Value.ref o])) _ _ _
 refine wpAny_pure ?_
 show wpAny _ _ (Builtin.Dict.updateFrom "dict.__init__" s.heap.objs.size (.ref o) [] .none) _ _ _
 unfold Builtin.Dict.updateFrom;refine wpAny_bind (wpAny_typeOf hT ?_);rw [if_pos 0x8];refine wpAny_bind (JX hol' hc hs hd (by simp [hh]) fun h' tk e hx=>?_);rw [if_pos (show (none:Option Value).isNone=true from rfl)]
 have Wf:h'.DictOf knd s.heap.objs.size []:=by
  obtain ⟨o,es,ep,ho,r⟩:=hnew;exact ⟨o,es,ep,hx.keeps _ _ ho,r⟩
 have hl1:h'.IsList o its.toArray:=⟨_,hx.keeps _ _ hol',hc,nl,hs⟩;refine wpAny_bind (wpAny_rule (wpAny_bind (wpAny_pyIter_list hl1 ?_)));have lS:o<s.heap.objs.size:=Heap.lt_size hol;have sS:s.heap.objs.size<h'.objs.size:=by
  obtain ⟨o,es,ep,ho,r⟩:=Wf;exact Heap.lt_size ho
 have ne_:o≠h'.objs.size:=Nat.ne_of_lt (Nat.lt_trans lS sS);have h3:A.in1.in1.handled=none:=by simp [hh]
 have nS:s.heap.objs.size∉[h'.objs.size,o]:=by
  simp only [List.mem_cons,List.mem_singleton,List.not_mem_nil,or_false,not_or];exact ⟨Nat.ne_of_lt sS,Nat.ne_of_gt lS⟩
 have hz:its.length=l.length:=hi.1;refine wpAny_pure ⟨plainId_quiet lZ _,?_⟩;refine Ec (knd:=knd) (l:=l) ((Walks.list h3 _ o ne_ its.toArray).toS) s.heap.objs.size nS its (by simp [hz]) (fun i v hv=>by simpa using hv) (by simpa [hz] using hb) ?hwr _ 0 _ _ _ [] rfl (Nat.zero_le _) 0x6 ⟨0x18,(hl1.push _)⟩ (Wf.push _) (hi.at fun b o hbo _=>Heap.get?_push_of_some _ (hx.keeps _ _ (Heap.get?_push_of_some _ hbo))) ?hR
 case hwr =>
  intro s' i st b hb;obtain ⟨⟨o,ho,hc,_⟩,_⟩:=st;rw [List.mem_singleton.mp hb];refine ⟨o,ho,fun e=>?_⟩;rw [hc] at e;injection e with e;exact absurd e 0x8
 case hR =>
  intro s' hm hS';obtain ⟨h2,g',d',tk',os'⟩:=s';have eg:g'=s.gens:=hm.gens;have ed:d'=s.drawn:=hm.drawn;have eo:os'=s.os:=hm.os;subst eg;subst ed;subst eo;refine ⟨rfl,h h2 tk' hS' fun b o e=>?_⟩;have hlt:=Heap.lt_size e;have b1:b≠s.heap.objs.size:=Nat.ne_of_lt hlt;have b2:b≠h'.objs.size:=Nat.ne_of_lt (Nat.lt_trans hlt sS);exact hm.heap b o (by simp only [List.mem_cons,List.mem_singleton,List.not_mem_nil,or_false,not_or];exact ⟨b1,b2⟩) (Heap.get?_push_of_some _ (hx.keeps _ _ (Heap.get?_push_of_some _ e)))
end
inductive Bl (K:PySem.W.Frag) (xs:List V) (H:Hp) (Q:VK):Prop
 | mk (p:Addr) (as:List Addr) (ps:List (Prod L2.Key V)) (_:xs=[.ref p]) (_:bf K H p (as.map V.ref)) (_:Paired (fun a q=>H a=some (.tup [kV q.1,q.2])) as ps) (_:ps.length<=1000) (_:∀ l,H l=none->Q (.ref l) (upd H l (.dK (dY [] ps)))):Bl K xs H Q
def YF (K:PySem.W.Frag):List V->Hp->VK->Prop:=fun xs H Q=>Bl K xs H Q
theorem QX {ps:List (Key×V)} (ok:jP P w H h) (hP:Paired (fun a q=>H a=some (.tup [kV q.1,q.2])) as ps):∃ rs,iW (bJ P w) h (as.map Value.ref) rs/\KV ps rs:=by
 induction hP with
 | nil=>exact ⟨[],⟨rfl,fun i v hv=>by simp at hv⟩,.nil⟩
 | @cons a q as ps ha t ih =>
  obtain ⟨rs,⟨i1,i2⟩,r⟩:=ih;obtain ⟨z,its,rv,⟨o,ho,hc,n,hd⟩⟩:=Rd.ok (.inl ha) ok;cases rv with
  | cons hk rv =>
   cases rv with
   | cons hv rv =>
    cases rv;refine ⟨(q.1,_)::rs,⟨by rw [List.map_cons,jT,jT,i1],fun i v hv'=>?_⟩,.cons ⟨rfl,hv⟩ r⟩;cases i with
    | zero =>
     rw [List.map_cons,List.getElem?_cons_zero] at hv';injection hv' with hv';exact ⟨_,_,_,_,o,n,rfl,hv'.symm,ho,hc,hd,pG hk⟩
    | succ j =>
     rw [List.map_cons,List.getElem?_cons_succ] at hv';obtain ⟨k,u,b,key,o',n',h1,h2⟩:=i2 j v hv';exact ⟨k,u,b,key,o',n',by rw [List.getElem?_cons_succ];exact h1,h2⟩
theorem Ef (hin:X.A.handled=none):dF X (.type "dict") (YF X.K):=by
 intro pins s σ H xs us Q I r h;obtain ⟨p,as,ps,rfl,hq,hP,hl,q⟩:=h;obtain ⟨u,rfl,ru⟩:=vals1 r;cases ru;obtain ⟨its,rv,pl,hz⟩:=I.list hq;have Nu:=lU rv;subst Nu;obtain ⟨rs,hT,rel⟩:=QX I.hok hP;have low:(s.heap.objs.size==sysModules)=false:=by
  obtain ⟨m,F⟩:=I.fr;have h1:sysModules<X.base.objs.size:=modules_low I.mod.nolimit;have h2:X.base.objs.size<=X.env.locals:=F.above;have h3:X.env.locals<s.heap.objs.size:=F.ns.lt;exact beq_eq_false_iff_ne.mpr (Nat.ne_of_gt (Nat.lt_trans (Nat.lt_of_lt_of_le h1 h2) h3))
 refine Ed (knd:=bJ X.prog X.w) hin pl hT (by rw [<- rel.length];exact hl) fun h' tk hS hk=>?_;have hm:=KV.merge rel (.nil:KV ([]:List (Key×V)) []);have h0:(dY [] ps).length<=sizeLine:=by
  have:=jf ps [];exact Nat.le_trans this (Nat.le_trans (by simpa using hl) 0xE)
 exact ⟨.ref s.heap.objs.size,_,I.laid (o:=.dK (dY [] ps)) (t':=tk) hk 0x6 ⟨h0,low,_,hm,hS⟩,rfl,q _ (I.hok.fresh 0x6)⟩
end L2
namespace M
open PySem L2 PyProof.Rows
theorem Bm:∀ {l acc:List (Int×V)},(acc++l).Pairwise (fun x y=>x.1<y.1)->dY (fj acc) (fj l)=fj (acc++l)
 | [],acc,_=>by rw [List.append_nil];rfl
 | p::l,acc,h=>by
  have h0:∀ q∈acc,q.1<p.1:=fun q hq=>(List.pairwise_append.mp h).2.2 q hq p (List.mem_cons_self ..);have e:dY (fj acc) (fj (p::l))=dY (putK (fj acc) (.inl p.1) p.2) (fj l):=rfl;rw [e,HS h0];have e2:acc++p::l=(acc++[p])++l:=by simp
  rw [e2] at h ⊢;exact Bm h
theorem UL {l:List (Int×V)}{n:Int} (h:l.Pairwise (fun x y=>x.1<y.1)) (hm:(n,v)∈l):fP l n=some v:=by
 induction l with
 | nil=>cases hm
 | cons p l ih =>
  unfold fP;rcases List.mem_cons.mp hm with e | hm'
  ·rw [<- e,List.find?_cons_of_pos 0x4];rfl
  ·have h1:=(List.pairwise_cons.mp h).1 _ hm';rw [List.find?_cons_of_neg (by simp;lia)];exact ih (List.pairwise_cons.mp h).2 hm'
def Wg (fr:Nat) (es:List Ent) (H:Hp) (Q:VK):Tn->Prop
 | .en _ _=>∀ H',Same H H'->Q (.int (fr:Int)) H'
 | .al _ ps _=>∀ q H',Same H H'->H' q=some (.lst (nums fr ps.length))->Q (.ref q) H'
 | .st n=>∃ e∈es,e.n=n/\∀ H',Same H H'->Q (.ref e.p) H'
 | .co n _ _=>∃ e∈es,e.n=n/\∀ H',Same H H'->Q (.ref e.p) H'
 | .ba=>∀ H',Same H H'->Q .non H'
 | .ag=>∀ H',Same H H'->Q .non H'
inductive Bo (vs:List V) (H:Hp) (Q:VK):Prop
 | mk (m t en b a:Addr) (fr:Nat) (es:List Ent) (bs as:List jr) (T:Tn) (pool:List (List V)) (_:vs=[.ref m,.ref t]) (_:gK H m en b a fr es bs as) (_:es.length<=900) (_:H t=some (.tup T.vs)) (_:T.At pool H) (_:es.Pairwise (fun x y=>x.n<y.n)) (_:Wg fr es H Q T):Bo vs H Q
def QZ:Sp:=fun vs H Q _=>Bo vs H Q
section
variable {f:Addr}
abbrev nTo:List Str:=["_law_model", "_law_turn_here", "_law_old"]
theorem scTo:aY nTo ["_law_model", "_law_turn_here"] (aH GJ):=0x0
def a0W:Scope:={ kind:=.function,names:=[(".0",.local),("_law_k",.local),("_law_model",.free)],isGenerator:=false,isCoroutine:=false }
theorem a0X:dw nTo (aH GJ) a0W ["_law_k"] ["_law_model"] [0]:=0x2
theorem a0Y:((["_law_k"]:List Str)++(["_law_model"]:List Str)).Nodup:=by decide +kernel
theorem UW (F:gQ K "_law_told" "_law_told" GJ f fd) (md:mg "dict"=none) (ml:mg "len"=none) (mr:mg "range"=none):aX P w K mg base cU 1 f fd ["_law_model", "_law_turn_here"] QZ:=by
 refine F.ok scTo 0xA 0x3
 ·obtain ⟨m,t,en,b,a,fr,es,bs,as,T,pool,rfl,_⟩:=h;rfl
 obtain ⟨m,t,en,b,a,fr,es,bs,as,T,pool,rfl,R,hes,ht,hT,hup,kk⟩:=h;refine tM.out ⟨_,aG (cg (i:=2) scTo.nd rfl 0x5 ⟨bM (Ef hr.hd) rfl md qw (aj 0x2E ao)⟩)
  (aG (cM 0xD (aV (bH ⟨cC (u1 hr) 0x10 aD 0x9⟩)) bI)
  (aG (cM 0xD (aV (bH ⟨eN rfl a0X (dh rfl mr (aj (aP bQ rfl ml PySem.boot_len (aj (aK bA (pv 1) au aR) ao)) ao)) (fun s H fp C=>⟨aO (i:=0) a0Y rfl 0x5,dN,aQ bZ (cC (u1 hr) (pv 1) aD 0x9) 0x10⟩)⟩)) bI)
  (aG (cM (aN jk (aK bA (pv 1) au aR) (cJ (aj aD (aj aD ao))) 0x16) (aV (bH ⟨cC (u1 hr) (pv 2) (aK bA (pv 1) au aR) 0x9⟩)) bI)
  (aV (bH ⟨vR⟩))))),?_⟩
 have hP:Paired (fun a q=>H a=some (.tup [kV q.1,q.2])) (es.map Ent.q) (fj (es.map pr)):=by
  have h2:=R.en.2;clear kk hup R hes
  induction es with
  | nil=>exact .nil
  | cons e es ih=>exact .cons (h2 e (List.mem_cons_self ..)).1 (ih fun x hx=>h2 x (jw _ hx))
 have eL:(es.map fun e=>V.ref e.q)=(es.map Ent.q).map V.ref:=by rw [List.map_map];rfl
 have hup':(es.map pr).Pairwise fun x y=>x.1<y.1:=by rw [List.pairwise_map];exact hup
 refine ⟨_,rfl,m,_,rfl,R.gE,en,_,_,rfl,bf.of (by rw [<- eL];exact R.en.1),hP,by simp [fj];lia,fun d hd=>?_⟩;have em:dY [] (fj (es.map pr))=fj (es.map pr):=Bm (acc:=[]) hup';rw [em];have s1:=aq hd (.dK (fj (es.map pr)));have d1:(upd H d (.dK (fj (es.map pr)))) d=some (.dK (fj (es.map pr))):=ak;generalize upd H d (.dK (fj (es.map pr)))=H1 at s1 d1 ⊢;have R1:=R.same s1;have t1:=s1 _ _ ht;have find:∀ e∈es,∀ H',Same H1 H'->gR H' d (V.int e.n) (some (.ref e.p)):=fun e he H' s'=>by
  have:=gR.k (k:=.inl e.n) (s' _ _ d1);rw [o9,UL hup' (List.mem_map.mpr ⟨e,he,rfl⟩)] at this;exact this
 refine ⟨_,rfl,t,_,_,_,rfl,rfl,bF.of t1,T.v0,rfl,_,rfl,?_⟩;cases T with
 | en p r=>exact bR ⟨_,rfl,m,_,rfl,R1.gF,kk _ s1⟩
 | al l ps rs =>
  refine aL ⟨_,rfl,t,_,_,_,rfl,rfl,bF.of t1,at0 _ _,rfl,_,rfl,bR ?_⟩;have hl1:=s1 _ _ hT.1;have h3:=hT.2.2.2;refine ⟨_,rfl,t,_,_,_,rfl,rfl,bF.of t1,bh (j:=1) rfl,l,_,rfl,.inl (bf.of hl1),?_⟩;rw [bL];refine ⟨_,rfl,by lia,by lia,fun D hD=>?_⟩;refine jD (lo:=0) (n:=ps.length) (fun i ys H5=>ys=nums fr i/\Same H1 H5/\H5 D=some (.lst ys)) ⟨rfl,aq hD _,ak⟩ (fun i ys H5 h=>h.2.2) ?_ ?_
  ·rintro i ys H5 hi ⟨rfl,s5,W9⟩;refine 0x21;refine dG ?_;refine ⟨_,rfl,m,_,rfl,(R1.same s5).gF,_,rfl,_,_,rfl,rfl,W9,?_,?_,aW s5 hD,ak⟩
   ·unfold nums;rw [bL,List.length_range];exact bY 0x1
   ·unfold nums;rw [List.range_succ,jO,Int.zero_add];rfl
  ·rintro ys H5 ⟨rfl,s5,W9⟩;exact kk D H5 (s1.trans s5) W9
 | st n =>
  obtain ⟨e,he,rfl,kq⟩:=kk;exact aL 0x1A
 | co n p r =>
  obtain ⟨e,he,rfl,kq⟩:=kk;exact aL 0x1A
 | ba =>
  exact aL ⟨_,rfl,t,_,_,_,rfl,rfl,bF.of t1,at0 _ _,rfl,_,rfl,aL ⟨_,rfl,t,_,_,_,rfl,rfl,bF.of t1,at0 _ _,small 0x4,fun q hq=>⟨q,_,rfl,.inr (bF.of ak),rfl,rfl,_,rfl,aL (kk _ (s1.trans (aq hq _)))⟩⟩⟩
 | ag =>
  exact aL ⟨_,rfl,t,_,_,_,rfl,rfl,bF.of t1,at0 _ _,rfl,_,rfl,aL ⟨_,rfl,t,_,_,_,rfl,rfl,bF.of t1,at0 _ _,small 0x4,fun q hq=>⟨q,_,rfl,.inr (bF.of ak),rfl,rfl,_,rfl,aL (kk _ (s1.trans (aq hq _)))⟩⟩⟩
end
theorem iu (h:X.K=K:=by rfl):dF X (.builtin "isinstance") (rIsX K):=h ▸ Mz
theorem JZ (h:X.K=K:=by rfl):jM X (compareOp .NotIn) (rIn K true):=h ▸ jC
def dg:List Str:=["NoForm", "NoEntry", "Twice", "NothingThere"]
def hot (i:Nat):List Bool:=[decide (i=0),decide (i=1),decide (i=2),decide (i=3)]
def Bp (bs:List Bool):List Str:=((dg.zip bs).filter (·.2)).map (·.1)
structure ClsT (K:PySem.W.Frag) (mg:Str->Option Value) (L CF CN CT CH c5 c6:Addr):Prop where
 mL:mg "LandError"=some (.ref L)
 m1:mg "NoForm"=some (.ref CF)
 m2:mg "NoEntry"=some (.ref CN)
 m3:mg "Twice"=some (.ref CT)
 m4:mg "NothingThere"=some (.ref CH)
 m5:mg "NoLand"=some (.ref c5)
 m6:mg "NoText"=some (.ref c6)
 x:∀ (i:Nat) c,[CF,CN,CT,CH][i]?=some c->XC K c/\PySem.W.exmOne K (.ref c) (.ref L)=some true/\∀ (j:Nat) d,[CF,CN,CT,CH][j]?=some d->PySem.W.kitOne K (.ref c) (.ref d)=some (decide (i=j))
 k5:PySem.W.kitOne K (.ref CF) (.ref c5)=some false
 k6:PySem.W.kitOne K (.ref CF) (.ref c6)=some false
def iI:List Bool:=[false,false,false,false]
theorem JV.mono {x t:Addr}{Q Q':VK}{E E':XK} (hQ:∀ v H1,Q v H1->Q' v H1) (hE:∀ c d H1,E c d H1->E' c d H1):∀ {T:Tn},JV C CF CN CT CH K x t H Q E T->JV C CF CN CT CH K x t H Q' E' T
 | .en p r,h=>by
  obtain ⟨x,dx,st,d,e,l,n,m,kvs,es,ls,p,r,fr,as,rows,h1,h2,h3,h4,h5,h6,h7,h8,h9,h10,h11,h12,a,b,c⟩:=h;exact ⟨x,dx,st,d,e,l,n,m,kvs,es,ls,p,r,fr,as,rows,h1,h2,h3,h4,h5,h6,h7,h8,h9,h10,h11,h12,fun u H' s=>hE _ _ _ (a u H' s),fun u v H' s=>hE _ _ _ (b u v H' s),fun u v d' st' l' H' y1 y2 y3 y4 y5=>hQ _ _ (c u v d' st' l' H' y1 y2 y3 y4 y5)⟩
 | .st n,h=>by
  obtain ⟨x,dx,st,d,e,l,n,m,fr,kvs,es,ls,k,h1,h2,h3,h4,a,b⟩:=h;exact ⟨x,dx,st,d,e,l,n,m,fr,kvs,es,ls,k,h1,h2,h3,h4,fun u=>hE _ _ _ (a u),fun v u d' st' l' H' y1 y2 y3 y4 y5=>hQ _ _ (b v u d' st' l' H' y1 y2 y3 y4 y5)⟩
 | .co n p r,h=>by
  obtain ⟨x,dx,st,d,e,l,n,m,fr,kvs,es,ls,k,p,r,as,rows,h1,h2,h3,h4,h5,h6,h7,h8,h9,h10,a,b,c⟩:=h;exact ⟨x,dx,st,d,e,l,n,m,fr,kvs,es,ls,k,p,r,as,rows,h1,h2,h3,h4,h5,h6,h7,h8,h9,h10,fun u H' s=>hE _ _ _ (a u H' s),fun u v H' s=>hE _ _ _ (b u v H' s),fun v u1 u2=>⟨fun z H' s=>hE _ _ _ ((c v u1 u2).1 z H' s),fun z d' st' l' H' y1 y2 y3 y4 y5=>hQ _ _ ((c v u1 u2).2 z d' st' l' H' y1 y2 y3 y4 y5)⟩⟩
 | .ba,h=>by
  obtain ⟨x,dx,st,d,e,l,n,m,fr,kvs,es,ls,h1,h2,h3,h4,h5,h6,a,b⟩:=h;refine ⟨x,dx,st,d,e,l,n,m,fr,kvs,es,ls,h1,h2,h3,h4,h5,h6,fun u=>hE _ _ _ (a u),fun Bc v u=>?_⟩;obtain ⟨yE,dJ,st2,d2,z,c⟩:=b Bc v u;exact ⟨yE,dJ,st2,d2,z,fun H' y1 y2=>hQ _ _ (c H' y1 y2)⟩
 | .ag,h=>by
  obtain ⟨x,dx,st,d,e,l,n,m,fr,kvs,es,ls,h1,h2,h3,h4,h5,h6,a,b⟩:=h;refine ⟨x,dx,st,d,e,l,n,m,fr,kvs,es,ls,h1,h2,h3,h4,h5,h6,fun u=>hE _ _ _ (a u),fun Bc v u=>?_⟩;obtain ⟨yE,dJ,st2,d2,z,c⟩:=b Bc v u;exact ⟨yE,dJ,st2,d2,z,fun H' y1 y2=>hQ _ _ (c H' y1 y2)⟩
 | .al l ps rs,h=>by
  obtain ⟨hl,k⟩:=h;refine ⟨hl,fun h hh Q1 q1=>?_⟩;obtain ⟨x,dx,st,d,e,l,n,m,kvs,es,ls,rl,fr,ps,as,rs,rows,h1,h2,h3,h4,h5,h6,h7,h8,h9,h10,h11,h12,h13,h14,a,b,c⟩:=k h hh Q1 fun q ns H1 y1 y2 y3 y4 y5 y6 y7=>q1 q ns H1 y1 y2 y3 y4 y5 y6 fun k2 hk2=>hQ _ _ (y7 k2 hk2);exact ⟨x,dx,st,d,e,l,n,m,kvs,es,ls,rl,fr,ps,as,rs,rows,h1,h2,h3,h4,h5,h6,h7,h8,h9,h10,h11,h12,h13,h14,fun u H' s=>hE _ _ _ (a u H' s),fun u v H' s=>hE _ _ _ (b u v H' s),c⟩
def TryQ (Q:VK) (lm:Addr):VK:=fun v H1=>H1 lm=some (.lst (iI.map V.bl))/\∀ p H2,Same H1 H2->H2 p=some (.tup [.str "",v])->Q (.ref p) H2
inductive R5 (CF CN CT CH:Addr) (Q:VK) (c:Value) (H1:Hp):Prop
 | mk (i:Nat) (a:Addr) (w:Str) (_:c=.ref a) (_:[CF,CN,CT,CH][i]?=some a) (_:dg[i]?=some w) (_:∀ p H2,Same H1 H2->H2 p=some (.tup [.str w,.non])->Q (.ref p) H2):R5 CF CN CT CH Q c H1
def TryE (CF CN CT CH:Addr) (Q:VK):XK:=fun c _ H1=>R5 CF CN CT CH Q c H1
inductive Ig (C CF CN CT CH:Addr) (K:PySem.W.Frag) (vs:List V) (H:Hp) (Q:VK):Prop
 | mk (x dx t st e l:Addr) (n m:Int) (T:Tn) (_:vs=[.ref x,.ref t]) (_:H x=some (.ins C dx (FR n m st e l))) (_:H t=some (.tup T.vs)) (_:∀ lm,H lm=none->JV C CF CN CT CH K x t (upd H lm (.lst (iI.map V.bl))) (TryQ Q lm) (TryE CF CN CT CH Q) T):Ig C CF CN CT CH K vs H Q
def Wh (C CF CN CT CH:Addr) (K:PySem.W.Frag):Sp:=fun vs H Q _=>Ig C CF CN CT CH K vs H Q
section
variable {f c5 c6:Addr}
abbrev nTr:List Str:=["_law_roll", "_law_turn_here", "_law_marks", "_law_told_here", "e", "_law_words"]
theorem Bq:aY nTr ["_law_roll", "_law_turn_here"] (aH GK):=0x0
def a0Z:Scope:={ kind:=.function,names:=[(".0",.local),("_law_word",.local),("_law_mark",.local)],isGenerator:=false,isCoroutine:=false }
theorem a00:dw nTr (aH GK) a0Z ["_law_word", "_law_mark"] [] []:=0x2
theorem Wi:((["_law_word", "_law_mark"]:List Str)++([]:List Str)).Nodup:=by decide +kernel
theorem YG (F:gQ K "_law_roll_try" "_law_roll_try" GK f fd) (mi:mg "isinstance"=none) (mz:mg "zip"=none) (cl:ClsT K mg L CF CN CT CH c5 c6) 
  (G1:aX P w K mg base (iC P w) 7 g1 d1 ["_law_roll", "_law_turn_here"] (spDo C CF CN CT CH K)) (M1:Ms K mg "_law_roll_do" g1 d1 ["_law_roll", "_law_turn_here"]):aX P w K mg base cU 8 f fd ["_law_roll", "_law_turn_here"] (Wh C CF CN CT CH K):=by
 refine F.ok Bq 0xA 0x3
 ·obtain ⟨x,dx,t,st,e,l,n,m,T,rfl,_⟩:=h;rfl
 obtain ⟨x,dx,t,st,e,l,n,m,T,rfl,hx,ht,k⟩:=h;have hr7:cI 7 _:=hr.mono 0x8;refine ⟨_,aC (bU (i:=2) Bq.nd rfl 0x5 (cL (aj dU (aj dU (aj dU (aj dU ao))))))
  (aC (bU (i:=3) Bq.nd rfl 0x5 vR)
  (aC (Xh (i:=4) (L:=L) rfl rfl Bq.nd rfl rfl rfl cl.mL
    (fun pn xe E hp=>aJ (bU (i:=3) Bq.nd rfl 0x5 (MF (CX:=iC P w) (E:=E) G1 hr7 rfl M1.m M1.k M1.b .nil hp (aj 0x10 (aj (pv 1) ao)))))
    (fun ea=>aC (bU (i:=2) Bq.nd rfl 0x5 (cL (aj (aP (iu (K:=K)) rfl mi bC (aj (pv 4) (aj (dM rfl cl.m1 rfl (v:=.ref CF)) ao)))
      (aj (aP (iu (K:=K)) rfl mi bC (aj (pv 4) (aj (dM rfl cl.m2 rfl (v:=.ref CN)) ao))) (aj (aP (iu (K:=K)) rfl mi bC (aj (pv 4) (aj (dM rfl cl.m3 rfl (v:=.ref CT)) ao))) (aj (aP (iu (K:=K)) rfl mi bC (aj (pv 4) (aj (dM rfl cl.m4 rfl (v:=.ref CH)) ao))) ao))))))
     (aC (gG (jz (aK (iB (K:=K)) (pv 2) au aR) (jz (vW (aP (iu (K:=K)) rfl mi bC (aj (pv 4) (aj (dM rfl cl.m5 rfl (v:=.ref c5)) ao)))) (jV (vW (aP (iu (K:=K)) rfl mi bC (aj (pv 4) (aj (dM rfl cl.m6 rfl (v:=.ref c6)) ao))))))) (vY (pv 2) au set_list))
     (aJ (cH (aN (JZ (K:=K)) dU (pv 2) 0x16) (aJ (bU (i:=2) Bq.nd rfl 0x5 (cL (aj dU (aj dU (aj dU (aj dU ao))))))) bK)))))
  (aC (bU (i:=5) Bq.nd rfl 0x5 (cL (aj aD (aj aD (aj aD (aj aD ao))))))
  (aJ (bG (cJ (aj (gw PySem.F.plainAttrs_str PySem.F.slot_str_join PySem.F.type_str_join Gf aD (aj (eN rfl a00 (rB rfl mz (aj (pv 5) (aj (pv 2) ao))) (fun s H fp C=>⟨wI (K:=K) (n:=2) rfl (bw (aO (i:=0) Wi rfl 0x5) (bw (aO (i:=1) Wi rfl 0x5) cQ)),wB (dX (pv 1)),pv 0⟩)) ao)) (aj (pv 3) ao)))))))),?_⟩
 refine ⟨small 0x4,fun lm RJ=>?_⟩;have k1:=k lm RJ;have s1:Same H (upd H lm (.lst (iI.map V.bl))):=aq RJ _;have m1:(upd H lm (.lst (iI.map V.bl))) lm=some (.lst (iI.map V.bl)):=ak;have x1:=s1 _ _ hx;have t1:=s1 _ _ ht;have e0:upd H lm (.lst (iI.map V.bl))=upd H lm (.lst [V.bl false,V.bl false,V.bl false,V.bl false]):=rfl;rw [e0] at s1 m1 x1 t1 k1;generalize upd H lm (.lst [V.bl false,V.bl false,V.bl false,V.bl false])=H1 at s1 m1 x1 t1 k1 ⊢;dsimp only [mZ,IK,BL,tC,Ends.nx];refine grab (a:=tTry _ _ _ _ _) (fun σ' H'=>∃ (mk:Addr) (bs:List Bool) (v:V) (wd:Str),σ'=[some (.ref x),some (.ref t),some (.ref mk),some v,none,none]/\H' mk=some (.lst (bs.map V.bl))/\bs.length=4/\Txt.join "" (Bp bs)=wd/\JoinOk "" (Bp bs)=true/\∀ p H2,Same H' H2->H2 p=some (.tup [.str wd,v])->Q (.ref p) H2) ?_ fun go=>?_
 ·rintro σ' H' ⟨mk,bs,v,wd,rfl,hmk,hbs,hj,hjo,kq⟩;refine ⟨small 0x4,fun W hW=>?_⟩;have s2:=aq hW (.lst (dg.map V.str));have w2:(upd H' W (.lst (dg.map V.str))) W=some (.lst (dg.map V.str)):=ak;have e1:upd H' W (.lst (dg.map V.str))=upd H' W (.lst [V.str "NoForm",V.str "NoEntry",V.str "Twice",V.str "NothingThere"]):=rfl;rw [e1] at s2 w2;generalize upd H' W (.lst [V.str "NoForm",V.str "NoEntry",V.str "Twice",V.str "NothingThere"])=H2 at s2 w2 ⊢;have m2:=s2 _ _ hmk;have hl4:(dg.map V.str).length=(bs.map V.bl).length:=by rw [bL,bL,hbs];rfl
  refine ⟨rfl,_,rfl,_,rfl,W,mk,rfl,⟨_,bf.of w2⟩,⟨_,bf.of m2⟩,fun D hD=>?_⟩;refine rC (n:=4) (fx:=fun i=>(dg.map V.str).getD i .non) (fy:=fun i=>(bs.map V.bl).getD i .non) (fun i zs H3=>zs=(((dg.zip bs).take i).filter (·.2)).map (fun q=>V.str q.1)/\Same H2 H3/\H3 D=some (.lst zs)) (fun i zs H3 h=>kO (bf.of (h.2.1 _ _ w2)) (bf.of (h.2.1 _ _ m2)) hl4) ⟨rfl,aq hD _,ak⟩ (fun i zs H2 h=>h.2.2) ?_ ?_
  ·rintro i zs H3 r hir ⟨rfl,s3,Sv⟩ VD;have nrD:D≠r:=aM Sv VD;obtain ⟨wi,hwi⟩:∃ wi,dg[i]?=some wi:=⟨_,dB hir⟩;obtain ⟨bi,hbi⟩:∃ bi,bs[i]?=some bi:=⟨_,dB 0x1⟩;have f1:(dg.map V.str).getD i .non=V.str wi:=by rw [iw,iK,hwi];rfl
   have f2:(bs.map V.bl).getD i .non=V.bl bi:=by rw [iw,iK,hbi];rfl
   rw [f1,f2];have s4:Same H2 (upd H3 r (.tup [V.str wi,V.bl bi])):=aW s3 (s3.free VD);have hz:(dg.zip bs)[i]?=some (wi,bi):=by rw [List.getElem?_zip_eq_some];exact ⟨hwi,hbi⟩
   refine ⟨r,_,rfl,bF.of ak,rfl,_,_,rfl,_,_,rfl,rfl,Kp.set rfl (Kp.set rfl (Kp.refl _)),?_⟩;refine ⟨_,rfl,bi,rfl,?_⟩;have Hg:(upd H3 r (.tup [V.str wi,V.bl bi])) D=some (.lst ((((dg.zip bs).take i).filter (·.2)).map (fun q=>V.str q.1))):=by rw [aA nrD];exact Sv
   have e9:((dg.zip bs).take (i+1)).filter (·.2)=((dg.zip bs).take i).filter (·.2)++if bi=true then [(wi,bi)] else []:=by
    rw [List.take_add_one,hz,List.filter_append];cases bi <;> rfl
   rw [e9];cases bi with
   | true =>
    refine bR ⟨_,rfl,Hg,?_,?_,aW s4 hD,ak⟩
    ·rw [bL];exact bY (Nat.le_trans (Nat.succ_le_succ (List.length_filter_le ..)) (by rw [List.length_take];lia))
    ·rw [jO];rfl
   | false =>
    refine aL ⟨?_,s4,Hg⟩;simp
  ·rintro zs H3 ⟨rfl,s3,Sv⟩;have et:(dg.zip bs).take 4=dg.zip bs:=List.take_of_length_le (by rw [List.length_zip];exact Nat.min_le_left ..);rw [et] at Sv;have em:((dg.zip bs).filter (·.2)).map (fun q=>V.str q.1)=(Bp bs).map V.str:=by unfold Bp;rw [List.map_map];rfl
   rw [em] at Sv;refine ⟨_,D,Bp bs,rfl,rfl,bf.of Sv,hjo,?_⟩;rw [hj];refine ⟨_,rfl,small 0x4,fun p hp=>?_⟩;exact kq p _ (s2.trans (s3.trans (aq hp _))) ak
 ·refine ⟨_,rfl,_,rfl,x,dx,t,st,e,l,n,m,T,rfl,x1,t1,?_⟩;refine JV.mono (fun v H2 h2=>go _ _ ⟨lm,iI,v, "",rfl,h2.1,rfl,by decide +kernel,by decide +kernel,h2.2⟩) (fun c d H2 h2=>?_) k1;obtain ⟨i,a,wd,rfl,ha,hw,kq⟩:=h2;obtain ⟨xc,ex,kt⟩:=cl.x i a ha;refine ⟨a,rfl,ex,fun ea he=>?_⟩;have s3:Same H2 (upd H2 ea (Rv a ea)):=aq he _;have e3:(upd H2 ea (Rv a ea)) ea=some (Rv a ea):=ak;generalize upd H2 ea (Rv a ea)=H3 at s3 e3 ⊢;refine ⟨_,rfl,ea,a,_,_,rfl,e3,xc,.inr ⟨_,rfl⟩,kt 0 CF rfl,?_⟩;refine ⟨_,rfl,ea,a,_,_,rfl,e3,xc,.inr ⟨_,rfl⟩,kt 1 CN rfl,?_⟩;refine ⟨_,rfl,ea,a,_,_,rfl,e3,xc,.inr ⟨_,rfl⟩,kt 2 CT rfl,?_⟩;refine ⟨_,rfl,ea,a,_,_,rfl,e3,xc,.inr ⟨_,rfl⟩,kt 3 CH rfl,?_⟩;refine ⟨small 0x4,fun q1 h1=>?_⟩;have s4:=aq h1 0x25;have l4:(upd H3 q1 0x25) q1=some 0x25:=ak;have e4:=s4 _ _ e3;have s24:Same H2 _:=s3.trans s4;have q10:H2 q1=none:=s3.free h1;generalize upd H3 q1 0x25=H4 at e4 l4 s24 ⊢;have hi:i<4:=(List.getElem?_eq_some_iff.mp hw).1;have fin:∀ (bs:List Bool),bs=hot i->∀ H5,Same H2 H5->H5 q1=some (.lst (bs.map V.bl))->_:=fun bs eb H5 s5 l5=>go [some (.ref x),some (.ref t),some (.ref q1),some .non,none,none] H5 ⟨q1,bs,.non,wd,rfl,l5,by rw [eb];rfl,by
    rw [eb]
    match i,hi,hw with
    | 0,_,hw=>injection hw
    | 1,_,hw=>injection hw
    | 2,_,hw=>injection hw
    | 3,_,hw=>injection hw,by
    rw [eb]
    match i,hi with
    | 0,_=>decide +kernel
    | 1,_=>decide +kernel
    | 2,_=>decide +kernel
    | 3,_=>decide +kernel,fun p H6 s6 h6=>kq p H6 (s5.trans s6) h6⟩
  refine ⟨_,rfl,q1,_,_,_,rfl,rfl,bf.of l4,bh (j:=0) rfl,decide (i=0),rfl,?_⟩;have two:∀ (b:Bool) (D:Ends),b=decide (i=0)->(∀ H5,Same H2 H5->H5 q1=some (.lst ((hot i).map V.bl))->D.nx [some (.ref x),some (.ref t),some (.ref q1),some .non,none,none] H5)->(fun (y:V) (H5:Hp)=>gSub (pP 2) (tC (V.int 0)) Vn y [some (.ref x),some (.ref t),some (.ref q1),some .non,some (.ref ea),none] H5 fun σ6 H6=>vX (Ky (Rt (rIn K true) (tC (V.bl true)) (pP 2))) (BL (WX (fD (tC (V.bl true)) (fD (tC (V.bl true)) (fD (tC (V.bl true)) (fD (tC (V.bl true)) oJ))))) (mZ 2)) Kr (MN 4 D) σ6 H6) (.bl b) H4:=fun b D hb kD=>by
   subst hb;refine ⟨_,rfl,q1,_,_,0,rfl,rfl,l4,rfl,?_⟩;have l5:(upd H4 q1 (.lst ((hot i).map V.bl))) q1=some (.lst ((hot i).map V.bl)):=ak;have s5:Same H2 (upd H4 q1 (.lst ((hot i).map V.bl))):=aW s24 q10;have hin:inV (V.bl true) ((hot i).map V.bl)=true:=by
    match i,hi with
    | 0,_=>rfl
    | 1,_=>rfl
    | 2,_=>rfl
    | 3,_=>rfl
   have hfl:((hot i).map V.bl).all mD=true:=rfl;refine ⟨_,rfl,q1,_,rfl,.inl (bf.of l5),rfl,hfl,_,rfl,?_⟩
   show (if (!inV (V.bl true) ((hot i).map V.bl))=true then _ else _)
   rw [hin];exact aL (kD _ s5 l5)
  have hi4:i=0\/i≠0:=by lia
  rcases hi4 with h0 | h0
  ·subst h0;injection ha with ha;subst ha;exact bR ⟨_,rfl,ea,CF,_,_,rfl,e4,xc,.inr ⟨_,rfl⟩,cl.k5,false,rfl,true,rfl,bR ⟨_,rfl,ea,CF,_,_,rfl,e4,xc,.inr ⟨_,rfl⟩,cl.k6,false,rfl,two true _ rfl fun H5 s5 l5=>fin _ rfl H5 s5 l5⟩⟩
  ·have hd:decide (i=0)=false:=decide_eq_false h0;rw [hd];exact aL (two false _ hd.symm fun H5 s5 l5=>fin _ rfl H5 s5 l5)
end
def Eh (x:Ct):Int×V:=(x.1,.ref x.2.1)
theorem pq {α β:Type}{f:α->β}:∀ {l:List α}{k:List β},k.Perm (l.map f)->∃ l':List α,l'.Perm l/\k=l'.map f
 | [],k,h=>⟨[],.refl _,by rw [List.map_nil] at h;exact h.eq_nil⟩
 | a::l,k,h=>by
  have hm:f a∈k:=h.mem_iff.mpr 0x4;obtain ⟨s,t,rfl⟩:=List.append_of_mem hm;have h2:(f a::(s++t)).Perm (f a::l.map f):=List.perm_middle.symm.trans h;obtain ⟨l',p',e⟩:=pq h2.cons_inv;obtain ⟨l1,l2,rfl,e1,e2⟩:=List.map_eq_append_iff.mp e.symm;exact ⟨l1++a::l2,List.perm_middle.trans (p'.cons a),by rw [jO,List.map_cons,e1,e2]⟩
theorem vI {A B:List (List V)}:(A++B).Nodup↔A.Nodup/\¬ tX A B:=by
 unfold tX List.Nodup;rw [List.pairwise_append]
 constructor
 ·rintro ⟨h1,h2,h3⟩;refine ⟨h1,?_⟩;rintro ⟨i,r,hi,hr⟩;rcases List.mem_append.mp hr with h | h
  ·exact h3 r h r (jL hi) rfl
  ·obtain ⟨j,hj⟩:=List.mem_iff_getElem?.mp h;rw [List.getElem?_take] at hj
   split at hj
   ·rename_i hji
    obtain ⟨a1,b1⟩:=List.getElem?_eq_some_iff.mp hj;obtain ⟨a2,b2⟩:=List.getElem?_eq_some_iff.mp hi;exact List.pairwise_iff_getElem.mp h2 j i a1 a2 hji (b1.trans b2.symm)
   ·cases hj
 ·rintro ⟨h1,h2⟩;refine ⟨h1,List.pairwise_iff_getElem.mpr fun i j hi hj hij e=>h2 ⟨j,_,dB hj,?_⟩,fun a ha b hb e=>?_⟩
  ·refine List.mem_append.mpr (.inr (List.mem_iff_getElem?.mpr ⟨i,?_⟩));rw [List.getElem?_take,if_pos hij,dB hi,e]
  ·obtain ⟨i,hi⟩:=List.mem_iff_getElem?.mp hb;exact h2 ⟨i,b,hi,List.mem_append.mpr (.inl (e ▸ ha))⟩
theorem vJ {A A' B:List (List V)} (h:∀ r,r∈A↔r∈A'):tX A B↔tX A' B:=by
 unfold tX
 constructor
 ·rintro ⟨i,r,hi,hr⟩;refine ⟨i,r,hi,?_⟩;rcases List.mem_append.mp hr with z | z
  ·exact List.mem_append.mpr (.inl ((h r).mp z))
  ·exact List.mem_append.mpr (.inr z)
 ·rintro ⟨i,r,hi,hr⟩;refine ⟨i,r,hi,?_⟩;rcases List.mem_append.mp hr with z | z
  ·exact List.mem_append.mpr (.inl ((h r).mpr z))
  ·exact List.mem_append.mpr (.inr z)
theorem vK:∀ {ps:List Addr}{rs:List (List V)}{fr:Nat},bD H ps rs->(newL fr ps rs).map (·.2.2)=rs
 | _,_,_,.nil=>rfl
 | _,_,fr,.cons h hs=>by
  show _::(newL (fr+1) _ _).map _=_
  rw [vK hs]
theorem K1 {fr:Nat}{p:Addr}{ps:List Addr}:news fr (p::ps)=((fr:Int),V.ref p)::news (fr+1) ps:=by
 unfold news;rw [jT,List.range_succ_eq_map,List.map_cons,List.map_map];refine congr (congrArg List.cons ?_) ?_
 ·rfl
 ·refine List.map_congr_left fun i _=>?_
  show ((((fr+(i+1):Nat)):Int),V.ref ((p::ps).getD (i+1) 0))=_
  have:fr+(i+1)=fr+1+i:=by lia
  rw [this];rfl
theorem Ih:∀ {ps:List Addr}{rs:List (List V)}{fr:Nat},bD H ps rs->(newL fr ps rs).map Eh=news fr ps
 | _,_,_,.nil=>rfl
 | _,_,fr,.cons h hs=>by
  rw [K1]
  show _::(newL (fr+1) _ _).map _=_
  rw [Ih hs];rfl
theorem qD:∀ {ps:List Addr}{rs:List (List V)}{fr:Nat}{x:Ct},bD H ps rs->x∈newL fr ps rs->(fr:Int)<=x.1/\x.1<((fr+ps.length:Nat):Int)
 | _,_,_,_,.nil,h=>nomatch h
 | _,_,fr,x,.cons (l₁:=ps) h hs,m=>by
  rcases List.mem_cons.mp m with rfl | m
  ·rw [jT]
   constructor
   ·show (fr:Int)<=fr;lia
   ·show (fr:Int)<_;lia
  ·have:=qD hs m;rw [jT];lia
theorem Ii:∀ {ps:List Addr}{rs:List (List V)}{fr:Nat},bD H ps rs->(newL fr ps rs).Pairwise (fun x y=>x.1<y.1)
 | _,_,_,.nil=>.nil
 | _,_,fr,.cons h hs=>by
  refine List.pairwise_cons.mpr ⟨fun y hy=>?_,Ii hs⟩;have:=(qD hs hy).1
  show (fr:Int)<y.1
  lia
structure yF (pool:List (List V)) (F fr:Nat) (kvs:List (Int×V)) (l:List Ct):Prop where
 pm:kvs.Perm (l.map Eh)
 up:l.Pairwise (fun x y=>x.1<y.1)
 lt:∀ x∈l,x.1<(fr:Int)
 ok:∀ x∈l,dD x.2.2/\wm x.2.2=true/\x.2.2∈pool
 nd:(l.map (·.2.2)).Nodup
 fr:fr<=F
theorem YH {l:List Ct} (up:l.Pairwise (fun x y=>x.1<y.1)) {x y:Ct} (hx:x∈l) (hy:y∈l) (e:x.1=y.1):x=y:=by
 obtain ⟨i,hi⟩:=List.mem_iff_getElem?.mp hx;obtain ⟨j,hj⟩:=List.mem_iff_getElem?.mp hy;obtain ⟨a1,b1⟩:=List.getElem?_eq_some_iff.mp hi;obtain ⟨a2,b2⟩:=List.getElem?_eq_some_iff.mp hj;rcases Nat.lt_trichotomy i j with h | h | h
 ·have:=List.pairwise_iff_getElem.mp up i j a1 a2 h;rw [b1,b2] at this;lia
 ·subst h;exact b1.symm.trans b2
 ·have:=List.pairwise_iff_getElem.mp up j i a2 a1 h;rw [b1,b2] at this;lia
theorem V0 {l:List Ct} (pm:kvs.Perm (l.map Eh)) (up:l.Pairwise (fun x y=>x.1<y.1)) {x:Ct} (hx:x∈l):fP kvs x.1=some (.ref x.2.1):=by
 have hm:(x.1,V.ref x.2.1)∈kvs:=pm.mem_iff.mpr (List.mem_map.mpr ⟨x,hx,rfl⟩);unfold fP;cases e:kvs.find? fun p=>decide (p.1=x.1) with
 | none =>
  have:=List.find?_eq_none.mp e _ hm;simp at this
 | some p =>
  have h1:=List.mem_of_find?_eq_some e;have h2:p.1=x.1:=by simpa using List.find?_some e
  obtain ⟨y,hy,rfl⟩:=List.mem_map.mp (pm.mem_iff.mp h1);have e':y=x:=YH up hy hx h2;rw [e'];rfl
theorem V1 {l:List Ct} (pm:kvs.Perm (l.map Eh)) {n:Int} (hn:∀ x∈l,x.1≠n):fP kvs n=none:=by
 unfold fP;rw [Option.map_eq_none_iff,List.find?_eq_none];intro p hp;obtain ⟨y,hy,rfl⟩:=List.mem_map.mp (pm.mem_iff.mp hp);exact fun e=>hn y hy (u9 e)
def Tn.kv (T:Tn) (fr:Nat) (kvs:List (Int×V)):List (Int×V):=match T with
 | .en p _=>kvs++[((fr:Int),.ref p)]
 | .al _ ps _=>kvs++news fr ps
 | .st n=>fM kvs n
 | .co n p _=>fM kvs n++[(n,.ref p)]
 | _=>kvs
theorem Ei {l:List Ct}{n:Int}:fM (l.map Eh) n=(l.filter fun x=>decide (x.1≠n)).map Eh:=by
 unfold fM;rw [List.filter_map];rfl
theorem Ej {kvs':List (Int×V)}{n:Int} (h:kvs.Perm kvs'):(fM kvs n).Perm (fM kvs' n):=h.filter _
theorem YJ {γ:Type}{g:Ct->γ}{n:Int}{p:Addr}:∀ {l:List Ct},l.Pairwise (fun x y=>x.1<y.1)->(∃ x∈l,x.1=n)->(((l.filter fun x=>decide (x.1≠n)).map g)++[g (n,p,r)]).Perm ((l.map fun x=>if x.1=n then (x.1,p,r) else x).map g)
 | [],_,⟨x,hx,_⟩=>nomatch hx
 | y::l,up,⟨x,hx,ex⟩=>by
  obtain ⟨u1,u2⟩:=List.pairwise_cons.mp up
  by_cases e:y.1=n
  ·have hl:∀ z∈l,z.1≠n:=fun z hz=>by have:=u1 z hz;lia
   have f1:(l.filter fun x=>decide (x.1≠n))=l:=List.filter_eq_self.mpr fun z hz=>by simpa using hl z hz
   have f2:(l.map fun x=>if x.1=n then (x.1,p,r) else x)=l:=by
    have:∀ z∈l,(if z.1=n then (z.1,p,r) else z)=z:=fun z hz=>if_neg (hl z hz)
    exact (List.map_congr_left this).trans (List.map_id' l)
   rw [List.filter_cons_of_neg (by simpa using e),f1,List.map_cons,f2,if_pos e,List.map_cons];rw [e];exact List.perm_append_singleton ..
  ·rw [List.filter_cons_of_pos (by simpa using e),List.map_cons,List.map_cons,List.map_cons,if_neg e,List.cons_append];refine (YJ u2 ⟨x,?_,ex⟩).cons _;rcases List.mem_cons.mp hx with h | h
   ·exact absurd (h ▸ ex) e
   ·exact h
theorem a01 {n:Int}{p:Addr}{l:List Ct} (h:l.Pairwise (fun x y=>x.1<y.1)) (he:∃ x∈l,x.1=n):(((l.filter fun x=>decide (x.1≠n)).map Eh)++[(n,V.ref p)]).Perm ((l.map fun x=>if x.1=n then (x.1,p,r) else x).map Eh):=YJ (g:=Eh) h he
theorem yF.step {fr:Nat}{l:List Ct}{T:Tn} (S:yF pool F fr kvs l) (hT:T.At pool H) (hw:T.hd.all wm=true) (hn:∀ n,T.num=some n->∃ x∈l,x.1=n) (nd:((T.new fr l).map (·.2.2)).Nodup) (hb:T≠.ba) (hg:T≠.ag):yF pool (F+3) (fr+T.mp.length) (T.kv fr kvs) (T.new fr l):=by
 have hR:=Tn.rows hT;have h3:=Tn.DR hT;have base:∀ x∈l++newL fr T.mp T.mr,(dD x.2.2/\wm x.2.2=true/\x.2.2∈pool)/\x.1<((fr+T.mp.length:Nat):Int):=fun x hx=>by
  rcases List.mem_append.mp hx with h | h
  ·have:=S.lt x h;exact ⟨S.ok x h,by lia⟩
  ·refine ⟨?_,(qD hR h).2⟩;have h2:=DY hR h;cases T with
   | en p r =>
    have e:=List.mem_singleton.mp h2;rw [e];have w1:wm r=true:=by simpa [Tn.hd] using hw
    exact ⟨hT.2.1,w1,hT.2.2.resolve_left (by rw [w1];decide)⟩
   | al q ps rs =>
    have w1:wm x.2.2=true:=List.all_eq_true.mp hw _ h2;obtain ⟨g1,g2⟩:=hT.2.2.1 _ h2;exact ⟨g1,w1,g2.resolve_left (by rw [w1];decide)⟩
   | _=>cases h2
 have upb:(l++newL fr T.mp T.mr).Pairwise (fun x y=>x.1<y.1):=List.pairwise_append.mpr ⟨S.up,Ii hR,fun x hx y hy=>by have:=S.lt x hx;have:=(qD hR hy).1;lia⟩;have hF:=S.fr;refine ⟨?_,?_,?_,?_,nd,by lia⟩
 ·cases T with
  | en p r =>
   show (kvs++[((fr:Int),V.ref p)]).Perm ((l++newL fr [p] [r]).map Eh)
   rw [jO];exact S.pm.append_right _
  | al q ps rs =>
   show (kvs++news fr ps).Perm ((l++newL fr ps rs).map Eh)
   rw [jO,Ih hT.2.1];exact S.pm.append_right _
  | st n =>
   show (fM kvs n).Perm (((l++[]).filter fun x:Ct=>decide (x.1≠n)).map Eh)
   rw [List.append_nil,<- Ei];exact Ej S.pm
  | co n p r =>
   show (fM kvs n++[(n,V.ref p)]).Perm (((l++[]).map fun x:Ct=>if x.1=n then (x.1,p,r) else x).map Eh)
   rw [List.append_nil];refine ((Ej S.pm).append_right _).trans ?_;rw [Ei];exact a01 S.up (hn n rfl)
  | ba=>exact absurd rfl hb
  | ag=>exact absurd rfl hg
 ·unfold Tn.new;cases T with
  | st n=>exact upb.filter _
  | co n p r =>
   show (List.map _ _).Pairwise _
   rw [List.pairwise_map];refine upb.imp fun {x y} h=>?_
   by_cases e1:x.1=n <;> by_cases e2:y.1=n <;> simp only [e1,e2,if_true,if_false] <;> lia
  | _=>exact upb
 ·intro x hx;unfold Tn.new at hx;cases T with
  | st n=>exact (base x (List.mem_filter.mp hx).1).2
  | co n p r =>
   obtain ⟨y,hy,rfl⟩:=List.mem_map.mp hx;have:=(base y hy).2
   by_cases e:y.1=n
   ·rw [if_pos e];exact this
   ·rw [if_neg e];exact this
  | _=>exact (base x hx).2
 ·intro x hx;unfold Tn.new at hx;cases T with
  | st n=>exact (base x (List.mem_filter.mp hx).1).1
  | co n p r =>
   obtain ⟨y,hy,rfl⟩:=List.mem_map.mp hx
   by_cases e:y.1=n
   ·rw [if_pos e];have w1:wm r=true:=by simpa [Tn.hd] using hw
    exact ⟨hT.2.1,w1,hT.2.2.resolve_left (by rw [w1];decide)⟩
   ·rw [if_neg e];exact (base y hy).1
  | _=>exact (base x hx).1
theorem yF.mono {F' fr:Nat}{l:List Ct} (S:yF pool F fr kvs l) (h:F<=F'):yF pool F' fr kvs l:=⟨S.pm,S.up,S.lt,S.ok,S.nd,Nat.le_trans S.fr h⟩
theorem sub_len {α:Type}:∀ {l m:List α},l.Nodup->(∀ x∈l,x∈m)->l.length<=m.length
 | [],_,_,_=>Nat.zero_le _
 | x::l,m,h,hs=>by
  obtain ⟨s,t,rfl⟩:=List.append_of_mem (hs x (List.mem_cons_self ..));obtain ⟨h1,h2⟩:=List.pairwise_cons.mp h;have:=sub_len (l:=l) (m:=s++t) h2 fun y hy=>by
   have:=hs y (jw _ hy);rcases List.mem_append.mp this with z | z
   ·exact List.mem_append.mpr (.inl z)
   ·rcases List.mem_cons.mp z with z | z
    ·exact absurd z.symm (h1 y hy)
    ·exact List.mem_append.mpr (.inr z)
  simp at this ⊢;lia
theorem yF.len {fr:Nat}{l:List Ct} (S:yF pool F fr kvs l):l.length<=pool.length:=by
 have:=sub_len S.nd fun r hr=>by
  obtain ⟨x,hx,rfl⟩:=List.mem_map.mp hr;exact (S.ok x hx).2.2
 rwa [bL] at this
inductive Wj (pool:List (List V)) (F:Nat) (H:Hp) (v:V) (s:jr):Prop
 | mk (st d:Addr) (kvs:List (Prod Int V)) (_:Std H v (s.fr:Int) kvs st d) (_:yF pool F s.fr kvs (s.es.map Ent.c)):Wj pool F H v s
def RK (pool:List (List V)) (F:Nat) (H:Hp) (v:V) (s:jr):Prop:=Wj pool F H v s
structure RB (C:Addr) (pool:List (List V)) (H:Hp) (x dx e l:Addr) (n k:Int) (m:Addr) (N:Nat) (st d:Addr) (kvs:List (Int×V)) (rs ls:List V) (en b a:Addr) (fr:Nat) (es:List Ent) (bs as:List jr):Prop where
 r:bV C H x dx st d e l n k (fr:Int) kvs rs ls
 m:gK H m en b a fr es bs as
 s:yF pool (1+3 * N) fr kvs 0x17
 kb:Paired (RK pool (1+3 * N) H) rs bs
 ka:Paired (RK pool (1+3 * N) H) ls as
 len:rs.length+ls.length<=N
 xe:x≠e
 xl:x≠l
 el:e≠l
 tO:en≠e/\en≠l
 nb:b≠e/\b≠l
 na:a≠e/\a≠l
 ns:∀ s,s∈bs\/s∈as->s.en≠e/\s.en≠l
theorem RK.at {F':Nat}{s:jr} (h:RK pool F H v s) (kt:∀ c u,H c=some (.tup u)->H' c=some (.tup u)) (kd:∀ c u,H c=some (.dK u)->H' c=some (.dK u)) (hF:F<=F'):RK pool F' H' v s:=by
 obtain ⟨st,d,kvs,⟨h1,h2,h3⟩,S⟩:=h;exact ⟨st,d,kvs,⟨h1,kt _ _ h2,kd _ _ h3⟩,S.mono hF⟩
theorem RB.same {x e:Addr}{n k:Int}{m:Addr}{fr:Nat}{es:List Ent}{bs as:List jr} (h:RB C pool H x dx e l n k m N st d kvs rs ls en b a fr es bs as) (s:Same H H'):RB C pool H' x dx e l n k m N st d kvs rs ls en b a fr es bs as :=
 ⟨h.r.same s,h.m.same s,h.s,L2.Paired.fQ h.kb fun v q z=>z.at (fun c u=>s c _) (fun c u=>s c _) 0x6,L2.Paired.fQ h.ka fun v q z=>z.at (fun c u=>s c _) (fun c u=>s c _) 0x6,h.len,h.xe,h.xl,h.el,h.tO,h.nb,h.na,h.ns⟩
theorem Paired.snoc_inv {α β:Type}{F:α->β->Prop}:∀ {l:List α}{x:α}{l2:List β},Paired F (l++[x]) l2->∃ l3 y,l2=l3++[y]/\Paired F l l3/\F x y
 | [],x,_,.cons h .nil=>⟨[],_,rfl,.nil,h⟩
 | a::l,x,_,.cons h t=>by
  obtain ⟨l3,y,rfl,h1,h2⟩:=Paired.snoc_inv t;exact ⟨_::l3,y,rfl,.cons h h1,h2⟩
def tZ (pool:List (List V)) (F:Nat) (H:Hp) (x dx e l:Addr) (C:Addr) (n k:Int) (st:Addr) (kvs:List (Int×V)) (rs ls:List V) (fr:Nat) (es:List Ent) (bs as:List jr) (v:V) (H':Hp):Tn->Prop
 | .ba=>v=.non/\∃ K3 v0 oZ s dJ st2 d2,rs=K3++[v0]/\bs=oZ++[s]/\Paired (RK pool F H) K3 oZ/\Std H v0 (s.fr:Int) dJ st2 d2/\yF pool F s.fr dJ (s.es.map Ent.c)/\bV C H' x dx st2 d2 e l n k (s.fr:Int) dJ K3 (ls++[.ref st])
 | .ag=>v=.non/\∃ RG v0 as0 s dJ st2 d2,ls=RG++[v0]/\as=as0++[s]/\Paired (RK pool F H) RG as0/\Std H v0 (s.fr:Int) dJ st2 d2/\yF pool F s.fr dJ (s.es.map Ent.c)/\bV C H' x dx st2 d2 e l n k (s.fr:Int) dJ (rs++[.ref st]) RG
 | T=>(match T with | .en _ _=>v=.int (fr:Int) | .al _ ps _=>∃ q,v=.ref q/\H' q=some (.lst (nums fr ps.length)) | .st i=>∃ u∈es,u.n=i/\v=.ref u.p | .co i _ _=>∃ u∈es,u.n=i/\v=.ref u.p | _=>True) /\
   ∃ st' d' l',H l'=none/\bV C H' x dx st' d' e l' n k ((fr+T.mp.length:Nat):Int) (T.kv fr kvs) (rs++[.ref st]) []
theorem vL {l':List Ct} (h:∀ x∈l',H x.2.1=some (.tup x.2.2)):bD H (l'.map (·.2.1)) (l'.map (·.2.2)):=by
 induction l' with
 | nil=>exact .nil
 | cons x l ih=>exact .cons (h x (List.mem_cons_self ..)) (ih fun y hy=>h y (jw _ hy))
theorem V2 {l:List Ct} (pm:kvs.Perm (l.map Eh)) (hin:∀ x∈l,H x.2.1=some (.tup x.2.2)/\dD x.2.2):∃ as rows,kvs.map (·.2)=as.map V.ref/\bD H as rows/\(∀ q∈rows,q.all jF=true)/\∀ r,r∈rows↔r∈l.map (·.2.2):=by
 obtain ⟨l',p',e⟩:=pq pm;refine ⟨l'.map (·.2.1),l'.map (·.2.2),?_,vL fun x hx=>(hin x (p'.mem_iff.mp hx)).1,fun q hq=>?_,fun r=>(p'.map _).mem_iff⟩
 ·rw [e,List.map_map,List.map_map];rfl
 ·obtain ⟨x,hx,rfl⟩:=List.mem_map.mp hq;exact (hin x (p'.mem_iff.mp hx)).2.2
theorem yF.pull {fr:Nat}{es:List Ent} (S:yF pool F fr kvs 0x17) (hE:∀ e∈es,DQ H e):∃ as rows,kvs.map (·.2)=as.map V.ref/\bD H as rows/\(∀ q∈rows,q.all jF=true)/\rows.Nodup/\∀ r,r∈rows↔r∈(0x17).map (·.2.2):=by
 obtain ⟨l',p',e⟩:=pq S.pm;have hin:∀ x∈l',H x.2.1=some (.tup x.2.2)/\dD x.2.2:=fun x hx=>by
  have:=p'.mem_iff.mp hx;refine ⟨?_,(S.ok x this).1⟩;obtain ⟨u,hu,rfl⟩:=List.mem_map.mp this;exact (hE u hu).2
 refine ⟨l'.map (·.2.1),l'.map (·.2.2),?_,vL fun x hx=>(hin x hx).1,fun q hq=>?_,((p'.map _).nodup_iff).mpr S.nd,fun r=>(p'.map _).mem_iff⟩
 ·rw [e,List.map_map,List.map_map];rfl
 ·obtain ⟨x,hx,rfl⟩:=List.mem_map.mp hq;exact (hin x hx).2.2
theorem yF.klt {fr:Nat}{l:List Ct} (S:yF pool F fr kvs l):∀ p∈kvs,p.1<(fr:Int):=fun p hp=>by
 obtain ⟨x,hx,rfl⟩:=List.mem_map.mp (S.pm.mem_iff.mp hp);exact S.lt x hx
theorem yF.V3 {fr:Nat}{l:List Ct} (S:yF pool F fr kvs l):kvs.length<=pool.length:=by
 have:=S.pm.length_eq;rw [bL] at this;rw [this];exact S.len
theorem bD.V4 {rows:List (List V)} (h:bD H as rows) (s:Same H H'):bD H' as rows:=L2.Paired.fQ h fun a b z=>s _ _ z
section
variable {T:Tn}{fr:Nat}{es:List Ent}{bs as:List jr}
theorem pA (h:T.hd.all wm=false):dz T fr es bs as="NoForm":=by unfold dz;rw [if_pos h]
theorem tG (h:T.hd.all wm=true) {i:Int} (hi:T.num=some i) (hn:∀ u∈es,u.n≠i):dz T fr es bs as="NoEntry":=by
 unfold dz;have e:(T.num.any fun n=>!(es.map (·.n)).contains n)=true:=by
  rw [hi]
  show (!(es.map (·.n)).contains i)=true
  rw [Bool.not_eq_true',List.contains_eq_mem,decide_eq_false_iff_not];intro hm;obtain ⟨u,hu,e⟩:=List.mem_map.mp hm;exact hn u hu e
 rw [if_neg (by rw [h];decide),if_pos e]
theorem Ek {i:Int} (hi:T.num=some i) {u:Ent} (hu:u∈es) (e:u.n=i):(T.num.any fun n=>!(es.map (·.n)).contains n)=false:=by
 rw [hi]
 show (!(es.map (·.n)).contains i)=false
 rw [Bool.not_eq_false',List.contains_eq_mem,decide_eq_true_eq];exact List.mem_map.mpr ⟨u,hu,e⟩
theorem Tn.kd_b (hb:T≠.ba):T.kd≠"back":=by
 cases T with
 | ba=>exact absurd rfl hb
 | en _ _=>exact (by decide +kernel:(("enter" : Str))≠"back")
 | al _ _ _=>exact (by decide +kernel:(("all" : Str))≠"back")
 | st _=>exact (by decide +kernel:(("strike" : Str))≠"back")
 | co _ _ _=>exact (by decide +kernel:(("correct" : Str))≠"back")
 | ag =>exact (by decide +kernel:(("again" : Str))≠"back")
theorem Tn.kd_g (hg:T≠.ag):T.kd≠"again":=by
 cases T with
 | ag=>exact absurd rfl hg
 | en _ _=>exact (by decide +kernel:(("enter" : Str))≠"again")
 | al _ _ _=>exact (by decide +kernel:(("all" : Str))≠"again")
 | st _=>exact (by decide +kernel:(("strike" : Str))≠"again")
 | co _ _ _=>exact (by decide +kernel:(("correct" : Str))≠"again")
 | ba =>exact (by decide +kernel:(("back" : Str))≠"again")
theorem fU (hb:T≠.ba) (hg:T≠.ag) (hw:T.hd.all wm=true) (hn:(T.num.any fun n=>!(es.map (·.n)).contains n)=false):dz T fr es bs as=(if ¬ ((T.new fr 0x17).map (·.2.2)).Nodup then ("Twice" : Str) else ("" : Str)):=by
 unfold dz;rw [if_neg (by rw [hw];decide),if_neg (by rw [hn];decide),if_neg];rintro (⟨h,_⟩ | ⟨h,_⟩)
 ·exact Tn.kd_b hb h
 ·exact Tn.kd_g hg h
theorem Ij (h:dz T fr es bs as=""):T.hd.all wm=true/\(∀ i,T.num=some i->∃ u∈es,u.n=i)/\(T=.ba->bs≠[])/\(T=.ag->as≠[])/\((T.new fr 0x17).map (·.2.2)).Nodup:=by
 unfold dz at h
 split at h
 ·exact absurd h 0xE
 rename_i h1
 split at h
 ·exact absurd h 0xE
 rename_i h2
 split at h
 ·exact absurd h 0xE
 rename_i h3
 split at h
 ·exact absurd h 0xE
 rename_i h4
 refine ⟨by simpa using h1,fun i hi=>?_,fun e hb=>h3 (.inl ?_),fun e hb=>h3 (.inr ?_),Classical.not_not.mp h4⟩
 ·rw [hi] at h2;have:(es.map (·.n)).contains i=true:=by simpa using h2
  rw [List.contains_eq_mem,decide_eq_true_eq] at this;obtain ⟨u,hu,e⟩:=List.mem_map.mp this;exact ⟨u,hu,e⟩
 ·subst e;exact ⟨rfl,by rw [hb];rfl⟩
 ·subst e;exact ⟨rfl,by rw [hb];rfl⟩
end
theorem El {x e:Addr} (h:sW x e H H'):eG x e l H H':=fun c o h1 h2 _ h4=>h c o h1 h2 h4
section
variable {t:Addr}{Q:VK}{E:XK}{x e:Addr}{n k:Int}{m:Addr}{fr:Nat}{es:List Ent}{bs as:List jr}
def Em (CF CN CT CH:Addr) (E:XK) (H:Hp) (w:Str):Prop:=∀ (i:Nat) c,[CF,CN,CT,CH][i]?=some c->dg[i]?=some w->∀ H',Same H H'->E (.ref c) none H'
theorem a02 {p:Addr} (R:RB C pool H x dx e l n k m N st d kvs rs ls en b a fr es bs as) (hT:(Tn.en p r).At pool H) (hN:N<=250) (hp:pool.length<=16) (hE:Em CF CN CT CH E H (dz (.en p r) fr es bs as))
  (hQ:dz (.en p r) fr es bs as=""->∀ v H',eG x e l H H'->tZ pool (1+3 * N) H x dx e l C n k st kvs rs ls fr es bs as v H' (.en p r)->Q v H'):JV C CF CN CT CH K x t H Q E (.en p r):=by
 obtain ⟨qs,rows,hv,hR,hfl,hnd,hmem⟩:=R.s.pull R.m.en.2;have hlen:=R.len;have hfr:=R.s.fr;have hkl:=R.s.V3;have hall:(Tn.en p r).hd.all wm=wm r:=by simp [Tn.hd]
 have hnew:((Tn.en p r).new fr 0x17).map (·.2.2)=(0x17).map (·.2.2)++[r]:=by
  show (0x17++newL fr [p] [r]).map (·.2.2)=_
  rw [jO];rfl
 have R6:((0x17).map (·.2.2)++[r]).Nodup↔r∉rows:=by
  rw [vI,vJ fun q=>(hmem q).symm]
  constructor
  ·rintro ⟨_,h⟩ hr;exact h ⟨0,r,rfl,by simpa using hr⟩
  ·intro h;refine ⟨R.s.nd,?_⟩;rintro ⟨i,q,h1,h2⟩;cases i with
   | zero =>
    have e:r=q:=by simpa using h1
    subst e;exact h (by simpa using h2)
   | succ j=>simp at h1
 refine ⟨x,dx,st,d,e,l,n,k,kvs,rs,ls,p,r,fr,qs,rows,rfl,R.r,hT.1,hT.2.1,hv,hR,hfl,R.s.klt,by lia,R.xe,by lia,by lia,fun hw H' s'=>?_,fun hw hr H' s'=>?_,fun hw hr d' st' l' H' kp R' hst hl' hd'=>?_⟩
 ·exact hE 0 CF rfl (by rw [pA (hall.trans hw)];rfl) H' s'
 ·refine hE 2 CT rfl ?_ H' s';rw [fU (T:=.en p r) 0x28 0x28 (hall.trans hw) rfl,if_pos (by rw [hnew,R6];exact fun h=>h hr)];rfl
 ·refine hQ ?_ _ H' (El kp) ⟨rfl,st',d',l',hl',R'⟩;rw [fU (T:=.en p r) 0x28 0x28 (hall.trans hw) rfl,if_neg (by rw [hnew,R6];exact fun h=>h hr)]
theorem qF (R:RB C pool H x dx e l n k m N st d kvs rs ls en b a fr es bs as) {u:Ent} (hu:u∈es):fP kvs u.n=some (.ref u.p):=V0 R.s.pm R.s.up (List.mem_map.mpr ⟨u,hu,rfl⟩)
theorem Br (R:RB C pool H x dx e l n k m N st d kvs rs ls en b a fr es bs as) {i:Int} (hi:∀ u∈es,u.n≠i):fP kvs i=none:=V1 R.s.pm fun y hy=>by
 obtain ⟨u,hu,rfl⟩:=List.mem_map.mp hy;exact hi u hu
theorem a03 {i:Int} (R:RB C pool H x dx e l n k m N st d kvs rs ls en b a fr es bs as) (hN:N<=250) (hE:Em CF CN CT CH E H (dz (.st i) fr es bs as))
  (hQ:dz (.st i) fr es bs as=""->∀ v H',eG x e l H H'->tZ pool (1+3 * N) H x dx e l C n k st kvs rs ls fr es bs as v H' (.st i)->Q v H'):JV C CF CN CT CH K x t H Q E (.st i):=by
 have hlen:=R.len
 by_cases hi:∃ u∈es,u.n=i
 ·obtain ⟨u,hu,rfl⟩:=hi;refine ⟨x,dx,st,d,e,l,n,k,_,kvs,rs,ls,u.n,rfl,R.r,by lia,R.xe,fun h=>?_,fun v hv d' st' l' H' kp R' hst hl' hd'=>?_⟩
  ·rw [qF R hu] at h;cases h
  ·rw [qF R hu] at hv;injection hv with hv;refine hQ ?_ _ H' (El kp) ⟨⟨u,hu,rfl,hv.symm⟩,st',d',l',hl',R'⟩;rw [fU (T:=.st u.n) 0x28 0x28 rfl (Ek (T:=.st u.n) rfl hu rfl),if_neg];refine Classical.not_not.mpr ?_;refine List.Nodup.sublist (List.Sublist.map _ ?_) R.s.nd
   show List.Sublist ((0x17++[]).filter _) _
   rw [List.append_nil];exact List.filter_sublist
 ·have hi':∀ u∈es,u.n≠i:=fun u hu e=>hi ⟨u,hu,e⟩;refine ⟨x,dx,st,d,e,l,n,k,_,kvs,rs,ls,i,rfl,R.r,by lia,R.xe,fun h=>?_,fun v hv=>?_⟩
  ·exact hE 1 CN rfl (by rw [tG (T:=.st i) rfl rfl hi'];rfl) H (Same.refl _)
  ·rw [Br R hi'] at hv;cases hv
theorem a04 (R:RB C pool H x dx e l n k m N st d kvs rs ls en b a fr es bs as) (hN:N<=250) (hE:Em CF CN CT CH E H (dz .ba fr es bs as))
  (hQ:dz .ba fr es bs as=""->∀ v H',eG x e l H H'->tZ pool (1+3 * N) H x dx e l C n k st kvs rs ls fr es bs as v H' .ba->Q v H'):JV C CF CN CT CH K x t H Q E .ba:=by
 have hlen:=R.len;have hnd:((Tn.ba.new fr 0x17).map (·.2.2)).Nodup:=by
  show ((0x17++[]).map (fun y:Ct=>y.2.2)).Nodup
  rw [List.append_nil];exact R.s.nd
 refine ⟨x,dx,st,d,e,l,n,k,_,kvs,rs,ls,rfl,R.r,R.xe,R.xl,R.el,by lia,fun h=>?_,fun Bc v0 h=>?_⟩
 ·subst h;have hb:bs=[]:=by have:=R.kb.length;cases bs with | nil=>rfl | cons=>simp at this
  refine hE 3 CH rfl ?_ H (Same.refl _);unfold dz;rw [if_neg 0x8,if_neg (show ¬ (Tn.ba.num.any fun n=>!(es.map (·.n)).contains n)=true from fun h=>Bool.false_ne_true h),if_pos (.inl ⟨rfl,by rw [hb];rfl⟩)];rfl
 ·subst h;obtain ⟨oZ,s,hbs,hpb,⟨st2,d2,dJ,hS,YK⟩⟩:=Paired.snoc_inv R.kb;refine ⟨_,dJ,st2,d2,hS,fun H' kp R'=>hQ ?_ _ H' kp ⟨rfl,Bc,v0,oZ,s,dJ,st2,d2,rfl,hbs,hpb,hS,YK,R'⟩⟩;unfold dz;rw [if_neg 0x8,if_neg (show ¬ (Tn.ba.num.any fun n=>!(es.map (·.n)).contains n)=true from fun h=>Bool.false_ne_true h),if_neg,if_neg (Classical.not_not.mpr hnd)]
  rintro (⟨_,h⟩ | ⟨h,_⟩)
  ·rw [hbs] at h;simp at h
  ·exact absurd h 0xE
theorem a05 (R:RB C pool H x dx e l n k m N st d kvs rs ls en b a fr es bs as) (hN:N<=250) (hE:Em CF CN CT CH E H (dz .ag fr es bs as))
  (hQ:dz .ag fr es bs as=""->∀ v H',eG x e l H H'->tZ pool (1+3 * N) H x dx e l C n k st kvs rs ls fr es bs as v H' .ag->Q v H'):JV C CF CN CT CH K x t H Q E .ag:=by
 have hlen:=R.len;have hnd:((Tn.ag.new fr 0x17).map (·.2.2)).Nodup:=by
  show ((0x17++[]).map (fun y:Ct=>y.2.2)).Nodup
  rw [List.append_nil];exact R.s.nd
 refine ⟨x,dx,st,d,e,l,n,k,_,kvs,rs,ls,rfl,R.r,R.xe,R.xl,R.el,by lia,fun h=>?_,fun Bc v0 h=>?_⟩
 ·subst h;have hb:as=[]:=by have:=R.ka.length;cases as with | nil=>rfl | cons=>simp at this
  refine hE 3 CH rfl ?_ H (Same.refl _);unfold dz;rw [if_neg 0x8,if_neg (show ¬ (Tn.ag.num.any fun n=>!(es.map (·.n)).contains n)=true from fun h=>Bool.false_ne_true h),if_pos (.inr ⟨rfl,by rw [hb];rfl⟩)];rfl
 ·subst h;obtain ⟨oZ,s,hbs,hpb,⟨st2,d2,dJ,hS,YK⟩⟩:=Paired.snoc_inv R.ka;refine ⟨_,dJ,st2,d2,hS,fun H' kp R'=>hQ ?_ _ H' kp ⟨rfl,Bc,v0,oZ,s,dJ,st2,d2,rfl,hbs,hpb,hS,YK,R'⟩⟩;unfold dz;rw [if_neg 0x8,if_neg (show ¬ (Tn.ag.num.any fun n=>!(es.map (·.n)).contains n)=true from fun h=>Bool.false_ne_true h),if_neg,if_neg (Classical.not_not.mpr hnd)]
  rintro (⟨h,_⟩ | ⟨_,h⟩)
  ·exact absurd h 0xE
  ·rw [hbs] at h;simp at h
theorem a06 {i:Int}{p:Addr} (R:RB C pool H x dx e l n k m N st d kvs rs ls en b a fr es bs as) (hT:(Tn.co i p r).At pool H) (hN:N<=250) (hp:pool.length<=16) (hE:Em CF CN CT CH E H (dz (.co i p r) fr es bs as))
  (hQ:dz (.co i p r) fr es bs as=""->∀ v H',eG x e l H H'->tZ pool (1+3 * N) H x dx e l C n k st kvs rs ls fr es bs as v H' (.co i p r)->Q v H'):JV C CF CN CT CH K x t H Q E (.co i p r):=by
 have hlen:=R.len;have hkl:=R.s.V3;have hall:(Tn.co i p r).hd.all wm=wm r:=by simp [Tn.hd]
 have hpm:(fM kvs i).Perm (((0x17).filter fun y=>decide (y.1≠i)).map Eh):=(Ej R.s.pm).trans (by rw [Ei]);obtain ⟨qs,rows,hv,hR,hfl,hmem⟩:=V2 hpm (H:=H) fun y hy=>by
  obtain ⟨hy,_⟩:=List.mem_filter.mp hy;refine ⟨?_,(R.s.ok y hy).1⟩;obtain ⟨u,hu,rfl⟩:=List.mem_map.mp hy;exact (R.m.en.2 u hu).2
 have key:∀ u∈es,u.n=i->((((Tn.co i p r).new fr 0x17).map (·.2.2)).Nodup↔r∉rows):=fun u hu eu=>by
  have h1:=YJ (γ:=List V) (g:=fun y:Ct=>y.2.2) (n:=i) (p:=p) (r:=r) R.s.up ⟨_,List.mem_map.mpr ⟨u,hu,rfl⟩,eu⟩;have h2:((Tn.co i p r).new fr 0x17).map (·.2.2)=(((0x17).map fun y:Ct=>if y.1=i then (y.1,p,r) else y).map fun y:Ct=>y.2.2):=by
   show ((0x17++[]).map _).map _=_
   rw [List.append_nil]
  rw [h2,<- h1.nodup_iff,List.nodup_append]
  constructor
  ·rintro ⟨_,_,h⟩ hr;exact h r ((hmem r).mp hr) r (List.mem_singleton.mpr rfl) rfl
  ·intro h;refine ⟨List.Nodup.sublist (List.Sublist.map _ List.filter_sublist) R.s.nd,by simp,fun q hq q' hq' e=>h ((hmem r).mpr ?_)⟩;rw [List.mem_singleton.mp hq'] at e;have e2:q=r:=e;rw [<- e2];exact hq
 refine ⟨x,dx,st,d,e,l,n,k,_,kvs,rs,ls,i,p,r,qs,rows,rfl,R.r,hT.1,hT.2.1,hv,hR,hfl,by lia,R.xe,by lia,fun hw H' s'=>?_,fun hw hno H' s'=>?_,fun v hw hlk=>?_⟩
 ·exact hE 0 CF rfl (by rw [pA (hall.trans hw)];rfl) H' s'
 ·refine hE 1 CN rfl ?_ H' s';rw [tG (T:=.co i p r) (hall.trans hw) rfl fun u hu e=>?_]
  ·rfl
  ·have:=qF R hu;rw [e,hno] at this;cases this
 ·have hex:∃ u∈es,u.n=i:=by
   by_cases h:∃ u∈es,u.n=i
   ·exact h
   ·rw [Br R fun u hu e=>h ⟨u,hu,e⟩] at hlk;cases hlk
  obtain ⟨u,hu,eu⟩:=hex;have hv:v=.ref u.p:=by
   have:=qF R hu;rw [eu,hlk] at this;exact Option.some.inj this
  refine ⟨fun hr H' s'=>?_,fun hr d' st' l' H' kp R' hst hl' hd'=>?_⟩
  ·refine hE 2 CT rfl ?_ H' s';rw [fU (T:=.co i p r) 0x28 0x28 (hall.trans hw) (Ek (T:=.co i p r) rfl hu eu),if_pos (by rw [key u hu eu];exact fun h=>h hr)];rfl
  ·refine hQ ?_ _ H' (El kp) ⟨⟨u,hu,eu,hv⟩,st',d',l',hl',R'⟩;rw [fU (T:=.co i p r) 0x28 0x28 (hall.trans hw) (Ek (T:=.co i p r) rfl hu eu),if_neg (by rw [key u hu eu];exact fun h=>h hr)]
theorem a07 {l0:Addr}{ps:List Addr}{rr:List (List V)} (R:RB C pool H x dx e l n k m N st d kvs rs ls en b a fr es bs as) (ht:H t=some (.tup [.str "all",.ref l0])) (hT:(Tn.al l0 ps rr).At pool H) (hl0:l0≠e) (hN:N<=250) (hp:pool.length<=16) (hE:Em CF CN CT CH E H (dz (.al l0 ps rr) fr es bs as))
  (hQ:dz (.al l0 ps rr) fr es bs as=""->∀ v H',eG x e l H H'->tZ pool (1+3 * N) H x dx e l C n k st kvs rs ls fr es bs as v H' (.al l0 ps rr)->Q v H'):JV C CF CN CT CH K x t H Q E (.al l0 ps rr):=by
 obtain ⟨qs,rows,hv,hR,hfl,hnd,hmem⟩:=R.s.pull R.m.en.2;have hlen:=R.len;have hfr:=R.s.fr;have hkl:=R.s.V3;have hpl:=hT.2.2.2;have hnew:((Tn.al l0 ps rr).new fr 0x17).map (·.2.2)=(0x17).map (·.2.2)++rr:=by
  show (0x17++newL fr ps rr).map (fun y:Ct=>y.2.2)=_
  rw [jO,vK hT.2.1]
 have R6:((0x17).map (·.2.2)++rr).Nodup↔¬ tX rows rr:=by
  rw [vI,vJ fun q=>(hmem q).symm];exact ⟨fun h=>h.2,fun h=>⟨R.s.nd,h⟩⟩
 refine ⟨hT.1,fun h hh Q1 q1=>?_⟩;have s0:=aq hh (.lst (ps.map V.ref));have h0:(upd H h (.lst (ps.map V.ref))) h=some (.lst (ps.map V.ref)):=ak;have nf:∀ c,(upd H h (.lst (ps.map V.ref))) c=none->H c=none:=fun c hc=>s0.free hc;generalize upd H h (.lst (ps.map V.ref))=H0 at s0 h0 nf ⊢;have R0:=R.same s0;refine ⟨x,dx,st,d,e,l,n,k,kvs,rs,ls,h,fr,ps,qs,rr,rows,rfl,R0.r,bf.of h0,bD.V4 hT.2.1 s0,fun r hr=>(hT.2.2.1 r hr).1,hv,bD.V4 hR s0,hfl,R.s.klt,by lia,R.xe,by lia,by lia,by lia,?_,?_,?_⟩
 ·rintro ⟨r,hr,hw⟩ H' s';refine hE 0 CF rfl ?_ H' (s0.trans s');rw [pA]
  ·rfl
  ·show rr.all wm=false
   rw [List.all_eq_false];exact ⟨r,hr,by rw [hw];decide⟩
 ·intro hw hd H' s';refine hE 2 CT rfl ?_ H' (s0.trans s');rw [fU (T:=.al l0 ps rr) 0x28 0x28 (List.all_eq_true.mpr hw) rfl,if_pos (by rw [hnew,R6];exact fun h=>h hd)];rfl
 ·intro hw hd q d' st' l' H1 kp R1 hq0 hql hq hst hl' hd';have hxh:h≠x:=fun z=>by rw [z,R.r.o] at hh;cases hh
  have heh:h≠e:=fun z=>by rw [z,R.r.e] at hh;cases hh
  have h1:H1 h=some (.lst (ps.map V.ref)):=kp h _ hxh heh h0;have hqh:q≠h:=fun z=>by rw [z,h0] at hq0;cases hq0
  have nl0:l0≠x:=fun z=>by have:=hT.1;rw [z,R.r.o] at this;cases this
  have ntx:t≠x:=fun z=>by rw [z,R.r.o] at ht;cases ht
  have nte:t≠e:=fun z=>by rw [z,R.r.e] at ht;cases ht
  refine q1 q _ H1 hq (by unfold nums;rw [bL,List.length_range];lia) hqh h1 (kp _ _ nl0 hl0 (s0 _ _ hT.1)) (kp _ _ ntx nte (s0 _ _ ht)) fun k2 hk2=>?_;have eqh:e≠q:=fun z=>by have:=s0 _ _ R.r.e;rw [z,hq0] at this;cases this
  have nk:∀ c o,H1 c=some o->c≠k2:=fun c o hc z=>by rw [z,hk2] at hc;cases hc
  have fin:∀ c o,H1 c=some o->c≠h->c≠q->(upd (upd (upd H1 k2 (.lst (nums fr ps.length))) h (.lst [])) q (.lst (nums fr ps.length++[.int 0]))) c=some o:=fun c o hc z1 z2=>by
   rw [aA z2,aA z1,aA (nk c o hc)];exact hc
  have En:∀ {c:Addr}{o:HO},H1 c=some o->(∀ v,o≠.lst v)->c≠h/\c≠q:=fun {c o} hc hn=>⟨fun z=>by rw [z,h1] at hc;injection hc with hc;exact hn _ hc.symm,fun z=>by rw [z,hq] at hc;injection hc with hc;exact hn _ hc.symm⟩;refine hQ ?_ _ _ (fun c o c1 c2 _ hc=>?_) ⟨⟨k2,rfl,?_⟩,st',d',l',nf _ hl',?_⟩
  ·rw [fU (T:=.al l0 ps rr) 0x28 0x28 (List.all_eq_true.mpr hw) rfl,if_neg (by rw [hnew,R6];exact fun h=>h hd)]
  ·exact fin c o (kp c o c1 c2 (s0 _ _ hc)) (fun z=>by rw [z,hh] at hc;cases hc) (fun z=>by rw [z,nf _ hq0] at hc;cases hc)
  ·rw [aA (fun z=>by rw [z,hq] at hk2;cases hk2),aA (fun z=>by rw [z,h1] at hk2;cases hk2),ak]
  ·obtain ⟨o1,o2⟩:=En R1.o (fun v z=>by cases z);obtain ⟨o3,o4⟩:=En R1.s (fun v z=>by cases z);obtain ⟨o5,o6⟩:=En R1.k (fun v z=>by cases z);exact ⟨fin _ _ R1.o o1 o2,fin _ _ R1.s o3 o4,fin _ _ R1.k o5 o6,fin _ _ R1.e (Ne.symm heh) eqh,fin _ _ R1.l (fun z=>by rw [z,h0] at hl';cases hl') (Ne.symm hql)⟩
end
section
variable {t:Addr}{x e:Addr}{n k:Int}{m:Addr}{fr:Nat}{es:List Ent}{bs as:List jr}{T:Tn}
theorem RB.kt (R:RB C pool H x dx e l n k m N st d kvs rs ls en b a fr es bs as) (kp:eG x e l H H'):∀ c u,H c=some (.tup u)->H' c=some (.tup u):=fun c u h=>kp c _ (fun z=>by rw [z,R.r.o] at h;cases h) (fun z=>by rw [z,R.r.e] at h;cases h) (fun z=>by rw [z,R.r.l] at h;cases h) h
theorem RB.kd (R:RB C pool H x dx e l n k m N st d kvs rs ls en b a fr es bs as) (kp:eG x e l H H'):∀ c u,H c=some (.dK u)->H' c=some (.dK u):=fun c u h=>kp c _ (fun z=>by rw [z,R.r.o] at h;cases h) (fun z=>by rw [z,R.r.e] at h;cases h) (fun z=>by rw [z,R.r.l] at h;cases h) h
theorem RB.kl (R:RB C pool H x dx e l n k m N st d kvs rs ls en b a fr es bs as) (kp:eG x e l H H'):∀ c u,c≠e->c≠l->H c=some (.lst u)->H' c=some (.lst u):=fun c u h1 h2 h=>kp c _ (fun z=>by rw [z,R.r.o] at h;cases h) h1 h2 h
theorem RB.R7 (R:RB C pool H x dx e l n k m N st d kvs rs ls en b a fr es bs as) (kp:eG x e l H H') {c:Addr}{us:List Ent} (h:iV H c us) (h1:c≠e/\c≠l):iV H' c us :=
 ⟨R.kl kp _ _ h1.1 h1.2 h.1,fun u hu=>⟨R.kt kp _ _ (h.2 u hu).1,R.kt kp _ _ (h.2 u hu).2⟩⟩
theorem RB.a08 (R:RB C pool H x dx e l n k m N st d kvs rs ls en b a fr es bs as) (kp:eG x e l H H'):gK H' m en b a fr es bs as :=
 ⟨R.kd kp _ _ R.m.m,R.R7 kp R.m.en R.tO,R.kl kp _ _ R.nb.1 R.nb.2 R.m.b,R.kl kp _ _ R.na.1 R.na.2 R.m.a,
  fun s hs=>⟨R.kt kp _ _ (R.m.bs s hs).1,R.R7 kp (R.m.bs s hs).2 (R.ns s (.inl hs))⟩,fun s hs=>⟨R.kt kp _ _ (R.m.as s hs).1,R.R7 kp (R.m.as s hs).2 (R.ns s (.inr hs))⟩⟩
theorem Bs {α:Type}{l l':List α}{x y:α} (h:l++[x]=l'++[y]):l=l'/\x=y:=by
 have:=List.append_inj' h rfl;exact ⟨this.1,by simpa using this.2⟩
end
section
variable {t:Addr}{Q:VK}{E:XK}{x e:Addr}{n k:Int}{m:Addr}{fr:Nat}{es:List Ent}{bs as:List jr}
theorem YL {T:Tn} (R:RB C pool H x dx e l n k m N st d kvs rs ls en b a fr es bs as) (ht:H t=some (.tup T.vs)) (hT:T.At pool H) (hl0:∀ l0 ps us,T=.al l0 ps us->l0≠e) (hN:N<=250) (hp:pool.length<=16) (hE:Em CF CN CT CH E H (dz T fr es bs as))
  (hQ:dz T fr es bs as=""->∀ v H',eG x e l H H'->tZ pool (1+3 * N) H x dx e l C n k st kvs rs ls fr es bs as v H' T->Q v H'):JV C CF CN CT CH K x t H Q E T:=by
 cases T with
 | en p r=>exact a02 R hT hN hp hE hQ
 | al l0 ps us=>exact a07 R ht hT (hl0 _ _ _ rfl) hN hp hE hQ
 | st i=>exact a03 R hN hE hQ
 | co i p r=>exact a06 R hT hN hp hE hQ
 | ba=>exact a04 R hN hE hQ
 | ag=>exact a05 R hN hE hQ
theorem RB.mono (R:RB C pool H x dx e l n k m N st d kvs rs ls en b a fr es bs as):RB C pool H x dx e l n k m (N+1) st d kvs rs ls en b a fr es bs as :=
 have hF:1+3 * N<=1+3 * (N+1):=by lia
 ⟨R.r,R.m,R.s.mono hF,L2.Paired.fQ R.kb fun v s z=>z.at (fun _ _ h=>h) (fun _ _ h=>h) hF,L2.Paired.fQ R.ka fun v s z=>z.at (fun _ _ h=>h) (fun _ _ h=>h) hF,Nat.le_succ_of_le R.len,R.xe,R.xl,R.el,R.tO,R.nb,R.na,R.ns⟩
end
theorem R9 {p q:Addr}{fr:Nat} (hp:H p=some (.lst (nums fr j))) (hq:H q=some (.lst (nums fr j))) (hj:j<=1000):Oa H (n+2) (.ref p) (.ref q):=by
 refine .inr (.inr ⟨p,q,_,_,rfl,rfl,hp,hq,rfl,?_,fun i u w hu hw=>?_⟩)
 ·unfold nums;rw [bL,List.length_range];exact hj
 ·rw [hu] at hw;injection hw with hw;unfold nums at hu;rw [iK] at hu;obtain ⟨z,_,rfl⟩:=Option.map_eq_some_iff.mp hu;exact .inl ⟨hw,rfl⟩
theorem V5 {H3:Hp}{x e:Addr}{n k:Int}{fr:Nat}{es:List Ent}{bs as:List jr}{T:Tn}{Qc:VK} (out:tZ pool F H x dx e l C n k st kvs rs ls fr es bs as v H' T) (s3:Same H' H3) (hT:T.At pool H3) (hr:∀ u∈es,H3 u.p=some (.tup u.r)/\dD u.r)
  (go:∀ w H4,Same H3 H4->Oa H4 4 v w->Qc w H4):Wg fr es H3 Qc T:=by
 cases T with
 | en p r =>
  obtain ⟨rfl,_⟩:=out;exact fun H4 s4=>go _ _ s4 (.inl ⟨rfl,rfl⟩)
 | al l0 ps us =>
  obtain ⟨⟨q,rfl,hq⟩,_⟩:=out;have:=hT.2.2.2;exact fun q' H4 s4 hq'=>go _ _ s4 (R9 (n:=2) (s4 _ _ (s3 _ _ hq)) hq' 0x1)
 | st i =>
  obtain ⟨⟨u,hu,e,rfl⟩,_⟩:=out;exact ⟨u,hu,e,fun H4 s4=>go _ _ s4 (yu (n:=2) (s4 _ _ (hr u hu).1) (hr u hu).2)⟩
 | co i p r =>
  obtain ⟨⟨u,hu,e,rfl⟩,_⟩:=out;exact ⟨u,hu,e,fun H4 s4=>go _ _ s4 (yu (n:=2) (s4 _ _ (hr u hu).1) (hr u hu).2)⟩
 | ba =>
  obtain ⟨rfl,_⟩:=out;exact fun H4 s4=>go _ _ s4 (.inl ⟨rfl,rfl⟩)
 | ag =>
  obtain ⟨rfl,_⟩:=out;exact fun H4 s4=>go _ _ s4 (.inl ⟨rfl,rfl⟩)
theorem Uw.free {fr:Nat}{es es':List Ent}{bs as bs' as':List jr}{T:Tn} (h:Uw H' en fr es bs as en' fr' es' bs' as' T) (s:Same H H'):Uw H en fr es bs as en' fr' es' bs' as' T:=by
 cases T with
 | ba=>exact h
 | ag=>exact h
 | _=>obtain ⟨t,h1,h2⟩:=h;exact ⟨t,s.free h1,h2⟩
section
variable {f:Addr}
abbrev nSt:List Str:=["_law_roll", "_law_model", "_law_turn_here", "_law_due", "_law_word", "_law_told_here"]
theorem V6:aY nSt ["_law_roll", "_law_model", "_law_turn_here"] (aH NT):=0x0
end
inductive Bt (C:Addr) (vs:List V) (H:Hp) (Q:VK):Prop
 | mk (x dx st d e l:Addr) (n m fr:Int) (kvs:List (Prod Int V)) (es ls:List V) (_:vs=[.ref x]) (_:bV C H x dx st d e l n m fr kvs es ls) (_:(BJ n&&okB m)=true) (_:∀ x' RN e' l' H',Same H H'->bV C H' x' RN st d e' l' n m fr kvs es ls->H x'=none->H e'=none->H l'=none->x'≠e'->x'≠l'->e'≠l'->Q (.ref x') H'):Bt C vs H Q
def Ra (C:Addr):Sp:=fun vs H Q _=>Bt C vs H Q
section
variable {f:Addr}
theorem Rb:aY ["self", "other"] ["self"] (aH O5):=0x0
theorem V7 (T:fO K C) (F:gQ K "twin" "Roll.twin" O5 f fd) (Kc:mg "list"=none)  (G1:aX P w K mg base cU 5 g1 d1 ["self", "acres", "bears"] (xQ C)) (MK1:Mk K C g1) (mR:mg "Roll"=some (.ref C)) (b1:Binds K d1 ["self", "acres", "bears"] []):aX P w K mg base cU 7 f fd ["self"] (Ra C):=by
 refine F.ok Rb 0xA 0x3
 ·obtain ⟨x,dx,st,d,e,l,n,m,fr,kvs,es,ls,rfl,_⟩:=h;rfl
 obtain ⟨x,dx,st,d,e,l,n,m,fr,kvs,es,ls,rfl,R,hok,k⟩:=h;refine tM.out ⟨_,aG (cg (i:=1) Rb.nd rfl 0x5 ⟨FJ (CX:=cU) (E:=E0) MK1 G1 hr rfl mR b1 .nil bN (aj (cF 0x10 rfl) (aj (cF 0x10 rfl) ao))⟩)
  (aG ⟨gJ (pv 1) (cF 0x10 rfl) rfl⟩
  (aG ⟨gJ (pv 1) (bM cN rfl Kc eO (aj (cF 0x10 rfl) ao)) rfl⟩
  (aG ⟨gJ (pv 1) (bM cN rfl Kc eO (aj (cF 0x10 rfl) ao)) rfl⟩
  (aV (bH (wv 1)))))),?_⟩
 refine ⟨_,rfl,x,C,dx,_,_,rfl,R.o,T.cl,T.n1,rfl,_,rfl,x,C,dx,_,_,rfl,R.o,T.cl,T.n2,rfl,fun y dy hy0 hdy0 hne=>?_⟩;refine ⟨y,dy,n,m,rfl,ak,hok,fun st1 d1 e1 l1 H1 kx RA _ _ V8 hl0 nye nyl _ _ W5=>⟨rfl,?_⟩⟩;have s1:Same H H1:=fun c o hc=>kx c o (fun z=>by rw [z,hy0] at hc;cases hc) (by
  rw [aA (fun z=>by rw [z,hy0] at hc;cases hc),aA (fun z=>by rw [z,hdy0] at hc;cases hc)];exact hc)
 have nxy:x≠y:=fun z=>by have:=R.o;rw [z,hy0] at this;cases this
 clear kx;have R1:=R.same s1;refine ⟨_,rfl,x,C,dx,_,_,rfl,R1.o,T.cl,T.n3,rfl,_,rfl,y,C,dy,_,rfl,RA.o,T.cl,T.n3,Nat.lt_of_sub_eq_succ rfl,?_⟩;generalize hH2:upd _ y _=H2;have y2:H2 y=some (.ins C dy (FR n m st e1 l1)):=by rw [<- hH2,ak];rfl
 have s2:Same H H2:=fun c o hc=>by rw [<- hH2,aA (fun z=>by rw [z,hy0] at hc;cases hc)];exact s1 _ _ hc
 clear hH2;have R2:=R.same s2;refine ⟨_,rfl,x,C,dx,_,_,rfl,R2.o,T.cl,T.n4,rfl,e,_,rfl,.inl (bf.of R2.e),fun e2 he2=>?_⟩;have ny2:y≠e2:=aM y2 he2;refine ⟨_,rfl,y,C,dy,_,rfl,by rw [aA ny2];exact y2,T.cl,T.n4,Nat.lt_of_sub_eq_succ rfl,?_⟩;have he20:H e2=none:=s2.free he2;generalize DG:upd _ y _=H3;have y3:H3 y=some (.ins C dy (FR n m st e2 l1)):=by rw [<- DG,ak];rfl
 have e3:H3 e2=some (.lst es):=by rw [<- DG,aA (Ne.symm ny2),ak]
 have s3:Same H H3:=fun c o hc=>by rw [<- DG,aA (fun z=>by rw [z,hy0] at hc;cases hc),aA (fun z=>by rw [z,he20] at hc;cases hc)];exact s2 _ _ hc
 clear DG;have R3:=R.same s3;refine ⟨_,rfl,x,C,dx,_,_,rfl,R3.o,T.cl,T.n5,rfl,l,_,rfl,.inl (bf.of R3.l),fun l2 hl2=>?_⟩;have ny3:y≠l2:=aM y3 hl2;refine ⟨_,rfl,y,C,dy,_,rfl,by rw [aA ny3];exact y3,T.cl,T.n5,Nat.lt_of_sub_eq_succ rfl,?_⟩;have hl20:H l2=none:=s3.free hl2;have nel2:e2≠l2:=aM e3 hl2;generalize RD:upd _ y _=H4;have y4:H4 y=some (.ins C dy (FR n m st e2 l2)):=by rw [<- RD,ak];rfl
 have l4:H4 l2=some (.lst ls):=by rw [<- RD,aA (Ne.symm ny3),ak]
 have e4:H4 e2=some (.lst es):=by rw [<- RD,aA (Ne.symm ny2),aA nel2];exact e3
 have s4:Same H H4:=fun c o hc=>by rw [<- RD,aA (fun z=>by rw [z,hy0] at hc;cases hc),aA (fun z=>by rw [z,hl20] at hc;cases hc)];exact s3 _ _ hc
 clear RD;refine ⟨_,rfl,?_⟩;exact k y dy e2 l2 H4 s4 ⟨y4,s4 _ _ R.s,s4 _ _ R.k,e4,l4⟩ hy0 he20 hl20 ny2 ny3 nel2
end
section
variable {t:Addr}{x e:Addr}{n k:Int}{m:Addr}{fr:Nat}{es:List Ent}{bs as:List jr}{T:Tn}
theorem RB.YM {b' a':Addr}{es':List Ent}{bs' as':List jr} (R:RB C pool H x dx e l n k m N st d kvs rs ls en b a fr es bs as) (hT:T.At pool H) (ok:dz T fr es bs as="") (kp:eG x e l H H')
  (o:tZ pool (1+3 * N) H x dx e l C n k st kvs rs ls fr es bs as v H' T) (s2:Same H' H2) (M:gK H2 m' en' b' a' fr' es' bs' as') (hb':H' b'=none) (ha':H' a'=none) (mv:Uw H' en fr es bs as en' fr' es' bs' as' T) :
  ∃ l' st' d' kvs' rs' ls',((l'=l/\(T=.ba\/T=.ag))\/(H l'=none/\H' en'=none/\∃ q,bs'=bs++[⟨q,en,fr,es⟩]/\as'=[]))/\RB C pool H2 x dx e l' n k m' (N+1) st' d' kvs' rs' ls' en' b' a' fr' es' bs' as':=by
 obtain ⟨o1,o2,o3,o4,o5⟩:=Ij ok;have hF:1+3 * N<=1+3 * (N+1):=by lia
 have kt2:∀ c u,H c=some (.tup u)->H2 c=some (.tup u):=fun c u h=>s2 _ _ (R.kt kp c u h);have kd2:∀ c u,H c=some (.dK u)->H2 c=some (.dK u):=fun c u h=>s2 _ _ (R.kd kp c u h);have up:∀ {vs:List V}{ss:List jr},Paired (RK pool (1+3 * N) H) vs ss->Paired (RK pool (1+3 * (N+1)) H2) vs ss:=fun h=>L2.Paired.fQ h fun v s z=>z.at kt2 kd2 hF;have now:∀ q,RK pool (1+3 * (N+1)) H2 (.ref st) ⟨q,en,fr,es⟩:=fun q=>⟨st,d,kvs,⟨rfl,kt2 _ _ R.r.s,kd2 _ _ R.r.k⟩,R.s.mono hF⟩;have hlen:=R.len
 by_cases hba:T=.ba
 ·subst hba;obtain ⟨_,K3,v0,oZ,s,dJ,st2,d2,rfl,rfl,hpb,hS,YK,R'⟩:=o;obtain ⟨bs1,s1,q,hbs,rfl,rfl,rfl,rfl,rfl⟩:=mv;obtain ⟨rfl,rfl⟩:=Bs hbs;have fe:b'≠e:=fun z=>by rw [z,R'.e] at hb';cases hb'
  have fl:b'≠l:=fun z=>by rw [z,R'.l] at hb';cases hb'
  have ge:a'≠e:=fun z=>by rw [z,R'.e] at ha';cases ha'
  have gl:a'≠l:=fun z=>by rw [z,R'.l] at ha';cases ha'
  refine ⟨l,st2,d2,dJ,K3,_,.inl ⟨rfl,.inl rfl⟩,R'.same s2,M,YK.mono hF,up hpb,ig (up R.ka) (now q),?_,R.xe,R.xl,R.el,R.ns _ (.inl 0x4),⟨fe,fl⟩,⟨ge,gl⟩,fun z hz=>?_⟩
  ·simp at hlen ⊢;lia
  ·rcases hz with hz | hz
   ·exact R.ns z (.inl (List.mem_append.mpr (.inl hz)))
   ·rcases List.mem_append.mp hz with hz | hz
    ·exact R.ns z (.inr hz)
    ·rw [List.mem_singleton.mp hz];exact R.tO
 by_cases hag:T=.ag
 ·subst hag;obtain ⟨_,K3,v0,oZ,s,dJ,st2,d2,rfl,rfl,hpb,hS,YK,R'⟩:=o;obtain ⟨bs1,s1,q,hbs,rfl,rfl,rfl,rfl,rfl⟩:=mv;obtain ⟨rfl,rfl⟩:=Bs hbs;have fe:b'≠e:=fun z=>by rw [z,R'.e] at hb';cases hb'
  have fl:b'≠l:=fun z=>by rw [z,R'.l] at hb';cases hb'
  have ge:a'≠e:=fun z=>by rw [z,R'.e] at ha';cases ha'
  have gl:a'≠l:=fun z=>by rw [z,R'.l] at ha';cases ha'
  refine ⟨l,st2,d2,dJ,_,K3,.inl ⟨rfl,.inr rfl⟩,R'.same s2,M,YK.mono hF,ig (up R.kb) (now q),up hpb,?_,R.xe,R.xl,R.el,R.ns _ (.inr 0x4),⟨fe,fl⟩,⟨ge,gl⟩,fun z hz=>?_⟩
  ·simp at hlen ⊢;lia
  ·rcases hz with hz | hz
   ·rcases List.mem_append.mp hz with hz | hz
    ·exact R.ns z (.inl hz)
    ·rw [List.mem_singleton.mp hz];exact R.tO
   ·exact R.ns z (.inr (List.mem_append.mpr (.inl hz)))
 have oo:∃ st' d' l',H l'=none/\bV C H' x dx st' d' e l' n k ((fr+T.mp.length:Nat):Int) (T.kv fr kvs) (rs++[.ref st]) []:=by
  cases T with
  | ba=>exact absurd rfl hba
  | ag=>exact absurd rfl hag
  | _=>exact o.2
 have mm:∃ t,H' en'=none/\fr'=fr+T.mp.length/\es'.map Ent.c=T.new fr 0x17/\bs'=bs++[⟨t,en,fr,es⟩]/\as'=[]:=by
  cases T with
  | ba=>exact absurd rfl hba
  | ag=>exact absurd rfl hag
  | _=>exact mv
 obtain ⟨st',d',l',hl',R'⟩:=oo;obtain ⟨q,hen,rfl,hes,rfl,rfl⟩:=mm;have S:=R.s.step hT o1 (fun i hi=>by obtain ⟨u,hu,e⟩:=o2 i hi;exact ⟨_,List.mem_map.mpr ⟨u,hu,rfl⟩,e⟩) o5 hba hag;have fr1:∀ c,H' c=none->c≠e/\c≠l':=fun c hc=>⟨fun z=>(by rw [z,R'.e] at hc;cases hc),fun z=>(by rw [z,R'.l] at hc;cases hc)⟩;have ol:∀ c o,H c=some o->c≠l':=fun c o hc z=>by rw [z,hl'] at hc;cases hc
 refine ⟨l',st',d',_,_,[],.inr ⟨hl',hen,q,rfl,rfl⟩,R'.same s2,M,?_,ig (up R.kb) (now q),.nil,?_,R.xe,ol _ _ R.r.o,ol _ _ R.r.e,fr1 _ hen,fr1 _ hb',fr1 _ ha',fun z hz=>?_⟩
 ·rw [hes];have e4:1+3 * (N+1)=1+3 * N+3:=by lia
  rw [e4];exact S
 ·simp at hlen ⊢;lia
 ·rcases hz with hz | hz
  ·rcases List.mem_append.mp hz with hz | hz
   ·exact ⟨(R.ns z (.inl hz)).1,ol _ _ (R.m.bs z hz).2.1⟩
   ·rw [List.mem_singleton.mp hz];exact ⟨R.tO.1,ol _ _ R.m.en.1⟩
  ·cases hz
structure RC (S:List Addr) (C:Addr) (pool:List (List V)) (H:Hp) (x dx e l:Addr) (n k:Int) (m:Addr) (N:Nat) (st d:Addr) (kvs:List (Int×V)) (rs ls:List V) (en b a:Addr) (fr:Nat) (es:List Ent) (bs as:List jr):Prop where
 R:RB C pool H x dx e l n k m N st d kvs rs ls en b a fr es bs as
 eS:e∈S
 lS:l∈S
 tO:en∉S
 nb:b∉S
 na:a∉S
 ns:∀ s,s∈bs\/s∈as->s.en∉S
inductive Wk (S:List Addr) (C:Addr) (pool:List (List V)) (H:Hp) (x dx e l:Addr) (n k:Int) (m:Addr) (N:Nat):Prop
 | mk (st d:Addr) (kvs:List (Prod Int V)) (rs ls:List V) (en b a:Addr) (fr:Nat) (es:List Ent) (bs as:List jr) (_:RC S C pool H x dx e l n k m N st d kvs rs ls en b a fr es bs as):Wk S C pool H x dx e l n k m N
def mY (S:List Addr) (C:Addr) (pool:List (List V)) (H:Hp) (x dx e l:Addr) (n k:Int) (m:Addr) (N:Nat):Prop:=Wk S C pool H x dx e l n k m N
def Ls (S:List Addr) (H:Hp):Prop:=∀ c∈S,∃ v,H c=some (.lst v)
theorem mY.same (h:mY S C pool H x dx e l n k m N) (s:Same H H'):mY S C pool H' x dx e l n k m N:=by
 obtain ⟨st,d,kvs,rs,ls,en,b,a,fr,es,bs,as,R⟩:=h;exact ⟨st,d,kvs,rs,ls,en,b,a,fr,es,bs,as,R.R.same s,R.eS,R.lS,R.tO,R.nb,R.na,R.ns⟩
theorem mY.mono (h:mY S C pool H x dx e l n k m N):mY S C pool H x dx e l n k m (N+1):=by
 obtain ⟨st,d,kvs,rs,ls,en,b,a,fr,es,bs,as,R⟩:=h;exact ⟨st,d,kvs,rs,ls,en,b,a,fr,es,bs,as,R.R.mono,R.eS,R.lS,R.tO,R.nb,R.na,R.ns⟩
theorem Ls.same (h:Ls S H) (s:Same H H'):Ls S H':=fun c hc=>by
 obtain ⟨v,hv⟩:=h c hc;exact ⟨v,s _ _ hv⟩
def V9 (H:Hp) (l:Addr) (S:List Addr) (l':Addr) (S':List Addr):Prop:=(l'=l/\S'=S)\/(H l'=none/\S'=l'::S.filter fun c=>decide (c≠l))
theorem RC.YQ {b' a':Addr}{es':List Ent}{bs' as':List jr} (R:RC S C pool H x dx e l n k m N st d kvs rs ls en b a fr es bs as) (hS:Ls S H) (hT:T.At pool H) (ok:dz T fr es bs as="") (kp:eG x e l H H')
  (o:tZ pool (1+3 * N) H x dx e l C n k st kvs rs ls fr es bs as v H' T) (s2:Same H' H2) (M:gK H2 m' en' b' a' fr' es' bs' as') (hb':H' b'=none) (ha':H' a'=none) (mv:Uw H' en fr es bs as en' fr' es' bs' as' T) :
  ∃ l' S',V9 H l S l' S'/\mY S' C pool H2 x dx e l' n k m' (N+1)/\Ls S' H2:=by
 obtain ⟨l',st',d',kvs',rs',ls',hl',R'⟩:=R.R.YM hT ok kp o s2 M hb' ha' mv;have he2:=R'.r.e;have hx:=R.R.r.o;have old:∀ c∈S,c≠l->∃ v,H2 c=some (.lst v):=fun c hc hcl=>by
  obtain ⟨v,hv⟩:=hS c hc
  by_cases hce:c=e
  ·exact ⟨_,hce ▸ he2⟩
  ·exact ⟨v,s2 _ _ (kp c _ (fun z=>by rw [z,hx] at hv;cases hv) hce hcl hv)⟩
 rcases hl' with ⟨rfl,hbg⟩ | ⟨h0,hen0,q,rfl,rfl⟩
 ·have yE:∀ c,H' c=none->c∉S:=fun c hc hcS=>by
   obtain ⟨v,hv⟩:=hS c hcS
   by_cases h1:c=e
   ·have:=R.R.r.e;rcases hbg with rfl | rfl
    ·obtain ⟨_,K3,v0,oZ,s,dJ,st2,d2,_,_,_,_,_,RR⟩:=o;rw [h1,RR.e] at hc;cases hc
    ·obtain ⟨_,K3,v0,oZ,s,dJ,st2,d2,_,_,_,_,_,RR⟩:=o;rw [h1,RR.e] at hc;cases hc
   ·by_cases h2:c=l'
    ·rcases hbg with rfl | rfl
     ·obtain ⟨_,K3,v0,oZ,s,dJ,st2,d2,_,_,_,_,_,RR⟩:=o;rw [h2,RR.l] at hc;cases hc
     ·obtain ⟨_,K3,v0,oZ,s,dJ,st2,d2,_,_,_,_,_,RR⟩:=o;rw [h2,RR.l] at hc;cases hc
    ·rw [kp c _ (fun z=>by rw [z,hx] at hv;cases hv) h1 h2 hv] at hc;cases hc
  refine ⟨l',S,.inl ⟨rfl,rfl⟩,⟨st',d',kvs',rs',ls',en',b',a',fr',es',bs',as',R',R.eS,R.lS,?_,yE _ hb',yE _ ha',fun s hs=>?_⟩,fun c hc=>?_⟩
  ·rcases hbg with rfl | rfl
   ·obtain ⟨bs1,s1,q,rfl,rfl,_⟩:=mv;exact R.ns _ (.inl 0x4)
   ·obtain ⟨bs1,s1,q,rfl,rfl,_⟩:=mv;exact R.ns _ (.inr 0x4)
  ·rcases hbg with rfl | rfl
   ·obtain ⟨bs1,s1,q,rfl,_,_,_,rfl,rfl⟩:=mv;rcases hs with hs | hs
    ·exact R.ns _ (.inl (by simp [hs]))
    ·rcases List.mem_append.mp hs with hs | hs
     ·exact R.ns _ (.inr hs)
     ·rw [List.mem_singleton.mp hs];exact R.tO
   ·obtain ⟨bs1,s1,q,rfl,_,_,_,rfl,rfl⟩:=mv;rcases hs with hs | hs
    ·rcases List.mem_append.mp hs with hs | hs
     ·exact R.ns _ (.inl hs)
     ·rw [List.mem_singleton.mp hs];exact R.tO
    ·exact R.ns _ (.inr (by simp [hs]))
  ·by_cases h2:c=l'
   ·exact ⟨_,h2 ▸ R'.r.l⟩
   ·exact old c hc h2
 ·have yE:∀ c,H' c=none->∀ z∈S.filter (fun c=>decide (c≠l)),c≠z:=fun c hc z hz e1=>by
   obtain ⟨hzS,K7⟩:=List.mem_filter.mp hz;have K7:z≠l:=u9 K7;obtain ⟨v,hv⟩:=hS z hzS
   by_cases h1:z=e
   ·have:H' e≠none:=by
     intro h9;cases T with
     | ba=>obtain ⟨_,K3,v0,oZ,s,dJ,st2,d2,_,_,_,_,_,RR⟩:=o;rw [RR.e] at h9;cases h9
     | ag=>obtain ⟨_,K3,v0,oZ,s,dJ,st2,d2,_,_,_,_,_,RR⟩:=o;rw [RR.e] at h9;cases h9
     | en _ _=>obtain ⟨_,_,_,_,_,RR⟩:=o;rw [RR.e] at h9;cases h9
     | al _ _ _=>obtain ⟨_,_,_,_,_,RR⟩:=o;rw [RR.e] at h9;cases h9
     | st _=>obtain ⟨_,_,_,_,_,RR⟩:=o;rw [RR.e] at h9;cases h9
     | co _ _ _=>obtain ⟨_,_,_,_,_,RR⟩:=o;rw [RR.e] at h9;cases h9
    exact this (by rw [<- h1,<- e1];exact hc)
   ·rw [e1,kp z _ (fun y=>by rw [y,hx] at hv;cases hv) h1 K7 hv] at hc;cases hc
  have out:∀ c,c≠l'->(∀ z∈S.filter (fun c=>decide (c≠l)),c≠z)->c∉l'::S.filter fun c=>decide (c≠l):=fun c h1 h2 h3=>by
   rcases List.mem_cons.mp h3 with h3 | h3
   ·exact h1 h3
   ·exact h2 c h3 rfl
  have sub:∀ c,c∉S->∀ z∈S.filter (fun c=>decide (c≠l)),c≠z:=fun c hc z hz e1=>hc (e1 ▸ (List.mem_filter.mp hz).1);have ol:∀ c o,H c=some o->c≠l':=fun c o hc z=>by rw [z,h0] at hc;cases hc
  refine ⟨l',_,.inr ⟨h0,rfl⟩,⟨st',d',kvs',rs',ls',en',b',a',fr',es',_,[],R',?_,List.mem_cons_self ..,out _ R'.tO.2 (yE _ hen0),out _ R'.nb.2 (yE _ hb'),out _ R'.na.2 (yE _ ha'),fun s hs=>?_⟩,fun c hc=>?_⟩
  ·exact jw _ (List.mem_filter.mpr ⟨R.eS,by simpa using R.R.el⟩)
  ·rcases hs with hs | hs
   ·rcases List.mem_append.mp hs with hs | hs
    ·exact out _ (ol _ _ (R.R.m.bs s hs).2.1) (sub _ (R.ns s (.inl hs)))
    ·rw [List.mem_singleton.mp hs];exact out _ (ol _ _ R.R.m.en.1) (sub _ R.tO)
   ·cases hs
  ·rcases List.mem_cons.mp hc with rfl | hc
   ·exact ⟨_,R'.r.l⟩
   ·obtain ⟨h1,h2⟩:=List.mem_filter.mp hc;exact old c h1 (u9 h2)
end
inductive vM (C:Addr) (vs:List V) (H:Hp) (Q:VK):Prop
 | mk (S:List Addr) (pool:List (List V)) (x dx e l m t:Addr) (n k:Int) (N:Nat) (T:Tn) (_:vs=[.ref x,.ref m,.ref t]) (_:mY S C pool H x dx e l n k m N) (_:Ls S H) (_:H t=some (.tup T.vs)) (_:T.At pool H) (_:(∀ l0 ps us,T=.al l0 ps us->l0≠e/\l0≠l)) (_:N<=250) (_:pool.length<=16) (_:∀ m' l' S' H',eG x e l H H'->V9 H l S l' S'->mY S' C pool H' x dx e l' n k m' (N+1)->Ls S' H'->Q (.ref m') H'):vM C vs H Q
def Ik (C:Addr):Sp:=fun vs H Q _=>vM C vs H Q
section
variable {f:Addr}
theorem Rf (F:gQ K "_law_step" "_law_step" NT f fd) 
  (G1:aX P w K mg base cU 3 g1 d1 ["_law_model", "_law_turn_here"] Ib) (M1:Ms K mg "_law_refusal" g1 d1 ["_law_model", "_law_turn_here"])
  (G2:aX P w K mg base cU 8 g2 d2 ["_law_roll", "_law_turn_here"] (Wh C CF CN CT CH K)) (M2:Ms K mg "_law_roll_try" g2 d2 ["_law_roll", "_law_turn_here"])
  (G3:aX P w K mg base cU 4 g3 d3 ["_law_found", "_law_due"] (oU 4)) (M3:Ms K mg "_law_same" g3 d3 ["_law_found", "_law_due"])
  (G4:aX P w K mg base cU 1 g4 d4 ["_law_model", "_law_turn_here"] QZ) (M4:Ms K mg "_law_told" g4 d4 ["_law_model", "_law_turn_here"])
  (G5:aX P w K mg base cU 2 g5 d5 ["_law_model", "_law_turn_here"] yt) (M5:Ms K mg "_law_moved" g5 d5 ["_law_model", "_law_turn_here"]):aX P w K mg base cU 9 f fd ["_law_roll", "_law_model", "_law_turn_here"] (Ik C):=by
 refine F.ok V6 0xA 0x3
 ·obtain ⟨S,pool,x,dx,e,l,m,t,n,k,N,T,rfl,_⟩:=h;rfl
 obtain ⟨S,pool,x,dx,e,l,m,t,n,k,N,T,rfl,RX,hS,ht,hT,hl0,hN,hpl,kk⟩:=h;have RX0:=RX;obtain ⟨st,d,kvs,rs,ls,en,b,a,fr,es,bs,as,YS⟩:=RX;have R:=YS.R;have h3:cI 3 _:=hr.mono 0x8;have h4:cI 4 _:=hr.mono 0x8;have h1:cI 1 _:=hr.mono 0x8;have h2:cI 2 _:=hr.mono 0x8;refine tM.out ⟨_,aG (cg (i:=3) V6.nd rfl 0x5 ⟨bB G1 h3 rfl M1.m M1.k M1.b .nil bN (aj (pv 1) (aj (pv 2) ao))⟩)
  (aG ⟨gG (bB G2 hr rfl M2.m M2.k M2.b .nil bN (aj 0x10 (aj (pv 2) ao))) (fu rfl (bw (aO (i:=4) V6.nd rfl 0x5) (bw (aO (i:=5) V6.nd rfl 0x5) cQ)))⟩
  (aG (cM (aN mq (pv 4) (pv 3) (aZ _)) (aV (bH ⟨vR⟩)) bI)
  (aG (cM (aN mq (pv 3) aD (aZ _)) (aV (bH (wv 1))) bI)
  (aG (cM (eU (dX (bB G3 h4 rfl M3.m M3.k M3.b .nil bN (aj (pv 5) (aj (bB G4 h1 rfl M4.m M4.k M4.b .nil bN (aj (pv 1) (aj (pv 2) ao))) ao))))) (aV (bH ⟨vR⟩)) bI)
  (aV (bH ⟨bB G5 h2 rfl M5.m M5.k M5.b .nil bN (aj (pv 1) (aj (pv 2) ao))⟩)))))),?_⟩
 have hel:es.length<=16:=by
  have:=R.s.len;rw [bL] at this;lia
 have hg:∀ u∈es,dD u.r:=fun u hu=>(R.s.ok _ (List.mem_map.mpr ⟨u,hu,rfl⟩)).1;refine ⟨_,rfl,_,rfl,m,t,en,b,a,fr,es,bs,as,T,pool,rfl,R.m,by lia,hg,ht,hT,fun H1 s1=>?_⟩;have R1:=R.same s1;have ht1:=s1 _ _ ht;refine ⟨_,rfl,_,rfl,x,dx,t,st,e,l,n,k,T,rfl,R1.r.o,ht1,fun lm RJ=>?_⟩;have s2:=aq RJ (.lst (iI.map V.bl));have m2:(upd H1 lm (.lst (iI.map V.bl))) lm=some (.lst (iI.map V.bl)):=ak;have nlx:lm≠x:=fun z=>by rw [z,R1.r.o] at RJ;cases RJ
 have nle:lm≠e:=fun z=>by rw [z,R1.r.e] at RJ;cases RJ
 have nll:lm≠l:=fun z=>by rw [z,R1.r.l] at RJ;cases RJ
 generalize upd H1 lm (.lst (iI.map V.bl))=H2 at s2 m2 ⊢;have R2:=R1.same s2;have s12:=s1.trans s2;refine YL R2 (s2 _ _ ht1) (hT.same s12) (fun l0 ps us e=>(hl0 l0 ps us e).1) hN hpl (fun i c hc hw H' s'=>⟨i,c,_,rfl,hc,hw,fun p H3 s3 hp3=>?_⟩) (fun hok v H' kp out=>⟨kp _ _ nlx nle nll m2,fun p H3 s3 hp3=>?_⟩)
 ·refine ⟨p,_,rfl,bF.of hp3,rfl,_,_,rfl,_,_,rfl,?_⟩;have hne:dz T fr es bs as≠"":=fun z=>by
   rw [z] at hw;have hi:i<4:=(List.getElem?_eq_some_iff.mp hw).1
   match i,hi,hw with
   | 0,_,hw=>injection hw with hw;exact absurd hw 0xE
   | 1,_,hw=>injection hw with hw;exact absurd hw 0xE
   | 2,_,hw=>injection hw with hw;exact absurd hw 0xE
   | 3,_,hw=>injection hw with hw;exact absurd hw 0xE
  have g3:Same H H3:=s12.trans (s'.trans s3);refine ⟨rfl,_,rfl,_,rfl,rfl,_,rfl,?_⟩;rw [decide_eq_true (rfl:V.str (dz T fr es bs as)=V.str (dz T fr es bs as))];refine aL ?_;refine ⟨_,rfl,rfl,_,rfl,?_⟩;rw [decide_eq_false (fun z=>hne (V.str.inj z):¬ V.str (dz T fr es bs as)=V.str "")];refine bR ⟨_,rfl,?_⟩;exact kk m l S H3 (fun c o _ _ _ h=>g3 _ _ h) (.inl ⟨rfl,rfl⟩) (RX0.same g3).mono (hS.same g3)
 ·refine ⟨p,_,rfl,bF.of hp3,rfl,_,_,rfl,_,_,rfl,?_⟩;have kp0:eG x e l H H':=fun c o c1 c2 c3 h=>kp c o c1 c2 c3 (s12 _ _ h);have kp3:eG x e l H H3:=fun c o c1 c2 c3 h=>s3 _ _ (kp0 c o c1 c2 c3 h);have M3:gK H3 m en b a fr es bs as:=(R2.a08 kp).same s3;have ht3:H3 t=some (.tup T.vs):=s3 _ _ (R2.kt kp _ _ (s2 _ _ ht1));have Yn:T.At pool H3:=by
   cases T with
   | en p r=>exact ⟨s3 _ _ (R2.kt kp _ _ (s12 _ _ hT.1)),hT.2⟩
   | al l0 ps us=>exact ⟨s3 _ _ (R2.kl kp _ _ (hl0 _ _ _ rfl).1 (hl0 _ _ _ rfl).2 (s12 _ _ hT.1)),L2.Paired.fQ hT.2.1 fun c r h=>s3 _ _ (R2.kt kp _ _ (s12 _ _ h)),hT.2.2⟩
   | co i p r=>exact ⟨s3 _ _ (R2.kt kp _ _ (s12 _ _ hT.1)),hT.2⟩
   | _=>exact hT
  have hup:es.Pairwise (fun x y=>x.n<y.n):=by
   have:=R.s.up;rw [List.pairwise_map] at this;exact this
  have hbl:bs.length<=N:=by have:=R.kb.length;have:=R.len;lia
  have hal:as.length<=N:=by have:=R.ka.length;have:=R.len;lia
  obtain ⟨o1,o2,o3,o4,o5⟩:=Ij hok;refine ⟨rfl,_,rfl,_,rfl,rfl,_,rfl,?_⟩;rw [hok,decide_eq_true (rfl:V.str ""=V.str "")];refine aL ?_;refine ⟨_,rfl,rfl,_,rfl,?_⟩;rw [decide_eq_true (rfl:V.str ""=V.str "")];refine aL ?_;have rest:∀ H4,Same H3 H4->yt [.ref m,.ref t] H4 Q E0:=fun H4 s4=>⟨m,t,en,b,a,fr,es,bs,as,T,pool,rfl,M3.same s4,by lia,by lia,by lia,s4 _ _ ht3,Yn.same s4,o3,o4,fun m' en' b' a' fr' es' bs' as' H5 s5 M5 hb5 ha5 mv=>by
   have Uz:=s3.trans (s4.trans s5);have s34:=s3.trans s4;have RC2:RC S C pool H2 x dx e l n k m N st d kvs rs ls en b a fr es bs as:=⟨R2,YS.eS,YS.lS,YS.tO,YS.nb,YS.na,YS.ns⟩;obtain ⟨l',S',hNS,RX,hLs⟩:=RC2.YQ (hS.same s12) (hT.same s12) hok kp out Uz M5 (s34.free hb5) (s34.free ha5) (mv.free s34);exact kk m' l' S' H5 (fun c o c1 c2 c3 h=>Uz _ _ (kp0 c o c1 c2 c3 h)) (hNS.imp id fun z=>⟨s12.free z.1,z.2⟩) RX hLs⟩
  refine ⟨_,rfl,_,rfl,_,rfl,m,t,en,b,a,fr,es,bs,as,T,pool,rfl,M3,by lia,ht3,Yn,hup,?_⟩;refine V5 out s3 Yn (fun u hu=>⟨(M3.en.2 u hu).2,hg u hu⟩) fun wv H4 s4 hq=>?_;exact ⟨_,_,rfl,hq,fun H5 s5=>⟨true,rfl,aL ⟨_,rfl,_,rfl,rest H5 (s4.trans s5)⟩⟩⟩
end
section
variable {x e:Addr}{n k:Int}{m:Addr}
theorem mY.Wm {Pc:Addr->Prop}{l2:Addr}{S':List Addr} (h:mY S C pool H x dx e l n k m N) (hs:V9 H l2 S l' S') (q1:e≠l2) (q2:l≠l2) (kp:∀ c o,¬ Pc c->H c=some o->H' c=some o) (hx:¬ Pc x) (he:¬ Pc e) (hl:¬ Pc l) (hP:∀ c,Pc c->(c∈S/\∃ v,H c=some (.lst v))\/∃ C dx fs,H c=some (.ins C dx fs)):mY S' C pool H' x dx e l n k m N:=by
 obtain ⟨st,d,kvs,rs,ls,en,b,a,fr,es,bs,as,R,eS,lS,tO,nb,na,ns⟩:=h;have kt:∀ c u,H c=some (.tup u)->H' c=some (.tup u):=fun c u h=>kp c _ (fun z=>by
  rcases hP c z with ⟨_,v,hv⟩ | ⟨_,_,_,hv⟩
  ·rw [h] at hv;cases hv
  ·rw [h] at hv;cases hv) h
 have kd:∀ c u,H c=some (.dK u)->H' c=some (.dK u):=fun c u h=>kp c _ (fun z=>by
  rcases hP c z with ⟨_,v,hv⟩ | ⟨_,_,_,hv⟩
  ·rw [h] at hv;cases hv
  ·rw [h] at hv;cases hv) h
 have kl:∀ c u,c∉S->H c=some (.lst u)->H' c=some (.lst u):=fun c u h1 h=>kp c _ (fun z=>by
  rcases hP c z with ⟨hc,_⟩ | ⟨_,_,_,hv⟩
  ·exact h1 hc
  ·rw [h] at hv;cases hv) h
 have ke:∀ {c:Addr}{us:List Ent},c∉S->iV H c us->iV H' c us:=fun h1 h=>⟨kl _ _ h1 h.1,fun u hu=>⟨kt _ _ (h.2 u hu).1,kt _ _ (h.2 u hu).2⟩⟩;have RR:RB C pool H' x dx e l n k m N st d kvs rs ls en b a fr es bs as:=⟨⟨kp _ _ hx R.r.o,kt _ _ R.r.s,kd _ _ R.r.k,kp _ _ he R.r.e,kp _ _ hl R.r.l⟩,⟨kd _ _ R.m.m,ke tO R.m.en,kl _ _ nb R.m.b,kl _ _ na R.m.a,fun s hs=>⟨kt _ _ (R.m.bs s hs).1,ke (ns s (.inl hs)) (R.m.bs s hs).2⟩,fun s hs=>⟨kt _ _ (R.m.as s hs).1,ke (ns s (.inr hs)) (R.m.as s hs).2⟩⟩,R.s,L2.Paired.fQ R.kb fun v s z=>z.at kt kd 0x6,L2.Paired.fQ R.ka fun v s z=>z.at kt kd 0x6,R.len,R.xe,R.xl,R.el,R.tO,R.nb,R.na,R.ns⟩;rcases hs with ⟨_,rfl⟩ | ⟨h0,rfl⟩
 ·exact ⟨st,d,kvs,rs,ls,en,b,a,fr,es,bs,as,RR,eS,lS,tO,nb,na,ns⟩
 have ol:∀ c o,H c=some o->c∉S->c∉l'::S.filter fun c=>decide (c≠l2):=fun c o hc hn h3=>by
  rcases List.mem_cons.mp h3 with z | z
  ·rw [z,h0] at hc;cases hc
  ·exact hn (List.mem_filter.mp z).1
 have inn:∀ c,c∈S->c≠l2->c∈l'::S.filter fun c=>decide (c≠l2):=fun c hc hn=>jw _ (List.mem_filter.mpr ⟨hc,decide_eq_true hn⟩);exact ⟨st,d,kvs,rs,ls,en,b,a,fr,es,bs,as,RR,inn _ eS q1,inn _ lS q2,ol _ _ R.m.en.1 tO,ol _ _ R.m.b nb,ol _ _ R.m.a na,fun s hs=>ol _ _ (hs.elim (fun h=>(R.m.bs s h).2.1) fun h=>(R.m.as s h).2.1) (ns s hs)⟩
theorem mY.keep {Pc:Addr->Prop} (h:mY S C pool H x dx e l n k m N) (kp:∀ c o,¬ Pc c->H c=some o->H' c=some o) (hx:¬ Pc x) (he:¬ Pc e) (hl:¬ Pc l) (hP:∀ c,Pc c->(c∈S/\∃ v,H c=some (.lst v))\/∃ C dx fs,H c=some (.ins C dx fs)):mY S C pool H' x dx e l n k m N:=by
 have h1:x≠e:=by
  obtain ⟨st,d,kvs,rs,ls,en,b,a,fr,es,bs,as,R⟩:=h;exact R.R.xe
 have h2:x≠l:=by
  obtain ⟨st,d,kvs,rs,ls,en,b,a,fr,es,bs,as,R⟩:=h;exact R.R.xl
 exact h.Wm (l2:=x) (l':=x) (.inl ⟨rfl,rfl⟩) (Ne.symm h1) (Ne.symm h2) kp hx he hl hP
theorem mY.addS {c:Addr} (h:mY S C pool H x dx e l n k m N) (hc:H c=none):mY (c::S) C pool H x dx e l n k m N:=by
 obtain ⟨st,d,kvs,rs,ls,en,b,a,fr,es,bs,as,R,eS,lS,tO,nb,na,ns⟩:=h;have ol:∀ q o,H q=some o->q∉S->q∉c::S:=fun q o hq hn h3=>by
  rcases List.mem_cons.mp h3 with z | z
  ·rw [z,hc] at hq;cases hq
  ·exact hn z
 exact ⟨st,d,kvs,rs,ls,en,b,a,fr,es,bs,as,R,jw _ eS,jw _ lS,ol _ _ R.m.en.1 tO,ol _ _ R.m.b nb,ol _ _ R.m.a na,fun s hs=>ol _ _ (hs.elim (fun h=>(R.m.bs s h).2.1) fun h=>(R.m.as s h).2.1) (ns s hs)⟩
end
structure Rec where
 x:Addr
 dx:Addr
 e:Addr
 l:Addr
 m:Addr
def Dd (r q:Rec):Prop:=r.x≠q.x/\r.e≠q.e/\r.e≠q.l/\r.l≠q.e/\r.l≠q.l
structure Mu (C:Addr) (pool:List (List V)) (H:Hp) (n k:Int) (N:Nat) (S:List Addr) (RL ML fa rl yl:Addr) (ws:List Str) (fs:List Int) (ps:List Addr) (cs:List Rec):Prop where
 a:H RL=some (.lst (cs.map fun r=>V.ref r.x))
 m:H ML=some (.lst 0x26)
 c:∀ r∈cs,mY S C pool H r.x r.dx r.e r.l n k r.m N
 d:∀ (i j:Nat) r q,i≠j->cs[i]?=some r->cs[j]?=some q->Dd r q
 s:Ls S H
 iR:RL∈S
 iM:ML∈S
 nR:∀ r∈cs,RL≠r.e/\RL≠r.l
 nM:∀ r∈cs,ML≠r.e/\ML≠r.l
 RM:RL≠ML
 f:H fa=some (.lst (fs.map V.int))
 r:H rl=some (.lst (ps.map V.ref))
 y:H yl=some (.lst (ws.map V.str))
 p:bD H ps pool
 nf:fa∉S
 nr:rl∉S
 ny:yl∉S
section
variable {n k:Int}{RL ML rl yl:Addr}{ws:List Str}{fs:List Int}{ps:List Addr}{cs:List Rec}
theorem Mu.same (h:Mu C pool H n k N S RL ML fa rl yl ws fs ps cs) (s:Same H H'):Mu C pool H' n k N S RL ML fa rl yl ws fs ps cs :=
 ⟨s _ _ h.a,s _ _ h.m,fun r hr=>(h.c r hr).same s,h.d,h.s.same s,h.iR,h.iM,h.nR,h.nM,h.RM,s _ _ h.f,s _ _ h.r,s _ _ h.y,bD.V4 h.p s,h.nf,h.nr,h.ny⟩
theorem Mu.o {r:Rec} (h:Mu C pool H n k N S RL ML fa rl yl ws fs ps cs) (hr:r∈cs):∃ gs rs ls,H r.x=some (.ins C r.dx gs)/\H r.e=some (.lst rs)/\H r.l=some (.lst ls)/\r.e∈S/\r.l∈S:=by
 obtain ⟨st,d,kvs,rs,ls,en,b,a,fr,es,bs,as,R⟩:=h.c r hr;exact ⟨_,_,_,R.R.r.o,R.R.r.e,R.R.r.l,R.eS,R.lS⟩
theorem Mu.step {r:Rec}{S':List Addr} (h:Mu C pool H n k N S RL ML fa rl yl ws fs ps cs) (hi:cs[i]?=some r) (kp:eG r.x r.e r.l H H') (hs:V9 H r.l S l' S') (RX:mY S' C pool H' r.x r.dx r.e l' n k m' (N+1)) (hL:Ls S' H') :
  Mu C pool (upd H' ML (.lst ((0x26).set i (.ref m')))) n k (N+1) S' RL ML fa rl yl ws fs ps (cs.set i ⟨r.x,r.dx,r.e,l',m'⟩):=by
 have Ea:=jL hi;obtain ⟨gs,rs,ls,ox,oe,ol,eS,lS⟩:=h.o Ea;have old:∀ c o,H c=some o->c≠l'\/l'=r.l:=fun c o hc=>by
  rcases hs with ⟨e1,_⟩ | ⟨e1,_⟩
  ·exact .inr e1
  ·exact .inl fun z=>by rw [z,e1] at hc;cases hc
 have inS:∀ c,c∈S->c≠r.l->c∈S':=fun c hc hn=>by
  rcases hs with ⟨_,rfl⟩ | ⟨_,rfl⟩
  ·exact hc
  ·exact jw _ (List.mem_filter.mpr ⟨hc,decide_eq_true hn⟩)
 have nS:∀ c o,H c=some o->c∉S->c∉S':=fun c o hc hn=>by
  rcases hs with ⟨_,rfl⟩ | ⟨e1,rfl⟩
  ·exact hn
  ·intro h3;rcases List.mem_cons.mp h3 with z | z
   ·rw [z,e1] at hc;cases hc
   ·exact hn (List.mem_filter.mp z).1
 have kl:∀ c v,c≠r.e->c≠r.l->H c=some (.lst v)->H' c=some (.lst v):=fun c v h1 h2 hc=>kp c _ (fun z=>by rw [z,ox] at hc;cases hc) h1 h2 hc;have knS:∀ c v,c∉S->H c=some (.lst v)->H' c=some (.lst v):=fun c v hn hc=>kl c v (fun z=>hn (z ▸ eS)) (fun z=>hn (z ▸ lS)) hc;have hM':H' ML=some (.lst 0x26):=kl _ _ (h.nM r Ea).1 (h.nM r Ea).2 h.m;have hMS':ML∈S':=inS _ h.iM (h.nM r Ea).2;have nlM:ML≠l':=by
  rcases old _ _ h.m with z | z
  ·exact z
  ·rw [z];exact (h.nM r Ea).2
 have nlR:RL≠l':=by
  rcases old _ _ h.a with z | z
  ·exact z
  ·rw [z];exact (h.nR r Ea).2
 have upM:∀ {x dx e l:Addr}{m:Addr}{N:Nat},mY S' C pool H' x dx e l n k m N->ML≠e->ML≠l->mY S' C pool (upd H' ML (.lst ((0x26).set i (.ref m')))) x dx e l n k m N:=fun {x dx e l m N} hX h1 h2=>by
  refine hX.keep (Pc:=fun c=>c=ML) (fun c o hc ho=>by rw [aA hc];exact ho) (fun z=>?_) (Ne.symm h1) (Ne.symm h2) (fun c hc=>.inl ⟨hc ▸ hMS',_,hc ▸ hM'⟩);obtain ⟨st,d,kvs,rs,ls,en,b,a,fr,es,bs,as,R⟩:=hX;have:=R.R.r.o;rw [z,hM'] at this;cases this
 have oth:∀ (j:Nat) q,j≠i->cs[j]?=some q->mY S' C pool H' q.x q.dx q.e q.l n k q.m N:=fun j q hj hq=>by
  obtain ⟨d1,d2,d3,d4,d5⟩:=h.d j i q r hj hq hi;have hqi:=jL hq;obtain ⟨gs',rs',ls',ox',oe',ol',_,_⟩:=h.o hqi;refine (h.c q hqi).Wm (Pc:=fun c=>c=r.x\/c=r.e\/c=r.l) hs d3 d5 (fun c o hc ho=>kp c o (fun z=>hc (.inl z)) (fun z=>hc (.inr (.inl z))) (fun z=>hc (.inr (.inr z))) ho) ?_ ?_ ?_ ?_
  ·rintro (z | z | z)
   ·exact d1 z
   ·rw [z,oe] at ox';cases ox'
   ·rw [z,ol] at ox';cases ox'
  ·rintro (z | z | z)
   ·rw [z,ox] at oe';cases oe'
   ·exact d2 z
   ·exact d3 z
  ·rintro (z | z | z)
   ·rw [z,ox] at ol';cases ol'
   ·exact d4 z
   ·exact d5 z
  ·rintro c (rfl | rfl | rfl)
   ·exact .inr ⟨_,_,_,ox⟩
   ·exact .inl ⟨eS,_,oe⟩
   ·exact .inl ⟨lS,_,ol⟩
 have hlen:i<cs.length:=(List.getElem?_eq_some_iff.mp hi).1;have get:∀ (j:Nat) q,(cs.set i ⟨r.x,r.dx,r.e,l',m'⟩)[j]?=some q->(j=i/\q=⟨r.x,r.dx,r.e,l',m'⟩)\/(j≠i/\cs[j]?=some q):=fun j q hq=>by
  rw [List.getElem?_set] at hq
  by_cases hj:i=j
  ·rw [if_pos hj] at hq;subst hj;rw [if_pos hlen] at hq;exact .inl ⟨rfl,(Option.some.inj hq).symm⟩
  ·rw [if_neg hj] at hq;exact .inr ⟨Ne.symm hj,hq⟩
 have nlo:∀ (j:Nat) q,j≠i->cs[j]?=some q->q.e≠l'/\q.l≠l':=fun j q hj hq=>by
  obtain ⟨d1,d2,d3,d4,d5⟩:=h.d j i q r hj hq hi;obtain ⟨_,_,_,_,oe',ol',_,_⟩:=h.o (jL hq);rcases old _ _ oe' with z | z
  ·refine ⟨z,?_⟩;rcases old _ _ ol' with y | y
   ·exact y
   ·rw [y];exact d5
  ·rw [z];exact ⟨d3,d5⟩
 have uS:∀ c v,c≠ML->H' c=some (.lst v)->(upd H' ML (.lst ((0x26).set i (.ref m')))) c=some (.lst v):=fun c v hc ho=>by rw [aA hc];exact ho
 have nfM:∀ c,c∉S->c≠ML:=fun c hc z=>hc (z ▸ h.iM);refine ⟨?_,?_,?_,?_,?_,inS _ h.iR (h.nR r Ea).2,hMS',?_,?_,h.RM,uS _ _ (nfM _ h.nf) (knS _ _ h.nf h.f),uS _ _ (nfM _ h.nr) (knS _ _ h.nr h.r),uS _ _ (nfM _ h.ny) (knS _ _ h.ny h.y),?_,nS _ _ h.f h.nf,nS _ _ h.r h.nr,nS _ _ h.y h.ny⟩
 ·rw [aA h.RM,kl _ _ (h.nR r Ea).1 (h.nR r Ea).2 h.a,List.map_set]
  congr 2
  apply List.ext_getElem?
  intro j;rw [List.getElem?_set]
  by_cases hj:i=j
  ·subst hj;rw [if_pos rfl,if_pos (by rw [bL];exact hlen),iK,hi];rfl
  ·rw [if_neg hj]
 ·rw [ak,List.map_set]
 ·intro q hq;obtain ⟨j,hj⟩:=List.mem_iff_getElem?.mp hq;rcases get j q hj with ⟨rfl,rfl⟩ | ⟨hji,hq'⟩
  ·exact upM RX (h.nM r Ea).1 nlM
  ·have hqi:=jL hq';exact (upM (oth j q hji hq') (h.nM q hqi).1 (h.nM q hqi).2).mono
 ·intro a b q1 q2 hab h1 h2;rcases get a q1 h1 with ⟨rfl,rfl⟩ | ⟨ha,h1'⟩
  ·rcases get b q2 h2 with ⟨rfl,rfl⟩ | ⟨hb,h2'⟩
   ·exact absurd rfl hab
   ·obtain ⟨d1,d2,d3,d4,d5⟩:=h.d _ b r q2 (Ne.symm hb) hi h2';obtain ⟨y1,y2⟩:=nlo b q2 hb h2';exact ⟨d1,d2,d3,Ne.symm y1,Ne.symm y2⟩
  ·rcases get b q2 h2 with ⟨rfl,rfl⟩ | ⟨hb,h2'⟩
   ·obtain ⟨d1,d2,d3,d4,d5⟩:=h.d a _ q1 r ha h1' hi;obtain ⟨y1,y2⟩:=nlo a q1 ha h1';exact ⟨d1,d2,y1,d4,y2⟩
   ·exact h.d a b q1 q2 hab h1' h2'
 ·intro c hc;obtain ⟨v,hv⟩:=hL c hc
  by_cases z:c=ML
  ·rw [z,ak];exact ⟨_,rfl⟩
  ·exact ⟨v,uS _ _ z hv⟩
 ·intro q hq;obtain ⟨j,hj⟩:=List.mem_iff_getElem?.mp hq;rcases get j q hj with ⟨rfl,rfl⟩ | ⟨hji,hq'⟩
  ·exact ⟨(h.nR r Ea).1,nlR⟩
  ·exact h.nR q (jL hq')
 ·intro q hq;obtain ⟨j,hj⟩:=List.mem_iff_getElem?.mp hq;rcases get j q hj with ⟨rfl,rfl⟩ | ⟨hji,hq'⟩
  ·exact ⟨(h.nM r Ea).1,nlM⟩
  ·exact h.nM q (jL hq')
 ·refine L2.Paired.fQ h.p fun c u hc=>?_;have h1:H' c=some (.tup u):=kp c _ (fun z=>by rw [z,ox] at hc;cases hc) (fun z=>by rw [z,oe] at hc;cases hc) (fun z=>by rw [z,ol] at hc;cases hc) hc;rw [aA (fun z=>by rw [z,hM'] at h1;cases h1)];exact h1
end
section
variable {n k:Int}{RL ML rl yl:Addr}{ws:List Str}{fs:List Int}{ps:List Addr}{cs:List Rec}
theorem mY.updL {x e m q:Addr}{u v:List V} (h:mY S C pool H x dx e l n k m N) (hq:q∈S) (ho:H q=some (.lst u)) (h1:q≠e) (h2:q≠l):mY S C pool (upd H q (.lst v)) x dx e l n k m N:=by
 refine h.keep (Pc:=fun c=>c=q) (fun c o hc ho=>by rw [aA hc];exact ho) (fun z=>?_) (Ne.symm h1) (Ne.symm h2) (fun c hc=>.inl ⟨hc ▸ hq,_,hc ▸ ho⟩);obtain ⟨st,d,kvs,rs,ls,en,b,a,fr,es,bs,as,R⟩:=h;have:=R.R.r.o;rw [z,ho] at this;cases this
theorem Mu.twin {r:Rec}{x' RN e':Addr}{fr:Nat}{es:List Ent}{bs as:List jr} (h:Mu C pool H n k N S RL ML fa rl yl ws fs ps cs) (hr:r∈cs) (R:RC S C pool H r.x r.dx r.e r.l n k r.m N st d kvs rs ls en b a fr es bs as) (s1:Same H H1)
  (RA:bV C H1 x' RN st d e' l' n k (fr:Int) kvs rs ls) (hx0:H x'=none) (V8:H e'=none) (hl0:H l'=none) (n1:x'≠e') (n2:x'≠l') (n3:e'≠l') :
  Mu C pool (upd (upd H1 RL (.lst ((cs.map fun r=>V.ref r.x)++[.ref x']))) ML (.lst (0x26++[.ref r.m]))) n k N (e'::l'::S) RL ML fa rl yl ws fs ps (cs++[⟨x',RN,e',l',r.m⟩]):=by
 have ne1:∀ c o,H c=some o->c≠e':=fun c o hc z=>by rw [z,V8] at hc;cases hc
 have ne2:∀ c o,H c=some o->c≠l':=fun c o hc z=>by rw [z,hl0] at hc;cases hc
 have ne3:∀ c o,H c=some o->c≠x':=fun c o hc z=>by rw [z,hx0] at hc;cases hc
 have out:∀ c o,H c=some o->c∉S->c∉e'::l'::S:=fun c o hc hn h3=>by
  rcases List.mem_cons.mp h3 with z | z
  ·exact ne1 _ _ hc z
  ·rcases List.mem_cons.mp z with z | z
   ·exact ne2 _ _ hc z
   ·exact hn z
 have inn:∀ c,c∈S->c∈e'::l'::S:=fun c hc=>jw _ (jw _ hc);have old:∀ q∈cs,mY (e'::l'::S) C pool H1 q.x q.dx q.e q.l n k q.m N:=fun q hq=>(((h.c q hq).addS hl0).addS V8).same s1;have nw:mY (e'::l'::S) C pool H1 x' RN e' l' n k r.m N:=by
  refine ⟨st,d,kvs,rs,ls,en,b,a,fr,es,bs,as,⟨RA,R.R.m.same s1,R.R.s,L2.Paired.fQ R.R.kb fun v q z=>z.at (fun c u=>s1 c _) (fun c u=>s1 c _) 0x6,L2.Paired.fQ R.R.ka fun v q z=>z.at (fun c u=>s1 c _) (fun c u=>s1 c _) 0x6,R.R.len,n1,n2,n3,⟨ne1 _ _ R.R.m.en.1,ne2 _ _ R.R.m.en.1⟩,⟨ne1 _ _ R.R.m.b,ne2 _ _ R.R.m.b⟩,⟨ne1 _ _ R.R.m.a,ne2 _ _ R.R.m.a⟩,fun s hs=>?_⟩,List.mem_cons_self ..,jw _ (List.mem_cons_self ..),out _ _ R.R.m.en.1 R.tO,out _ _ R.R.m.b R.nb,out _ _ R.R.m.a R.na,fun s hs=>?_⟩
  ·have:=hs.elim (fun h=>(R.R.m.bs s h).2.1) fun h=>(R.R.m.as s h).2.1;exact ⟨ne1 _ _ this,ne2 _ _ this⟩
  ·exact out _ _ (hs.elim (fun h=>(R.R.m.bs s h).2.1) fun h=>(R.R.m.as s h).2.1) (R.ns s hs)
 have R1:=s1 _ _ h.a;have M1:=s1 _ _ h.m;have M2:(upd H1 RL (.lst ((cs.map fun r=>V.ref r.x)++[.ref x']))) ML=some (.lst 0x26):=by rw [aA (Ne.symm h.RM)];exact M1
 have up:∀ {x dx e l m:Addr},mY (e'::l'::S) C pool H1 x dx e l n k m N->RL≠e->RL≠l->ML≠e->ML≠l->mY (e'::l'::S) C pool (upd (upd H1 RL (.lst ((cs.map fun r=>V.ref r.x)++[.ref x']))) ML (.lst (0x26++[.ref r.m]))) x dx e l n k m N:=fun hX a1 a2 a3 a4=>(hX.updL (inn _ h.iR) R1 a1 a2).updL (inn _ h.iM) M2 a3 a4;have nRn:RL≠e'/\RL≠l':=⟨ne1 _ _ h.a,ne2 _ _ h.a⟩;have nMn:ML≠e'/\ML≠l':=⟨ne1 _ _ h.m,ne2 _ _ h.m⟩;have side:∀ c v,c∉S->H c=some (.lst v)->(upd (upd H1 RL (.lst ((cs.map fun r=>V.ref r.x)++[.ref x']))) ML (.lst (0x26++[.ref r.m]))) c=some (.lst v):=fun c v hc ho=>by
  have m1:c≠ML:=fun z=>hc (by rw [z];exact h.iM);have m2:c≠RL:=fun z=>hc (by rw [z];exact h.iR);rw [aA m1,aA m2];exact s1 _ _ ho
 have mem:∀ q,q∈cs++[⟨x',RN,e',l',r.m⟩]->q∈cs\/q=⟨x',RN,e',l',r.m⟩:=fun q hq=>by
  rcases List.mem_append.mp hq with z | z
  ·exact .inl z
  ·exact .inr (List.mem_singleton.mp z)
 refine ⟨?_,?_,?_,?_,?_,inn _ h.iR,inn _ h.iM,?_,?_,h.RM,side _ _ h.nf h.f,side _ _ h.nr h.r,side _ _ h.ny h.y,?_,out _ _ h.f h.nf,out _ _ h.r h.nr,out _ _ h.y h.ny⟩
 ·rw [aA h.RM,ak,jO];rfl
 ·rw [ak,jO];rfl
 ·intro q hq;rcases mem q hq with z | rfl
  ·exact up (old q z) (h.nR q z).1 (h.nR q z).2 (h.nM q z).1 (h.nM q z).2
  ·exact up nw nRn.1 nRn.2 nMn.1 nMn.2
 ·have dn:∀ q∈cs,Dd q ⟨x',RN,e',l',r.m⟩/\Dd ⟨x',RN,e',l',r.m⟩ q:=fun q hq=>by
   obtain ⟨_,_,_,ox,oe,ol,_,_⟩:=h.o hq;exact ⟨⟨ne3 _ _ ox,ne1 _ _ oe,ne2 _ _ oe,ne1 _ _ ol,ne2 _ _ ol⟩,⟨Ne.symm (ne3 _ _ ox),Ne.symm (ne1 _ _ oe),Ne.symm (ne1 _ _ ol),Ne.symm (ne2 _ _ oe),Ne.symm (ne2 _ _ ol)⟩⟩
  intro i j q1 q2 hij h1 h2;rw [List.getElem?_append] at h1 h2
  by_cases hi:i<cs.length
  ·rw [if_pos hi] at h1
   by_cases hj:j<cs.length
   ·rw [if_pos hj] at h2;exact h.d i j q1 q2 hij h1 h2
   ·rw [if_neg hj] at h2;have:=jL h2;rw [List.mem_singleton.mp this];exact (dn q1 (jL h1)).1
  ·rw [if_neg hi] at h1;have e1:=List.mem_singleton.mp (jL h1);have i1:i - cs.length=0:=by have:=(List.getElem?_eq_some_iff.mp h1).1;simp at this;lia
   by_cases hj:j<cs.length
   ·rw [if_pos hj] at h2;rw [e1];exact (dn q2 (jL h2)).2
   ·rw [if_neg hj] at h2;have j1:j - cs.length=0:=by have:=(List.getElem?_eq_some_iff.mp h2).1;simp at this;lia
    lia
 ·intro c hc
  by_cases z1:c=ML
  ·rw [z1,ak];exact ⟨_,rfl⟩
  ·by_cases z2:c=RL
   ·rw [z2,aA h.RM,ak];exact ⟨_,rfl⟩
   ·rw [aA z1,aA z2];rcases List.mem_cons.mp hc with rfl | hc
    ·exact ⟨_,RA.e⟩
    ·rcases List.mem_cons.mp hc with rfl | hc
     ·exact ⟨_,RA.l⟩
     ·exact (h.s.same s1) c hc
 ·intro q hq;rcases mem q hq with z | rfl
  ·exact h.nR q z
  ·exact nRn
 ·intro q hq;rcases mem q hq with z | rfl
  ·exact h.nM q z
  ·exact nMn
 ·refine L2.Paired.fQ h.p fun c u hc=>?_;have hc1:=s1 _ _ hc;rw [aA (fun z=>by rw [z,M1] at hc1;cases hc1),aA (fun z=>by rw [z,R1] at hc1;cases hc1)];exact hc1
theorem Mu.up (h:Mu C pool H n k N S RL ML fa rl yl ws fs ps cs):∀ j,Mu C pool H n k (N+j) S RL ML fa rl yl ws fs ps cs
 | 0=>h
 | j+1=>by
  have h':=h.up j;exact ⟨h'.a,h'.m,fun r hr=>(h'.c r hr).mono,h'.d,h'.s,h'.iR,h'.iM,h'.nR,h'.nM,h'.RM,h'.f,h'.r,h'.y,h'.p,h'.nf,h'.nr,h'.ny⟩
end
inductive Il (K:PySem.W.Frag) (vs:List V) (H:Hp) (Q:VK):Prop
 | mk (a:Addr) (ns:List Int) (_:vs=[.ref a]) (_:bf K H a (ns.map V.int)) (_:ns.length<=63) (_:∀ H',Q (.bl true) H'):Il K vs H Q
def Im (K:PySem.W.Frag):Sp:=fun vs H Q _=>Il K vs H Q
theorem cut2 (xs:List V)  (h:j<=i) (hi:i<=xs.length):dj xs (some (j:Int)) (some (i:Int))=(xs.drop j).take (i - j):=by
 unfold dj;rw [HT.fG,HT.fG,Nat.min_eq_left (Nat.le_trans h hi),Nat.min_eq_left hi]
def Kd:List Str:=["enter", "all", "strike", "correct", "back", "again"]
theorem opq (p:Nat->L2.St->Hp->Prop):∃ q:Nat->L2.St->Hp->Prop,∀ i s h,q i s h↔p i s h:=⟨p,fun _ _ _=>Iff.rfl⟩
section
variable {f:Addr}
abbrev nLw:List Str:=["_law_script", "_law_feed_here", "_law_names_here", "_law_k", "_law_rows", "_law_rolls", "_law_models", "_law_ways", "_law_at", "_law_turn_here", "_law_roll", "_law_model"]
theorem iY:aY nLw ["_law_script"] (aH wY):=0x0
def scL1:Scope:={ kind:=.function,names:=[(".0",.local),("_law_k",.local),("_law_any_row",.globalImplicit),("_law_feed_here",.free),("_law_names_here",.free)],isGenerator:=false,isCoroutine:=false }
theorem csL1:dw nLw (aH wY) scL1 ["_law_k"] ["_law_feed_here", "_law_names_here"] [1,2]:=0x2
theorem ndL1:((["_law_k"]:List Str)++(["_law_feed_here", "_law_names_here"]:List Str)).Nodup:=by decide +kernel
def scL2:Scope:={ kind:=.function,names:=[(".0",.local),("_law_roll",.local),("_law_same",.globalImplicit),("_law_feed_here",.free)],isGenerator:=false,isCoroutine:=false }
theorem csL2:dw nLw (aH wY) scL2 ["_law_roll"] ["_law_feed_here"] [1]:=0x2
theorem ndL2:((["_law_roll"]:List Str)++(["_law_feed_here"]:List Str)).Nodup:=by decide +kernel
theorem YT (F:gQ K "law" "law" wY f fd) (T0:fO K C) (mr:mg "range"=none) (ml:mg "len"=none) (mz:mg "zip"=none) (ma:mg "all"=none) {g6 g7 g8 g9 g10 g11 g12 g13:Addr}{d6 d7 d8 d9 d10 d11 d12 d13:FuncData}
  (G1:aX P w K mg base cU 1 g1 d1 ["_law_script", "_law_many"] (O6 K)) (M1:Ms K mg "_law_feed" g1 d1 ["_law_script", "_law_many"])
  (G2:aX P w K mg base cU 1 g2 d2 ["_law_d", "_law_many"] (GQ K)) (M2:Ms K mg "_law_names" g2 d2 ["_law_d", "_law_many"])
  (G3:aX P w K mg base cU 2 g3 d3 ["_law_d", "_law_names_here"] (VB K)) (M3:Ms K mg "_law_any_row" g3 d3 ["_law_d", "_law_names_here"])
  (G4:aX P w K mg base cU 5 g4 d4 ["self", "acres", "bears"] (xQ C)) (MK4:Mk K C g4) (mR:mg "Roll"=some (.ref C)) (b4:Binds K d4 ["self", "acres", "bears"] [])
  (G5:aX P w K mg base cU 1 g5 d5 [] Ia) (M5:Ms K mg "_law_plain_model" g5 d5 [])
  (G6:aX P w K mg base cU 3 g6 d6 ["_law_model", "_law_rows", "_law_d", "_law_ways"] (Qt K)) (M6:Ms K mg "_law_turn" g6 d6 ["_law_model", "_law_rows", "_law_d", "_law_ways"])
  (G7:aX P w K mg base cU 9 g7 d7 ["_law_roll", "_law_model", "_law_turn_here"] (Ik C)) (M7:Ms K mg "_law_step" g7 d7 ["_law_roll", "_law_model", "_law_turn_here"])
  (G8:aX P w K mg base cU 5 g8 d8 ["_law_roll", "_law_model"] (YC C)) (M8:Ms K mg "_law_roll_is" g8 d8 ["_law_roll", "_law_model"])
  (G9:aX P w K mg base cU 7 g9 d9 ["self"] (Ra C)) (m9:Meth K C "twin" g9) (b9:Binds K d9 ["self"] [])
  (G10:aX P w K mg base cU 1 g10 d10 ["self"] (xR C)) (m10:Meth K C "rows" g10) (b10:Binds K d10 ["self"] [])
  (G11:aX P w K mg base cU 1 g11 d11 ["self"] (VH C)) (m11:Meth K C "acres" g11) (b11:Binds K d11 ["self"] [])
  (G12:aX P w K mg base cU 1 g12 d12 ["self"] (VJ C)) (m12:Meth K C "bears" g12) (b12:Binds K d12 ["self"] [])
  (G13:aX P w K mg base cU 4 g13 d13 ["_law_found", "_law_due"] (oU 4)) (RP:Ms K mg "_law_same" g13 d13 ["_law_found", "_law_due"]):aX P w K mg base cU 10 f fd ["_law_script"] (Im K):=by
 refine F.ok iY 0xA 0x3
 ·obtain ⟨a,ns,rfl,_⟩:=h;rfl
 obtain ⟨a0,ns,rfl,hS,h63,kk⟩:=h;have hr1:cI 1 _:=hr.mono 0x8;have hr2:cI 2 _:=hr.mono 0x8;have VD:cI 3 _:=hr.mono 0x8;have hr5:cI 5 _:=hr.mono 0x8;have hr6:cI 6 _:=hr.mono 0x8;have hr7:cI 7 _:=hr.mono 0x8;have hr4:cI 4 _:=hr.mono 0x8;refine tM.out ⟨_,aG (cg (i:=1) iY.nd rfl (Or.inr rfl) ⟨bB G1 hr1 rfl M1.m M1.k M1.b .nil bN (aj 0x10 (aj au ao))⟩)
  (aG (cg (i:=2) iY.nd rfl (Or.inr rfl) ⟨bB G2 hr1 rfl M2.m M2.k M2.b .nil bN (aj (cT nD (pv 1) (cR au) (cR au)) (aj au ao))⟩)
  (aG ⟨qe (i:=4) rfl csL1 (dh rfl mr (aj (aQ bZ au (aQ bO (aK aU (pv 1) au aR) au)) ao)) (fun s H fp C=>⟨aO (i:=0) ndL1 rfl 0x5,dN,bB G3 hr2 rfl M3.m M3.k M3.b .nil bN (aj (cT (za (K:=K)) (pv 1) (cR (aQ bZ au (aQ gH au 0x10))) fZ) (aj (pv 2) ao))⟩) iY.nd rfl 0x5⟩
  (aG (cg (i:=5) iY.nd rfl 0x5 ⟨cL (aj (FJ (CX:=cU) (E:=E0) MK4 G4 hr6 rfl mR b4 .nil bN (aj (aQ bZ au (aQ bO (aK aU (pv 1) au aR) au)) (aj (aQ bO (aK aU (pv 1) au aR) au) ao))) ao)⟩)
  (aG (cg (i:=6) iY.nd rfl 0x5 ⟨cL (aj (nq G5 hr1 rfl M5.m M5.k M5.b .nil bN) ao)⟩)
  (aG (cg (i:=7) iY.nd rfl 0x5 ⟨cL (aj aD (aj aD (aj aD (aj aD (aj aD (aj aD ao))))))⟩)
  (aG (rT PassesOwn.never rfl (dh rfl mr (aj (aQ bZ au (aQ bO (aK aU (pv 1) au aR) au)) ao)) (aO (i:=3) iY.nd rfl 0x5)
  (aG (cg (i:=8) iY.nd rfl 0x5 ⟨aQ bO (aK aU (pv 1) (aQ bZ au (aQ gH au (pv 3))) rP) (aP bQ rfl ml PySem.boot_len (aj (pv 5) ao))⟩)
  (aG (cg (i:=9) iY.nd rfl 0x5 ⟨bB G6 VD rfl M6.m M6.k M6.b .nil bN (aj (aK aU (pv 6) (pv 8) 0x9) (aj (pv 4) (aj (cT nD (pv 1) (cR (aQ bZ au (aQ gH au (pv 3)))) (cR (aQ bZ au (aQ gH au (pv 3))))) (aj (pv 7) ao))))⟩)
  (aG ⟨gG (bB G7 hr rfl M7.m M7.k M7.b .nil bN (aj (aK aU (pv 5) (pv 8) 0x9) (aj (aK aU (pv 6) (pv 8) 0x9) (aj (pv 9) ao)))) (vY (pv 6) (pv 8) set_list)⟩
  (aG (cM (vV (vU (aK aU (pv 6) (pv 8) 0x9))) (aV (bH ⟨dU⟩)) bI)
  (aG (cM (aN jk (pv 3) (cJ (aj (aQ bO (aK aU (pv 1) au aR) au) (aj au ao))) 0x16) (aG ⟨bW (gw PySem.F.plainAttrs_list PySem.F.slot_list_append PySem.F.type_list_append c7 (pv 5) (aj (gq (E:=E0) (aK aU (pv 5) (Ft vZ au) 0x9) T0.cl m9 G9 hr7 b9 .nil bN) ao))⟩
  (aV ⟨bW (gw PySem.F.plainAttrs_list PySem.F.slot_list_append PySem.F.type_list_append c7 (pv 6) (aj (aK aU (pv 6) (Ft vZ au) 0x9) ao))⟩)) bI)
  (aV (rT PassesOwn.never rfl (rB rfl mz (aj (pv 5) (aj (pv 6) ao))) (fu rfl (bw (aO (i:=10) iY.nd rfl 0x5) (bw (aO (i:=11) iY.nd rfl 0x5) cQ)))
  (aG ⟨bW (gw PySem.F.plainAttrs_list PySem.F.slot_list_append PySem.F.type_list_append c7 (gq (E:=E0) (pv 10) T0.cl m10 G10 hr1 b10 .nil bN) (aj (cJ (aj au (aj (aK aU (pv 4) au aR) ao))) ao))⟩
  (aV (cM (eU (dX (bB G8 hr5 rfl M8.m M8.k M8.b .nil bN (aj (pv 10) (aj (pv 11) ao))))) (aV (bH ⟨dU⟩)) bI)))))))))))
  (aG (rT PassesOwn.never rfl (dh rfl mr (aj au ao)) (aO (i:=3) iY.nd rfl 0x5)
  (aV (rT PassesOwn.never rfl (dh rfl mr (aj (aP bQ rfl ml PySem.boot_len (aj (pv 5) ao)) ao)) (aO (i:=8) iY.nd rfl 0x5)
  (aG ⟨gG (bB G7 hr rfl M7.m M7.k M7.b .nil bN (aj (aK aU (pv 5) (pv 8) 0x9) (aj (aK aU (pv 6) (pv 8) 0x9) (aj (cJ (aj aD ao)) ao)))) (vY (pv 6) (pv 8) set_list)⟩
  (aV (cM (PW.pt (ud (vV (vU (aK aU (pv 6) (pv 8) 0x9))) (oE (eU (dX (bB G8 hr5 rfl M8.m M8.k M8.b .nil bN (aj (aK aU (pv 5) (pv 8) 0x9) (aj (aK aU (pv 6) (pv 8) 0x9) ao)))))))) (aV (bH ⟨dU⟩)) bI))))))
  (aV (bH ⟨aP (jl (K:=K) rfl hr.hd) rfl ma qY (aj (eN rfl csL2 (fX (pv 5)) (fun s H fp C=>⟨aO (i:=0) ndL2 rfl 0x5,dN,bB G13 hr4 rfl RP.m RP.k RP.b .nil bN (aj (cJ (aj (gq (E:=E0) 0x10 T0.cl m11 G11 hr1 b11 .nil bN) (aj (gq (E:=E0) 0x10 T0.cl m12 G12 hr1 b12 .nil bN) ao))) (aj (cJ (aj (aQ bZ au (aQ bO (aK (iB (K:=K)) (pv 1) au aR) au)) (aj (aQ bO (aK (iB (K:=K)) (pv 1) au aR) au) ao))) ao))⟩)) ao)⟩))))))))),?_⟩
 refine jh fun N _ hN=>?_;refine ⟨_,rfl,a0,ns,360,rfl,hS,h63,by decide,by decide,fun fa H1 fs s1 hfa0 hfa hfl hfo=>?_⟩;refine hN _ _ ?_;have hlen:fs.length=360:=by lia
 obtain ⟨v0,e0,o0⟩:=iD hfo (i:=0) 0x8 0x1;obtain ⟨v1,e1,o1⟩:=iD hfo (i:=1) 0x8 0x1;obtain ⟨v2,e2,o2⟩:=iD hfo (i:=2) 0x8 0x1;obtain ⟨yG,e12,o12⟩:=iD hfo (i:=12) 0x8 0x1;obtain ⟨yH,e15,o15⟩:=iD hfo (i:=15) 0x8 0x1;refine jh fun N _ hN=>?_;refine ⟨_,rfl,_,rfl,_,rfl,fa,_,rfl,bf.of hfa,fun D hD=>?_⟩;have c48:dj (fs.map V.int) (some 4) (some 8)=((fs.drop 4).take 4).map V.int:=by
  rw [show (4:Int)=((4:Nat):Int) from rfl,show (8:Int)=((8:Nat):Int) from rfl,cut2 _ 0x8 (by rw [bL];lia),List.map_take,List.map_drop]
 rw [c48];have sD:=aq hD (.lst (((fs.drop 4).take 4).map V.int));refine ⟨D,(fs.drop 4).take 4,4,rfl,bf.of ak,by rw [List.length_take,List.length_drop];lia,fun v hv=>hfo v (List.mem_of_mem_drop (List.mem_of_mem_take hv)),by decide,by decide,fun nm H2 zs s2' hn0 hnm K7 hzn hzd=>?_⟩;refine hN _ _ ?_;have s2:Same H1 H2:=sD.trans s2';have YW:=s2 _ _ hfa;have z4:zs.length=4:=K7;clear s2' sD hD c48 hn0;have b0:=Int.emod_nonneg v0 (show (16:Int)≠0 by decide)
 have b1:=Int.emod_lt_of_pos v0 (show (0:Int)<16 by decide)
 refine jh fun N _ hN=>?_;refine ⟨_,rfl,fa,_,_,_,rfl,rfl,bf.of YW,e0,_,_,rfl,rfl,(by show (0:Int)<16;decide),_,_,rfl,rfl,1+v0 % 16,rfl,by lia,by lia,fun rl hrl=>?_⟩
 refine jD (lo:=0) (n:=(1+v0 % 16).toNat) (fun i ys H5=>∃ (qs:List Addr) (us:List (List V)),ys=qs.map V.ref/\qs.length=i/\bD H5 qs us/\(∀ r∈us,Bd r)/\Same H2 H5/\H5 rl=some (.lst ys)) ⟨[],[],rfl,rfl,.nil,(fun r hr=>nomatch hr),aq hrl _,ak⟩ (fun i ys H5 h=>by obtain ⟨qs,us,_,_,_,_,_,h⟩:=h;exact h) ?_ ?_
 ·rintro i ys H5 hi ⟨qs,us,rfl,hql,hqs,hus,s5,Bh⟩;refine 0x21;refine dG ?_;refine ⟨_,rfl,_,rfl,_,_,rfl,rfl,.inl ⟨by decide,by decide⟩,_,_,rfl,rfl,_,rfl,fa,_,rfl,bf.of (s5 _ _ YW),fun D6 hD6=>?_⟩;have hi20:i<=16:=by lia
  have e6:dj (fs.map V.int) (some (20+5 * (0+(i:Int)))) none=(fs.drop (20+5 * i)).map V.int:=by
   rw [show (20+5 * (0+(i:Int)):Int)=((20+5 * i:Nat):Int) by lia,Yq _ _ (by rw [bL];lia),List.map_drop]
  rw [e6];have s6:=aq hD6 (.lst ((fs.drop (20+5 * i)).map V.int));have l6:(upd H5 D6 (.lst ((fs.drop (20+5 * i)).map V.int))) D6=some (.lst ((fs.drop (20+5 * i)).map V.int)):=ak;generalize upd H5 D6 (.lst ((fs.drop (20+5 * i)).map V.int))=H6 at s6 l6 ⊢;refine ⟨_,rfl,D6,nm,fs.drop (20+5 * i),zs,rfl,bf.of l6,by rw [List.length_drop];lia,fun v hv=>hfo v (List.mem_of_mem_drop hv),bf.of (s6 _ _ (s5 _ _ hnm)),by lia,by lia,hzn,hzd,fun p k rest H7 s7 hp7 h6 hR hw=>⟨s7 _ _ (s6 _ _ Bh),?_,?_⟩⟩
  ·rw [bL];exact bY 0x1
  ·have Us:Same H5 H7:=s6.trans s7;refine ⟨qs++[p],us++[.str k::rest],by simp,by simp [hql],?_,?_,aW (s5.trans Us) hrl,ak⟩
   ·have nt:∀ c r,H7 c=some (.tup r)->c≠rl:=fun c r h e=>by rw [e,Us _ _ Bh] at h;cases h
    refine ig (L2.Paired.fQ hqs fun c r h=>?_) ?_
    ·rw [aA (nt c r (Us _ _ h))];exact Us _ _ h
    ·rw [aA (nt p _ hp7)];exact hp7
   ·intro r' hr';rcases List.mem_append.mp hr' with h | h
    ·exact hus r' h
    ·rw [List.mem_singleton.mp h];exact ⟨k,rest,rfl,h6,hR,hw⟩
 rintro ys H3 ⟨ps,pool,rfl,hpl,hps,a09,s3,hrl3⟩;refine hN _ _ ?_;have lpool:pool.length=ps.length:=(PySem.Paired.length hps).symm;have Va:=s3 _ _ YW;have c0:=Int.emod_nonneg yG (show (9999:Int)≠0 by decide)
 have c1:=Int.emod_lt_of_pos yG (show (0:Int)<9999 by decide)
 have c2:=Int.emod_nonneg yH (show (100:Int)≠0 by decide)
 have c3:=Int.emod_lt_of_pos yH (show (0:Int)<100 by decide)
 obtain ⟨v3,e3,o3⟩:=iD hfo (i:=3) 0x8 0x1;refine jh fun N _ hN=>?_;refine ⟨_,rfl,fa,_,_,_,rfl,rfl,bf.of Va,e12,_,_,rfl,rfl,(by show (0:Int)<9999;decide),_,_,rfl,rfl,_,rfl,fa,_,_,_,rfl,rfl,bf.of Va,e15,_,_,rfl,rfl,(by show (0:Int)<100;decide),fun x dx hx0 YX hne=>?_⟩
 have hAB:(BJ (1+yG % 9999)&&okB (yH % 100))=true:=by
  unfold BJ okB;simp only [Bool.and_eq_true,decide_eq_true_eq];lia
 refine ⟨x,dx,_,_,rfl,ak,hAB,fun st d e l H4 kx RA hst0 hd0 V8 hl0 yc Qd JC nxd W5=>⟨rfl,?_⟩⟩;have s4:Same H3 H4:=fun c o hc=>kx c o (fun z=>by rw [z,hx0] at hc;cases hc) (by
  rw [aA (fun z=>by rw [z,hx0] at hc;cases hc),aA (fun z=>by rw [z,YX] at hc;cases hc)];exact hc)
 have old:∀ c o,H3 c=some o->c≠e/\c≠l:=fun c o hc=>by
  have hx:c≠x:=fun z=>by rw [z,hx0] at hc;cases hc
  have hd:c≠dx:=fun z=>by rw [z,YX] at hc;cases hc
  refine ⟨fun z=>?_,fun z=>?_⟩
  ·rw [<- z,aA hx,aA hd,hc] at V8;cases V8
  ·rw [<- z,aA hx,aA hd,hc] at hl0;cases hl0
 clear kx hst0 hd0 V8 hl0 hx0 YX hne;have fn:∀ {Hq:Hp}{c q:Addr}{o:HO},Hq q=none->Hq c=some o->c≠q:=fun h1 h2 z=>by rw [z,h1] at h2;cases h2
 refine ⟨small 0x4,fun RL hRL=>?_⟩;refine hN _ _ ?_;have nRe:=fn hRL RA.e;have nRl:=fn hRL RA.l;have sR:=aq hRL (.lst [V.ref x]);have lR:(upd H4 RL (.lst [V.ref x])) RL=some (.lst [V.ref x]):=ak;generalize upd H4 RL (.lst [V.ref x])=H5 at sR lR ⊢;have RA5:=RA.same sR;refine jh fun N _ hN=>?_;refine ⟨rfl,fun m en b a H6 s6 hen hb ha MD=>⟨small 0x4,fun ML YZ=>?_⟩⟩;refine hN _ _ ?_;have Wn:=RA5.same s6;have lR6:=s6 _ _ lR;have sM:=aq YZ (.lst [V.ref m]);have lM:(upd H6 ML (.lst [V.ref m])) ML=some (.lst [V.ref m]):=ak;generalize upd H6 ML (.lst [V.ref m])=H7 at sM lM ⊢;refine jh fun N _ hN=>?_;refine ⟨small 0x4,fun yl hyl=>?_⟩;refine hN _ _ ?_;have e8:upd H7 yl (.lst [V.str "enter",V.str "all",V.str "strike",V.str "correct",V.str "back",V.str "again"])=upd H7 yl (.lst (Kd.map V.str)):=rfl;rw [e8];have sy:=aq hyl (.lst (Kd.map V.str));have ly:(upd H7 yl (.lst (Kd.map V.str))) yl=some (.lst (Kd.map V.str)):=ak;generalize upd H7 yl (.lst (Kd.map V.str))=H8 at sy ly ⊢;have s37:Same H3 H7:=s4.trans (sR.trans (s6.trans sM));have s38:=s37.trans sy;have Z0:=sM.trans sy;have av:∀ {c:Addr}{o:HO},H6 c=some o->H5 c=none->c∉[e,l,RL,ML]:=fun {c o} h1 h2 h3=>by
  simp only [List.mem_cons,List.not_mem_nil,or_false] at h3;rcases h3 with z | z | z | z
  ·exact (fn h2 RA5.e).symm z
  ·exact (fn h2 RA5.l).symm z
  ·exact (fn h2 lR).symm z
  ·exact (fn YZ h1) z
 have av3:∀ {c:Addr}{o:HO},H3 c=some o->c∉[e,l,RL,ML]:=fun {c o} h1 h3=>by
  simp only [List.mem_cons,List.not_mem_nil,or_false] at h3;rcases h3 with z | z | z | z
  ·exact (old _ _ h1).1 z
  ·exact (old _ _ h1).2 z
  ·exact (fn hRL (s4 _ _ h1)) z
  ·exact (fn YZ (s6 _ _ (sR _ _ (s4 _ _ h1)))) z
 have nyS:yl∉[e,l,RL,ML]:=fun h3=>by
  simp only [List.mem_cons,List.not_mem_nil,or_false] at h3;rcases h3 with z | z | z | z
  ·exact (fn hyl (sM _ _ Wn.e)).symm z
  ·exact (fn hyl (sM _ _ Wn.l)).symm z
  ·exact (fn hyl (sM _ _ lR6)).symm z
  ·exact (fn hyl lM).symm z
 have n2:∀ {c:Addr},c∉[e,l,RL,ML]->c≠e/\c≠l:=fun hc=>⟨fun z=>hc (by simp [z]),fun z=>hc (by simp [z])⟩;have Mu0:Mu C pool H8 (1+yG % 9999) (yH % 100) 0 [e,l,RL,ML] RL ML fa rl yl Kd fs ps [⟨x,dx,e,l,m⟩]:=by
  refine ⟨Z0 _ _ lR6,sy _ _ lM,fun r hr=>?_,fun i j r q hij h1 h2=>?_,fun c hc=>?_,by simp,by simp,fun r hr=>?_,fun r hr=>?_,fn YZ lR6,s38 _ _ Va,s38 _ _ hrl3,ly,bD.V4 hps s38,av3 Va,av3 hrl3,nyS⟩
  ·rw [List.mem_singleton.mp hr];exact ⟨st,d,[],[],[],en,b,a,1,[],[],[],⟨Wn.same Z0,MD.same Z0,⟨.refl _,.nil,(fun x hx=>nomatch hx),(fun x hx=>nomatch hx),.nil,Nat.le_refl _⟩,.nil,.nil,Nat.le_refl _,yc,Qd,W5,n2 (av MD.en.1 hen),n2 (av MD.b hb),n2 (av MD.a ha),fun s hs=>by rcases hs with hs | hs <;> cases hs⟩,by simp,by simp,av MD.en.1 hen,av MD.b hb,av MD.a ha,fun s hs=>by rcases hs with hs | hs <;> cases hs⟩
  ·have i1:=(List.getElem?_eq_some_iff.mp h1).1;have j1:=(List.getElem?_eq_some_iff.mp h2).1;simp at i1 j1;lia
  ·simp only [List.mem_cons,List.not_mem_nil,or_false] at hc;rcases hc with rfl | rfl | rfl | rfl
   ·exact ⟨_,Z0 _ _ Wn.e⟩
   ·exact ⟨_,Z0 _ _ Wn.l⟩
   ·exact ⟨_,Z0 _ _ lR6⟩
   ·exact ⟨_,sy _ _ lM⟩
  ·rw [List.mem_singleton.mp hr];exact ⟨Ne.symm nRe,Ne.symm nRl⟩
  ·rw [List.mem_singleton.mp hr];exact ⟨Ne.symm (fn YZ Wn.e),Ne.symm (fn YZ Wn.l)⟩
 have hp16:pool.length<=16:=by lia
 have hp0:0<ps.length:=by lia
 clear s37 s38 Z0 av av3 nyS n2 sy ly sM lM YZ hyl s6 MD hen hb ha Wn RA5 lR6 sR lR hRL RA nRe nRl s4 old;have fin:∀ {H7:Hp}{r:Rec}{S:List Addr}{N:Nat}{Q7:VK},mY S C pool H7 r.x r.dx r.e r.l (1+yG % 9999) (yH % 100) r.m N->(∀ H8,Same H7 H8->Q7 (.bl true) H8)->YC C [.ref r.x,.ref r.m] H7 Q7 E0:=fun {H7 r S N Q7} RX k7=>by
  obtain ⟨st,d,kvs,rs,ls,en,b,a,fr,es,bs,as,R0⟩:=RX;have R:=R0.R;have hpm:=R.s.pm;rw [List.map_map] at hpm;have hup:=R.s.up;rw [List.pairwise_map] at hup;have hl:=R.s.len;rw [bL] at hl;exact ⟨r.x,r.dx,st,d,r.e,r.l,_,_,kvs,rs,ls,r.m,en,b,a,fr,es,bs,as,rfl,R.r,R.m,hpm,hup,by lia,fun u hu=>(R.s.ok _ (List.mem_map.mpr ⟨u,hu,rfl⟩)).1,k7⟩
 have w0:=Int.emod_nonneg v1 (show (15:Int)≠0 by decide)
 have w1:=Int.emod_lt_of_pos v1 (show (0:Int)<15 by decide)
 have u0':=Int.emod_nonneg v3 (show (8:Int)≠0 by decide)
 have u1':=Int.emod_lt_of_pos v3 (show (0:Int)<8 by decide)
 refine jh fun N _ hN=>?_;refine ⟨_,rfl,fa,_,_,_,rfl,rfl,bf.of Mu0.f,e1,_,_,rfl,rfl,(by show (0:Int)<15;decide),_,_,rfl,rfl,9+v1 % 15,rfl,by lia,by lia,?_⟩
 obtain ⟨Pv,hPv⟩:=opq (fun i σ7 H7=>∃ (S:List Addr) (cs:List Rec) (vk va vt vr vm:Option V),σ7=[some (.ref a0),some (.ref fa),some (.ref nm),vk,some (.ref rl),some (.ref RL),some (.ref ML),some (.ref yl),va,vt,vr,vm]/\Mu C pool H7 (1+yG % 9999) (yH % 100) i S RL ML fa rl yl Kd fs ps cs/\cs.length=1+(if v3 % 8<(i:Int) then 1 else 0)+(if 8<i then 1 else 0))
 refine gW (lo:=0) (n:=(9+v1 % 15).toNat) Pv ((hPv _ _ _).mpr ⟨_,_,none,none,none,none,none,rfl,Mu0,by rw [if_neg 0x1,if_neg 0x1];rfl⟩) ?_ ?_
 ·intro i σ7 H7 hi hP;obtain ⟨S,cs,vk,va,vt,vr,vm,rfl,MU,hcl⟩:=(hPv _ _ _).mp hP;have hi24:i<24:=by lia
  have hc3:cs.length<=3/\1<=cs.length:=by
   rw [hcl]
   constructor <;> (repeat' split) <;> lia
  obtain ⟨vat,eat,_⟩:=iD hfo (i:=117+8 * (0+(i:Int))) 0x1 0x1;have cpos:(0:Int)<((cs.map fun r=>V.ref r.x).length:Int):=by rw [bL];lia
  refine jh fun N _ hN=>?_;refine ⟨_,rfl,_,rfl,_,_,rfl,rfl,.inl ⟨by decide,by decide⟩,_,_,rfl,rfl,fa,_,_,_,rfl,rfl,bf.of MU.f,eat,_,rfl,RL,_,rfl,.inl (bf.of MU.a),_,_,rfl,rfl,cpos,?_⟩;obtain ⟨j,ej,hj⟩:∃ j:Nat,vat % ((cs.map fun r=>V.ref r.x).length:Int)=(j:Int)/\j<cs.length:=by
   have h1:=Int.emod_nonneg vat (Int.ne_of_gt cpos);have h2:=Int.emod_lt_of_pos vat cpos;rw [bL] at h1 h2 ⊢;exact ⟨(vat % (cs.length:Int)).toNat,by lia,by lia⟩
  show mZ 8 (V.int (vat % ((cs.map fun r=>V.ref r.x).length:Int))) _ _ _
  rw [ej];refine hN _ _ ?_;obtain ⟨r,hr⟩:∃ r,cs[j]?=some r:=⟨_,dB hj⟩;have hrm:=jL hr;have Hr:lK 0x26 (j:Int)=some (.ref r.m):=bh (by rw [iK,hr];rfl);have atR:lK (cs.map fun r=>V.ref r.x) (j:Int)=some (.ref r.x):=bh (by rw [iK,hr];rfl);refine jh fun N _ hN=>?_;refine ⟨_,rfl,_,rfl,ML,_,_,_,rfl,rfl,bf.of MU.m,Hr,_,rfl,_,rfl,_,rfl,_,_,rfl,rfl,.inl ⟨by decide,by decide⟩,_,_,rfl,rfl,_,rfl,_,rfl,_,_,rfl,rfl,.inl ⟨by decide,by decide⟩,_,_,rfl,rfl,_,rfl,fa,_,rfl,bf.of MU.f,fun D hD=>?_⟩;have ec:dj (fs.map V.int) (some (110+8 * (0+(i:Int)))) (some (118+8 * (0+(i:Int))))=((fs.drop (110+8 * i)).take 8).map V.int:=by
   rw [show (110+8 * (0+(i:Int)):Int)=((110+8 * i:Nat):Int) by lia,show (118+8 * (0+(i:Int)):Int)=((118+8 * i:Nat):Int) by lia,cut2 _ 0x1 (by rw [bL];lia),List.map_take,List.map_drop,show 118+8 * i - (110+8 * i)=8 by lia]
  rw [ec];have sD:=aq hD (.lst (((fs.drop (110+8 * i)).take 8).map V.int));have lD:(upd H7 D (.lst (((fs.drop (110+8 * i)).take 8).map V.int))) D=some (.lst (((fs.drop (110+8 * i)).take 8).map V.int)):=ak;generalize upd H7 D (.lst (((fs.drop (110+8 * i)).take 8).map V.int))=H8 at sD lD ⊢;have K4:=MU.same sD;obtain ⟨st,d,kvs,rs,ls,en,b,a,fr,es,bs,as,R8⟩:=K4.c r hrm;have hel:=R8.R.s.len;rw [bL] at hel;refine ⟨_,rfl,r.m,rl,D,yl,en,b,a,fr,es,bs,as,ps,pool,(fs.drop (110+8 * i)).take 8,Kd,rfl,R8.R.m,by lia,bf.of K4.r,K4.p,hp0,a09,bf.of lD,by rw [List.length_take,List.length_drop];lia,bf.of K4.y,by decide,by decide +kernel,fun t T H9 s9 ht hT hfr=>?_⟩;refine hN _ _ ?_;have vN:=K4.same s9;have hl0:∀ l0 qs us,T=.al l0 qs us->l0≠r.e/\l0≠r.l:=fun l0 qs us eT=>by
   have h0:=hfr l0 qs us eT;exact ⟨fun z=>(by rw [z,R8.R.r.e] at h0;cases h0),fun z=>(by rw [z,R8.R.r.l] at h0;cases h0)⟩
  clear R8 hel st d kvs rs ls en b a fr es bs as;refine jh fun N _ hN=>?_;refine ⟨_,rfl,_,rfl,RL,_,_,_,rfl,rfl,bf.of vN.a,atR,_,rfl,_,rfl,ML,_,_,_,rfl,rfl,bf.of vN.m,Hr,_,rfl,S,pool,r.x,r.dx,r.e,r.l,r.m,t,_,_,i,T,rfl,vN.c r hrm,vN.s,ht,hT,hl0,by lia,hp16,fun m' l' S' Vb kp hNS RX' hLs=>?_⟩;have hM10:Vb ML=some (.lst 0x26):=by
   obtain ⟨_,_,_,ox,_⟩:=vN.o hrm;exact kp ML _ (fun z=>by have:=vN.m;rw [z,ox] at this;cases this) (vN.nM r hrm).1 (vN.nM r hrm).2 vN.m
  have Rg:=vN.step hr kp hNS RX' hLs;have Vc:FW (0x26).length (j:Int)=some j:=by
   unfold FW;rw [bL,if_pos 0x1,if_pos 0x1]
   congr 1
  refine ⟨_,rfl,_,rfl,ML,_,_,j,rfl,rfl,hM10,Vc,?_⟩;refine hN _ _ ?_;generalize upd Vb ML (.lst ((0x26).set j (.ref m')))=Vd at Rg ⊢;have Rh:(cs.set j ⟨r.x,r.dx,r.e,l',m'⟩).length=cs.length:=List.length_set ..;have Ri:lK ((cs.set j ⟨r.x,r.dx,r.e,l',m'⟩).map fun r=>V.ref r.m) (j:Int)=some (.ref m'):=bh (by rw [iK,List.getElem?_set_self hj];rfl);generalize cs.set j ⟨r.x,r.dx,r.e,l',m'⟩=cs' at Rg Rh Ri;clear hLs RX' hNS kp hM10 Vc vN K4 MU;refine jh fun N _ hN=>?_;refine ⟨_,rfl,_,rfl,ML,_,_,_,rfl,rfl,bf.of Rg.m,Ri,_,rfl,?_⟩;refine aL ?_;refine hN _ _ ?_;refine grab (a:=vX _ _ _) (fun σ' H'=>∃ (S2:List Addr) (K5:List Rec),σ'=[some (.ref a0),some (.ref fa),some (.ref nm),some (.int (0+(i:Int))),some (.ref rl),some (.ref RL),some (.ref ML),some (.ref yl),some (.int (j:Int)),some (.ref t),vr,vm]/\Mu C pool H' (1+yG % 9999) (yH % 100) (i+1) S2 RL ML fa rl yl Kd fs ps K5/\K5.length=1+(if v3 % 8<((i+1:Nat):Int) then 1 else 0)+(if 8<i+1 then 1 else 0)) ?_ fun go=>?_
  ·rintro σ' H12 ⟨S2,K5,rfl,jt,hcl2⟩;refine ⟨_,rfl,_,rfl,RL,ML,rfl,⟨_,bf.of jt.a⟩,⟨_,bf.of jt.m⟩,?_⟩;have hl12:(K5.map fun r=>V.ref r.x).length=(K5.map fun r=>V.ref r.m).length:=by rw [bL,bL]
   obtain ⟨Pz,hPz⟩:=opq (fun j2 σ9 H9=>∃ (vr vm:Option V),σ9=[some (.ref a0),some (.ref fa),some (.ref nm),some (.int (0+(i:Int))),some (.ref rl),some (.ref RL),some (.ref ML),some (.ref yl),some (.int (j:Int)),some (.ref t),vr,vm]/\Mu C pool H9 (1+yG % 9999) (yH % 100) (i+1) S2 RL ML fa rl yl Kd fs ps K5);refine nP (n:=(K5.map fun r=>V.ref r.x).length) (fx:=fun j=>(K5.map fun r=>V.ref r.x).getD j .non) (fy:=fun j=>(K5.map fun r=>V.ref r.m).getD j .non) Pz (fun j2 σ9 H9 h=>by obtain ⟨_,_,_,M9⟩:=(hPz _ _ _).mp h;exact kO (bf.of M9.a) (bf.of M9.m) hl12) ((hPz _ _ _).mpr ⟨vr,vm,rfl,jt⟩) ?_ ?_
   ·intro j2 σ9 H9 p hj2 hP hp9;obtain ⟨vr,vm,rfl,M9⟩:=(hPz _ _ _).mp hP;rw [bL] at hj2;obtain ⟨r,hr⟩:∃ r,K5[j2]?=some r:=⟨_,dB hj2⟩;have hrm:=jL hr;have f1:(K5.map fun r=>V.ref r.x).getD j2 .non=V.ref r.x:=by rw [iw,iK,hr];rfl
    have f2:(K5.map fun r=>V.ref r.m).getD j2 .non=V.ref r.m:=by rw [iw,iK,hr];rfl
    rw [f1,f2];have sp:=aq hp9 (.tup [V.ref r.x,V.ref r.m]);refine ⟨p,_,rfl,bF.of ak,rfl,_,_,rfl,_,_,rfl,rfl,?_⟩;generalize upd H9 p (.tup [V.ref r.x,V.ref r.m])=Vb at sp ⊢;have M10:=M9.same sp;obtain ⟨st,d,kvs,rs,ls,en,b,a,fr,es,bs,as,R0⟩:=M10.c r hrm;have hkl:=R0.R.s.V3;have ps0:lK (ps.map V.ref) 0=some (V.ref (ps[0]'hp0)):=bh (j:=0) (by rw [iK,dB hp0];rfl);refine ⟨_,rfl,r.x,r.dx,_,rfl,R0.R.r.o,rfl,r.x,r.dx,st,d,r.e,r.l,_,_,_,kvs,rs,ls,rfl,R0.R.r,by lia,fun q as' ys Vd s11 hq0 hq1 hperm hys hit=>?_⟩;have M11:=M10.same s11;refine ⟨.inl ⟨rfl,_,bf.of hq1⟩,_,rfl,rl,_,_,_,rfl,rfl,bf.of M11.r,ps0,small 0x4,fun tt htt=>?_⟩;have s12:=aq htt (.tup [V.int 0,V.ref (ps[0]'hp0)]);have q12:=s12 _ _ hq1;generalize upd Vd tt (.tup [V.int 0,V.ref (ps[0]'hp0)])=H12 at s12 q12 ⊢;have hal:as'.length<=100:=by
     have h1:=hit.1;have h2:=hperm.length_eq;lia
    refine ⟨q,_,_,rfl,rfl,q12,bY (by rw [bL];lia),?_⟩;have Wo:Same Vb (upd H12 q (.lst (as'.map V.ref++[V.ref tt]))):=aW ((show Same Vb Vd from s11).trans s12) hq0
    generalize upd H12 q (.lst (as'.map V.ref++[V.ref tt]))=H13 at Wo ⊢;have RP:=M10.same Wo;refine ⟨_,rfl,_,rfl,?_⟩;dsimp only [oJ,List.cons_append,List.nil_append];refine fin (RP.c r hrm) fun H14 s14=>?_;exact ⟨_,rfl,aL ((hPz _ _ _).mpr ⟨_,_,rfl,RP.same s14⟩)⟩
   ·intro σ9 H9 hP;obtain ⟨vr,vm,rfl,M9⟩:=(hPz _ _ _).mp hP;exact (hPv _ _ _).mpr ⟨S2,K5,_,_,_,_,_,rfl,M9,hcl2⟩
  ·refine ⟨_,rfl,_,rfl,fa,_,_,_,rfl,rfl,bf.of Rg.f,e3,_,_,rfl,rfl,(by show (0:Int)<8;decide),small 0x4,fun q hq=>⟨q,_,rfl,.inr (bF.of ak),rfl,rfl,_,rfl,?_⟩⟩
   have sq:=aq hq (.tup [V.int (v3 % 8),V.int 8]);generalize upd Vd q (.tup [V.int (v3 % 8),V.int 8])=H12 at sq ⊢;have jt:=Rg.same sq;have hin:inV (V.int (0+(i:Int))) [V.int (v3 % 8),V.int 8]=(decide (v3 % 8=(i:Int))||decide (i=8)):=by
    rw [Int.zero_add]
    show (decide (v3 % 8=(i:Int))||(decide ((8:Int)=(i:Int))||false))=_
    rw [Bool.or_false]
    congr 1
    rw [Bool.eq_iff_iff];simp only [decide_eq_true_eq];lia
   show (if inV (V.int (0+(i:Int))) [V.int (v3 % 8),V.int 8]=true then _ else _)
   rw [hin]
   by_cases hc:v3 % 8=(i:Int)\/i=8
   ·have hc':(decide (v3 % 8=(i:Int))||decide (i=8))=true:=by simpa using hc
    rw [hc'];obtain ⟨c0,r2,rfl⟩:∃ c0 r2,cs'=c0++[r2]:=by
     rcases List.eq_nil_or_concat cs' with h0 | ⟨c0,r2,h0⟩
     ·rw [h0] at Rh;simp at Rh;lia
     ·exact ⟨c0,r2,by rw [h0,List.concat_eq_append]⟩
    have hrm:r2∈c0++[r2]:=by simp
    obtain ⟨st,d,kvs,rs,ls,en,b,a,fr,es,bs,as,R0⟩:=jt.c r2 hrm;have atL:lK ((c0++[r2]).map fun r=>V.ref r.x) (-1)=some (.ref r2.x):=by rw [jO];exact yS _ _
    have atB:lK ((c0++[r2]).map fun r=>V.ref r.m) (-1)=some (.ref r2.m):=by rw [jO];exact yS _ _
    have hlc:(c0++[r2]).length<=3:=by lia
    refine bR ⟨_,rfl,.inl ⟨rfl,_,bf.of jt.a⟩,_,rfl,1,rfl,RL,_,_,_,rfl,rfl,bf.of jt.a,atL,r2.x,r2.dx,_,rfl,R0.R.r.o,rfl,r2.x,r2.dx,st,d,r2.e,r2.l,_,_,_,kvs,rs,ls,rfl,R0.R.r,hAB,fun x' RN e' l' H13 Wo RA' hx0 V8 hl0 n1 n2 n3=>?_⟩;have RP:=jt.twin hrm R0 Wo RA' hx0 V8 hl0 n1 n2 n3;refine ⟨RL,_,_,rfl,rfl,Wo _ _ jt.a,bY (by rw [bL];lia),?_⟩;have mlv:(upd H13 RL (.lst ((c0++[r2]).map (fun r=>V.ref r.x)++[V.ref x']))) ML=some (.lst ((c0++[r2]).map fun r=>V.ref r.m)):=by rw [aA (Ne.symm jt.RM)];exact Wo _ _ jt.m
    refine ⟨_,rfl,.inl ⟨rfl,_,bf.of mlv⟩,_,rfl,1,rfl,ML,_,_,_,rfl,rfl,bf.of mlv,atB,ML,_,_,rfl,rfl,mlv,bY (by rw [bL];lia),?_⟩;refine go _ _ ⟨_,_,rfl,RP,?_⟩;rw [jj,Rh,hcl]
    show 1+_+_+1=_
    rcases hc with hc | hc
    ·rw [if_neg (show ¬ v3 % 8<(i:Int) by lia),if_pos (show v3 % 8<((i+1:Nat):Int) by lia),if_neg (show ¬ 8<i by lia),if_neg (show ¬ 8<i+1 by lia)]
    ·rw [if_pos (show v3 % 8<(i:Int) by lia),if_pos (show v3 % 8<((i+1:Nat):Int) by lia),if_neg (show ¬ 8<i by lia),if_pos (show 8<i+1 by lia)]
   ·have hc':(decide (v3 % 8=(i:Int))||decide (i=8))=false:=by simpa using hc
    rw [hc'];refine aL (go _ _ ⟨_,_,rfl,jt,?_⟩);rw [Rh,hcl];have h1:¬ v3 % 8=(i:Int):=fun z=>hc (.inl z);have h2:¬ i=8:=fun z=>hc (.inr z)
    congr 1
    ·congr 1
     by_cases h3:v3 % 8<(i:Int)
     ·rw [if_pos h3,if_pos 0x1]
     ·rw [if_neg h3,if_neg 0x1]
    ·by_cases h3:8<i
     ·rw [if_pos h3,if_pos 0x1]
     ·rw [if_neg h3,if_neg 0x1]
 ·intro σ7 H7 hP;obtain ⟨S,cs,vk,va,vt,vr,vm,rfl,MU,hcl⟩:=(hPv _ _ _).mp hP;refine hN _ _ ?_;have hc3:cs.length<=3/\1<=cs.length:=by
   rw [hcl]
   constructor <;> (repeat' split) <;> lia
  have hn1:(9+v1 % 15).toNat<=23:=by lia
  clear hcl;generalize (9+v1 % 15).toNat=n1 at hn1 MU;refine jh fun N _ hN=>?_;refine ⟨25,rfl,by decide,by decide,?_⟩;obtain ⟨Pw,hPw⟩:=opq (fun i σ8 H8=>∃ (S:List Addr) (cs:List Rec) (vk va:Option V),σ8=[some (.ref a0),some (.ref fa),some (.ref nm),vk,some (.ref rl),some (.ref RL),some (.ref ML),some (.ref yl),va,vt,vr,vm]/\Mu C pool H8 (1+yG % 9999) (yH % 100) (n1+3 * i) S RL ML fa rl yl Kd fs ps cs/\cs.length<=3);refine gW (lo:=0) (n:=25) Pw ((hPw _ _ _).mpr ⟨S,cs,vk,va,rfl,MU,hc3.1⟩) ?_ ?_
  ·intro i σ8 H8 hi hP;obtain ⟨S,cs,vk,va,rfl,K4,hcl⟩:=(hPw _ _ _).mp hP;refine ⟨_,rfl,RL,_,rfl,.inl (bf.of K4.a),?_⟩;rw [bL];refine ⟨_,rfl,by lia,by lia,?_⟩;have elen:((cs.length:Int)).toNat=cs.length:=by lia
   rw [elen];obtain ⟨Py,hPy⟩:=opq (fun j σ9 H9=>∃ (S9:List Addr) (cs9:List Rec) (va:Option V),σ9=[some (.ref a0),some (.ref fa),some (.ref nm),some (.int (0+(i:Int))),some (.ref rl),some (.ref RL),some (.ref ML),some (.ref yl),va,vt,vr,vm]/\Mu C pool H9 (1+yG % 9999) (yH % 100) (n1+3 * i+j) S9 RL ML fa rl yl Kd fs ps cs9/\cs9.length=cs.length);refine gW (lo:=0) (n:=cs.length) Py ((hPy _ _ _).mpr ⟨S,cs,va,rfl,K4,rfl⟩) ?_ ?_
   ·intro j σ9 H9 hj hP;obtain ⟨S9,cs9,va,rfl,vN,h9⟩:=(hPy _ _ _).mp hP;have hj9:j<cs9.length:=by lia
    obtain ⟨r,hr⟩:∃ r,cs9[j]?=some r:=⟨_,dB hj9⟩;have hrm:=jL hr;have e0j:(0+(j:Int))=(j:Int):=Int.zero_add _;rw [e0j];have Hr:lK (cs9.map fun r=>V.ref r.m) (j:Int)=some (.ref r.m):=bh (by rw [iK,hr];rfl);have atR:lK (cs9.map fun r=>V.ref r.x) (j:Int)=some (.ref r.x):=bh (by rw [iK,hr];rfl);refine jh fun N _ hN=>?_;refine ⟨_,rfl,_,rfl,RL,_,_,_,rfl,rfl,bf.of vN.a,atR,_,rfl,_,rfl,ML,_,_,_,rfl,rfl,bf.of vN.m,Hr,small 0x4,fun t ht=>?_⟩;have st:=aq ht (.tup [V.str "back"]);have t10:(upd H9 t (.tup [V.str "back"])) t=some (.tup Tn.ba.vs):=ak;generalize upd H9 t (.tup [V.str "back"])=Vb at st t10 ⊢;have tH:=vN.same st;refine ⟨S9,pool,r.x,r.dx,r.e,r.l,r.m,t,_,_,n1+3 * i+j,.ba,rfl,tH.c r hrm,tH.s,t10,trivial,(fun l0 qs us eT=>by cases eT),by lia,hp16,fun m' l' S' Vd kp hNS RX' hLs=>?_⟩;have hM11:Vd ML=some (.lst (cs9.map fun r=>V.ref r.m)):=by
     obtain ⟨_,_,_,ox,_⟩:=tH.o hrm;exact kp ML _ (fun z=>by have:=tH.m;rw [z,ox] at this;cases this) (tH.nM r hrm).1 (tH.nM r hrm).2 tH.m
    have jt:=tH.step hr kp hNS RX' hLs;have Vc:FW (cs9.map fun r=>V.ref r.m).length (j:Int)=some j:=by
     unfold FW;rw [bL,if_pos 0x1,if_pos 0x1]
     congr 1
    refine ⟨_,rfl,_,rfl,ML,_,_,j,rfl,rfl,hM11,Vc,?_⟩;refine hN _ _ ?_;generalize upd Vd ML (.lst ((cs9.map fun r=>V.ref r.m).set j (.ref m')))=H12 at jt ⊢;have hc12:(cs9.set j ⟨r.x,r.dx,r.e,l',m'⟩).length=cs9.length:=List.length_set ..;have hr':(cs9.set j ⟨r.x,r.dx,r.e,l',m'⟩)[j]?=some ⟨r.x,r.dx,r.e,l',m'⟩:=List.getElem?_set_self hj9;generalize cs9.set j ⟨r.x,r.dx,r.e,l',m'⟩=cs' at jt hc12 hr';have Ri:lK (cs'.map fun r=>V.ref r.m) (j:Int)=some (.ref m'):=bh (by rw [iK,hr'];rfl);have atR':lK (cs'.map fun r=>V.ref r.x) (j:Int)=some (.ref r.x):=bh (by rw [iK,hr'];rfl);refine ⟨_,rfl,_,rfl,ML,_,_,_,rfl,rfl,bf.of jt.m,Ri,_,rfl,?_⟩;refine aL ⟨_,rfl,_,rfl,RL,_,_,_,rfl,rfl,bf.of jt.a,atR',_,rfl,_,rfl,ML,_,_,_,rfl,rfl,bf.of jt.m,Ri,?_⟩;dsimp only [oJ,List.cons_append,List.nil_append];refine fin (r:=⟨r.x,r.dx,r.e,l',m'⟩) (jt.c _ (jL hr')) fun H13 Wo=>?_;exact ⟨_,rfl,aL ((hPy _ _ _).mpr ⟨S',cs',_,rfl,jt.same Wo,by lia⟩)⟩
   ·intro σ9 H9 hP;obtain ⟨S9,cs9,va,rfl,vN,h9⟩:=(hPy _ _ _).mp hP;refine (hPw _ _ _).mpr ⟨S9,cs9,_,_,rfl,?_,by lia⟩;have hk:n1+3 * i+cs.length<=n1+3 * (i+1):=by lia
    obtain ⟨dk,hdk⟩:=Nat.le.dest hk;rw [<- hdk];exact vN.up dk
  ·intro σ8 H8 hP;obtain ⟨S,cs,vk,va,rfl,K4,hcl⟩:=(hPw _ _ _).mp hP;refine hN _ _ ?_;refine ⟨_,rfl,RL,rfl,⟨_,bf.of K4.a⟩,fun D hD=>?_⟩;refine gY (K:=K) (a:=RL) (xs:=cs.map fun r=>V.ref r.x) (fun i ys H9=>ys=List.replicate i (V.bl true)/\Same H8 H9/\H9 D=some (.lst ys)) (fun i ys H9 h=>bf.of (h.2.1 _ _ K4.a)) ⟨rfl,aq hD _,ak⟩ (fun i ys H9 h=>h.2.2) ?_ ?_
   ·rintro i ys H9 z hz ⟨rfl,s9,hD9⟩;rw [iK] at hz;obtain ⟨r,hr,rfl⟩:=Option.map_eq_some_iff.mp hz;have hi:i<cs.length:=(List.getElem?_eq_some_iff.mp hr).1;have vN:=K4.same s9;obtain ⟨st,d,kvs,rs,ls,en,b,a,fr,es,bs,as,R0⟩:=vN.c r (jL hr);refine 0x21;refine dG ?_;refine ⟨_,rfl,r.x,r.dx,_,rfl,R0.R.r.o,rfl,r.x,r.dx,st,d,r.e,r.l,_,_,_,kvs,rs,ls,rfl,R0.R.r,_,rfl,r.x,r.dx,_,rfl,R0.R.r.o,rfl,r.x,r.dx,st,d,r.e,r.l,_,_,_,kvs,rs,ls,rfl,R0.R.r,small 0x4,fun t1 ht1=>?_⟩;have s1:=aq ht1 0x1C;have l1:(upd H9 t1 0x1C) t1=some 0x1C:=ak;generalize upd H9 t1 0x1C=Vb at s1 l1 ⊢;have tH:=vN.same s1;refine ⟨_,rfl,fa,_,_,_,rfl,rfl,bf.of tH.f,e12,_,_,rfl,rfl,(by show (0:Int)<9999;decide),_,_,rfl,rfl,_,rfl,fa,_,_,_,rfl,rfl,bf.of tH.f,e15,_,_,rfl,rfl,(by show (0:Int)<100;decide),small 0x4,fun t2 ht2=>?_⟩
    have s2:=aq ht2 0x1C;have l2:(upd Vb t2 0x1C) t2=some 0x1C:=ak;generalize upd Vb t2 0x1C=Vd at s2 l2 ⊢;have s12:=s1.trans s2;have eqd:Oa Vd 4 (.ref t1) (.ref t2):=by
     refine .inr (.inl ⟨t1,t2,_,_,rfl,rfl,s2 _ _ l1,l2,rfl,by simp,fun q u v hu hv=>?_⟩);rw [hu] at hv;injection hv with hv;refine .inl ⟨hv,?_⟩
     match q,hu with
     | 0,hu=>injection hu with hu;rw [<- hu];rfl
     | 1,hu=>injection hu with hu;rw [<- hu];rfl
     | q+2,hu=>simp at hu
    refine ⟨_,_,rfl,eqd,fun H12 s3=>⟨s3 _ _ (s12 _ _ hD9),?_,?_,aW (s9.trans (s12.trans s3)) hD,ak⟩⟩
    ·rw [List.length_replicate];exact bY 0x1
    ·rw [List.replicate_succ']
   ·rintro ys H9 ⟨rfl,s9,hD9⟩;rw [bL] at hD9;refine ⟨D,List.replicate cs.length true,rfl,bf.of (by rw [<- Du];exact hD9),?_⟩;rw [all_true fun b hb=>List.eq_of_mem_replicate hb];exact kk _
end
theorem ju {P:List Value->Prop} (h:P []):∀ us:List Value,us.length=0->P us
 | [],_=>h
theorem dR {P:List Value->Prop} (h:∀ (a:Value) (us:List Value),us.length=n->P (a::us)):∀ us:List Value,us.length=n+1->P us
 | a::us,e=>h a us (Nat.succ.inj e)
theorem fV {dd:Option Addr}{its:Array Value}{sl:Array (Option Value)} (h:K.lookup a=some ⟨.type "tuple",dd,.seq its n,sl⟩) (hz:its.size<=sizeLine) (v:Vals xs its.toList):Jx K a xs:=⟨_,its,n,h,rfl,rfl,hz,v⟩
def Z1 (K:PySem.W.Frag) (q:List (Str×List cW)) (kvs:List (Str×V)):Prop:=∀ k,(q.lookup k=none->kvs.lookup k=none)/\∀ l,q.lookup k=some l->∃ b,kvs.lookup k=some (.ref b)/\Jx K b (l.map fun s=>.str s.word)
theorem Z2:Z1 K [] []:=fun k=>⟨fun _=>rfl,fun l h=>nomatch h⟩
theorem jK {l:List cW}{q:List (Str×List cW)}{kvs:List (Str×V)} (h:Jx K b (l.map fun s=>.str s.word)) (ih:Z1 K q kvs):Z1 K ((x,l)::q) ((x,.ref b)::kvs):=fun k=>by
 rw [List.lookup_cons,List.lookup_cons]
 by_cases e:k=x
 ·subst e;rw [beq_self_eq_true];exact ⟨fun z=>by simp at z,fun l' z=>by
   have:l=l':=by simpa using z
   subst this;exact ⟨b,rfl,h⟩⟩
 ·have e':(k==x)=false:=by simpa using e
  rw [e'];exact ih k
def Dq (K:PySem.W.Frag) (x q:Str) (st:Stmt) (f:Addr):Prop:=∃ oc od kV dc pm an cd ct sl,K.lookup f=some ⟨oc,od,.func (PySem.W.fnOf x q (lN st) (gP st) (aH st) .none kV dc pm an cd ct),sl⟩/\PySem.W.codeIn K cd q=true/\PySem.W.keepIn K (.ref f)=true
theorem Dq.f {q:Str}{st:Stmt}{f:Addr} (h:Dq K x q st f):∃ fd,gQ K x q st f fd/\PySem.W.keepIn K (.ref f)=true:=by
 obtain ⟨oc,od,kV,dc,pm,an,cd,ct,sl,L,c,k⟩:=h;exact ⟨_,Lz L c k,k⟩
theorem Z4 {c:Addr} (xa:XC K a) (xb:XC K b) (xc:XC K c) (xd:XC K d) (ea:PySem.W.exmOne K (.ref a) (.ref L)=some true) (eb:PySem.W.exmOne K (.ref b) (.ref L)=some true) (ec:PySem.W.exmOne K (.ref c) (.ref L)=some true) (ed:PySem.W.exmOne K (.ref d) (.ref L)=some true) (yaa:PySem.W.kitOne K (.ref a) (.ref a)=some true) (yab:PySem.W.kitOne K (.ref a) (.ref b)=some false) (yac:PySem.W.kitOne K (.ref a) (.ref c)=some false) (yad:PySem.W.kitOne K (.ref a) (.ref d)=some false) (yba:PySem.W.kitOne K (.ref b) (.ref a)=some false) (ybb:PySem.W.kitOne K (.ref b) (.ref b)=some true) (ybc:PySem.W.kitOne K (.ref b) (.ref c)=some false) (ybd:PySem.W.kitOne K (.ref b) (.ref d)=some false) (yca:PySem.W.kitOne K (.ref c) (.ref a)=some false) (ycb:PySem.W.kitOne K (.ref c) (.ref b)=some false) (ycc:PySem.W.kitOne K (.ref c) (.ref c)=some true) (ycd:PySem.W.kitOne K (.ref c) (.ref d)=some false) (yda:PySem.W.kitOne K (.ref d) (.ref a)=some false) (ydb:PySem.W.kitOne K (.ref d) (.ref b)=some false) (ydc:PySem.W.kitOne K (.ref d) (.ref c)=some false) (ydd:PySem.W.kitOne K (.ref d) (.ref d)=some true):∀ (i:Nat) q,[a,b,c,d][i]?=some q->XC K q/\PySem.W.exmOne K (.ref q) (.ref L)=some true/\∀ (j:Nat) r,[a,b,c,d][j]?=some r->PySem.W.kitOne K (.ref q) (.ref r)=some (decide (i=j)):=by
 intro i q hq
 match i,hq with
 | 0,hq =>
  injection hq with hq;subst hq;refine ⟨xa,ea,fun j r hr=>?_⟩
  match j,hr with
  | 0,hr=>injection hr with hr;subst hr;exact yaa
  | 1,hr=>injection hr with hr;subst hr;exact yab
  | 2,hr=>injection hr with hr;subst hr;exact yac
  | 3,hr=>injection hr with hr;subst hr;exact yad
  | j+4,hr=>simp at hr
 | 1,hq =>
  injection hq with hq;subst hq;refine ⟨xb,eb,fun j r hr=>?_⟩
  match j,hr with
  | 0,hr=>injection hr with hr;subst hr;exact yba
  | 1,hr=>injection hr with hr;subst hr;exact ybb
  | 2,hr=>injection hr with hr;subst hr;exact ybc
  | 3,hr=>injection hr with hr;subst hr;exact ybd
  | j+4,hr=>simp at hr
 | 2,hq =>
  injection hq with hq;subst hq;refine ⟨xc,ec,fun j r hr=>?_⟩
  match j,hr with
  | 0,hr=>injection hr with hr;subst hr;exact yca
  | 1,hr=>injection hr with hr;subst hr;exact ycb
  | 2,hr=>injection hr with hr;subst hr;exact ycc
  | 3,hr=>injection hr with hr;subst hr;exact ycd
  | j+4,hr=>simp at hr
 | 3,hq =>
  injection hq with hq;subst hq;refine ⟨xd,ed,fun j r hr=>?_⟩
  match j,hr with
  | 0,hr=>injection hr with hr;subst hr;exact yda
  | 1,hr=>injection hr with hr;subst hr;exact ydb
  | 2,hr=>injection hr with hr;subst hr;exact ydc
  | 3,hr=>injection hr with hr;subst hr;exact ydd
  | j+4,hr=>simp at hr
 | i+4,hq=>simp at hq
theorem all_mk {l:PySem.W.OpenLaw}{f1 f2 f3 f4 f5 f6 f7 f8 f9 f10 f11 f12 f13 f14 f15 f16 f17 f18 f19 f20 f21 f22 f23 f24 f25 f26 f27 f28:Addr} (X:K.In h) (G:h.Ns mainGlobals mg) (hfa:mg "law"=some (.ref fa))
  {tL:Tok}{tC:Tok}{R f_I Z5 Z6 Z7 Z8 Z9 Za Zb Zc Zd Ze Zf Zg Zh aF aB tw_ b5_ b6_ f1_ f2_ f3_ f4_ f5_ f6_ f7_ b1_ b2_ b3_ b4_ b7_ c5_ c6_:Addr}{cdCF cdCN cdCT cdCH:ClassData}{Eo Ep Er Es Et Eu Ew Ey Ez EY Fb Fd Fe:Array Value}{a1a a1b a1c a1d a1e a1f a1g a1h a1i a1j a1k a1l a1m:Nat}{Zi Zj Zk Zm Zn Zo Zq Zr Zt Zu Zv Zw Zx:Option Addr}{Zy Zz ZC ZD ZF ZG ZJ ZK ZL ZM ZP ZQ ZR:Array (Option Value)}{esF esB:Array DictEntry}{nF nB:Nat}
  (a1:PySem.W.nsIn K mainGlobals "is_name"=some (some (.ref f1))) (l1:Dq K "is_name" "is_name" Nx f1)
  (a2:PySem.W.nsIn K mainGlobals "check_row"=some (some (.ref f2))) (l2:Dq K "check_row" "check_row" Df f2)
  (a3:PySem.W.nsIn K mainGlobals "is_well_made"=some (some (.ref f3))) (l3:Dq K "is_well_made" "is_well_made" Ny f3)
  (a4:PySem.W.nsIn K mainGlobals "fits"=some (some (.ref f4))) (l4:Dq K "fits" "fits" Nz f4)
  (a5:PySem.W.nsIn K mainGlobals "check_acres"=some (some (.ref f5))) (l5:Dq K "check_acres" "check_acres" XH f5)
  (a6:PySem.W.nsIn K mainGlobals "check_land"=some (some (.ref f6))) (l6:Dq K "check_land" "check_land" XJ f6)
  (a7:PySem.W.nsIn K mainGlobals "check_alone"=some (some (.ref f7))) (l7:Dq K "check_alone" "check_alone" Dg f7)
  (a8:PySem.W.nsIn K mainGlobals "_law_feed"=some (some (.ref f8))) (l8:Dq K "_law_feed" "_law_feed" NK f8)
  (a9:PySem.W.nsIn K mainGlobals "_law_same"=some (some (.ref f9))) (l9:Dq K "_law_same" "_law_same" zT f9)
  (a10:PySem.W.nsIn K mainGlobals "_law_names"=some (some (.ref f10))) (l10:Dq K "_law_names" "_law_names" wW f10)
  (a11:PySem.W.nsIn K mainGlobals "_law_kinds"=some (some (.ref f11))) (l11:Dq K "_law_kinds" "_law_kinds" Dh f11)
  (a12:PySem.W.nsIn K mainGlobals "_law_shapes"=some (some (.ref f12))) (l12:Dq K "_law_shapes" "_law_shapes" nT f12)
  (a13:PySem.W.nsIn K mainGlobals "_law_named"=some (some (.ref f13))) (l13:Dq K "_law_named" "_law_named" wX f13)
  (a14:PySem.W.nsIn K mainGlobals "_law_good"=some (some (.ref f14))) (l14:Dq K "_law_good" "_law_good" NP f14)
  (a15:PySem.W.nsIn K mainGlobals "_law_any_row"=some (some (.ref f15))) (l15:Dq K "_law_any_row" "_law_any_row" Tg f15)
  (a16:PySem.W.nsIn K mainGlobals "_law_ill"=some (some (.ref f16))) (l16:Dq K "_law_ill" "_law_ill" XM f16)
  (a17:PySem.W.nsIn K mainGlobals "_law_pick"=some (some (.ref f17))) (l17:Dq K "_law_pick" "_law_pick" NQ f17)
  (a18:PySem.W.nsIn K mainGlobals "_law_turn"=some (some (.ref f18))) (l18:Dq K "_law_turn" "_law_turn" zU f18)
  (a19:PySem.W.nsIn K mainGlobals "_law_new_entries"=some (some (.ref f19))) (l19:Dq K "_law_new_entries" "_law_new_entries" zV f19)
  (a20:PySem.W.nsIn K mainGlobals "_law_refusal"=some (some (.ref f20))) (l20:Dq K "_law_refusal" "_law_refusal" rW f20)
  (a21:PySem.W.nsIn K mainGlobals "_law_told"=some (some (.ref f21))) (l21:Dq K "_law_told" "_law_told" GJ f21)
  (a22:PySem.W.nsIn K mainGlobals "_law_moved"=some (some (.ref f22))) (l22:Dq K "_law_moved" "_law_moved" Di f22)
  (a23:PySem.W.nsIn K mainGlobals "_law_roll_do"=some (some (.ref f23))) (l23:Dq K "_law_roll_do" "_law_roll_do" XQ f23)
  (a24:PySem.W.nsIn K mainGlobals "_law_roll_try"=some (some (.ref f24))) (l24:Dq K "_law_roll_try" "_law_roll_try" GK f24)
  (a25:PySem.W.nsIn K mainGlobals "_law_roll_is"=some (some (.ref f25))) (l25:Dq K "_law_roll_is" "_law_roll_is" XR f25)
  (a26:PySem.W.nsIn K mainGlobals "_law_plain_model"=some (some (.ref f26))) (l26:Dq K "_law_plain_model" "_law_plain_model" Dj f26)
  (a27:PySem.W.nsIn K mainGlobals "_law_step"=some (some (.ref f27))) (l27:Dq K "_law_step" "_law_step" NT f27)
  (a28:PySem.W.nsIn K mainGlobals "law"=some (some (.ref f28))) (l28:Dq K "law" "law" wY f28)
  (q1:PySem.W.nsIn K mainGlobals "LONGEST_NAME"=some (some (.int 8 tL)))
  (q2:PySem.W.nsIn K mainGlobals "CROWN"=some (some (.str "" tC)))
  (q3:PySem.W.nsIn K mainGlobals "FORMS"=some (some (.ref aF)))
  (q4:PySem.W.nsIn K mainGlobals "BOUNDS"=some (some (.ref aB)))
  (q5:PySem.W.nsIn K mainGlobals "OF_TWO_MEN"=some (some (.ref tw_)))
  (q6:PySem.W.nsIn K mainGlobals "Roll"=some (some (.ref R)))
  (q7:PySem.W.nsIn K mainGlobals "NoForm"=some (some (.ref CF)))
  (q8:PySem.W.nsIn K mainGlobals "NoEntry"=some (some (.ref CN)))
  (q9:PySem.W.nsIn K mainGlobals "Twice"=some (some (.ref CT)))
  (q10:PySem.W.nsIn K mainGlobals "NothingThere"=some (some (.ref CH)))
  (q11:PySem.W.nsIn K mainGlobals "LandError"=some (some (.ref L)))
  (q12:PySem.W.nsIn K mainGlobals "NoLand"=some (some (.ref c5_)))
  (q13:PySem.W.nsIn K mainGlobals "NoText"=some (some (.ref c6_)))
  (z1:PySem.W.nsIn K mainGlobals "isinstance"=some none)
  (z2:PySem.W.nsIn K mainGlobals "int"=some none)
  (z3:PySem.W.nsIn K mainGlobals "str"=some none)
  (z4:PySem.W.nsIn K mainGlobals "len"=some none)
  (z5:PySem.W.nsIn K mainGlobals "all"=some none)
  (z6:PySem.W.nsIn K mainGlobals "zip"=some none)
  (z7:PySem.W.nsIn K mainGlobals "range"=some none)
  (z8:PySem.W.nsIn K mainGlobals "enumerate"=some none)
  (z9:PySem.W.nsIn K mainGlobals "max"=some none)
  (z10:PySem.W.nsIn K mainGlobals "tuple"=some none)
  (z11:PySem.W.nsIn K mainGlobals "bool"=some none)
  (z12:PySem.W.nsIn K mainGlobals "list"=some none)
  (z13:PySem.W.nsIn K mainGlobals "dict"=some none)
  (z14:PySem.W.nsIn K mainGlobals "sorted"=some none)
  (z15:PySem.W.nsIn K mainGlobals "set"=some none)
  (sg:PySem.W.specialIn K 0x15 "__get__"=some (some (.builtin "getset_descriptor.__get__")))
  (tg:PySem.W.takesIn K 0x15=some true)
  (hxCF:PySem.W.excIn K CF tV "ValueError.__new__"=true)
  (x1CF:PySem.W.findIn K (.ref CF) "__getattribute__"=some (some (.builtin "BaseException.__getattribute__")))
  (x2CF:PySem.W.findIn K (.ref CF) "__getattr__"=some none)
  (x3CF:PySem.W.clsIn K CF=some cdCF)
  (x4CF:PySem.W.findIn K (.ref CF) "__class__"=some (some 0x15))
  (x5CF:PySem.W.mroIn K CF (.type "object")=some true)
  (x6CF:PySem.W.mroIn K CF (.type "BaseException")=some true)
  (exCF:PySem.W.exmOne K (.ref CF) (.ref L)=some true)
  (yCFCF:PySem.W.kitOne K (.ref CF) (.ref CF)=some true)
  (yCFCN:PySem.W.kitOne K (.ref CF) (.ref CN)=some false)
  (yCFCT:PySem.W.kitOne K (.ref CF) (.ref CT)=some false)
  (yCFCH:PySem.W.kitOne K (.ref CF) (.ref CH)=some false)
  (hxCN:PySem.W.excIn K CN tV "ValueError.__new__"=true)
  (x1CN:PySem.W.findIn K (.ref CN) "__getattribute__"=some (some (.builtin "BaseException.__getattribute__")))
  (x2CN:PySem.W.findIn K (.ref CN) "__getattr__"=some none)
  (x3CN:PySem.W.clsIn K CN=some cdCN)
  (x4CN:PySem.W.findIn K (.ref CN) "__class__"=some (some 0x15))
  (x5CN:PySem.W.mroIn K CN (.type "object")=some true)
  (x6CN:PySem.W.mroIn K CN (.type "BaseException")=some true)
  (exCN:PySem.W.exmOne K (.ref CN) (.ref L)=some true)
  (yCNCF:PySem.W.kitOne K (.ref CN) (.ref CF)=some false)
  (yCNCN:PySem.W.kitOne K (.ref CN) (.ref CN)=some true)
  (yCNCT:PySem.W.kitOne K (.ref CN) (.ref CT)=some false)
  (yCNCH:PySem.W.kitOne K (.ref CN) (.ref CH)=some false)
  (hxCT:PySem.W.excIn K CT tV "ValueError.__new__"=true)
  (x1CT:PySem.W.findIn K (.ref CT) "__getattribute__"=some (some (.builtin "BaseException.__getattribute__")))
  (x2CT:PySem.W.findIn K (.ref CT) "__getattr__"=some none)
  (x3CT:PySem.W.clsIn K CT=some cdCT)
  (x4CT:PySem.W.findIn K (.ref CT) "__class__"=some (some 0x15))
  (x5CT:PySem.W.mroIn K CT (.type "object")=some true)
  (x6CT:PySem.W.mroIn K CT (.type "BaseException")=some true)
  (exCT:PySem.W.exmOne K (.ref CT) (.ref L)=some true)
  (yCTCF:PySem.W.kitOne K (.ref CT) (.ref CF)=some false)
  (yCTCN:PySem.W.kitOne K (.ref CT) (.ref CN)=some false)
  (yCTCT:PySem.W.kitOne K (.ref CT) (.ref CT)=some true)
  (yCTCH:PySem.W.kitOne K (.ref CT) (.ref CH)=some false)
  (hxCH:PySem.W.excIn K CH tV "ValueError.__new__"=true)
  (x1CH:PySem.W.findIn K (.ref CH) "__getattribute__"=some (some (.builtin "BaseException.__getattribute__")))
  (x2CH:PySem.W.findIn K (.ref CH) "__getattr__"=some none)
  (x3CH:PySem.W.clsIn K CH=some cdCH)
  (x4CH:PySem.W.findIn K (.ref CH) "__class__"=some (some 0x15))
  (x5CH:PySem.W.mroIn K CH (.type "object")=some true)
  (x6CH:PySem.W.mroIn K CH (.type "BaseException")=some true)
  (exCH:PySem.W.exmOne K (.ref CH) (.ref L)=some true)
  (yCHCF:PySem.W.kitOne K (.ref CH) (.ref CF)=some false)
  (yCHCN:PySem.W.kitOne K (.ref CH) (.ref CN)=some false)
  (yCHCT:PySem.W.kitOne K (.ref CH) (.ref CT)=some false)
  (yCHCH:PySem.W.kitOne K (.ref CH) (.ref CH)=some true)
  (y5:PySem.W.kitOne K (.ref CF) (.ref c5_)=some false)
  (y6:PySem.W.kitOne K (.ref CF) (.ref c6_)=some false)
  (fa_I:PySem.W.findIn K (.ref R) "__init__"=some (some (.ref f_I)))
  (la_I:Dq K "__init__" "Roll.__init__" Dk f_I)
  (ia_I:PySem.W.isFn K (.ref f_I)=true)
  (fa_Fr:PySem.W.findIn K (.ref R) "free"=some (some (.ref Z5)))
  (la_Fr:Dq K "free" "Roll.free" NZ Z5)
  (ia_Fr:PySem.W.isFn K (.ref Z5)=true)
  (fa_Rw:PySem.W.findIn K (.ref R) "rows"=some (some (.ref Z6)))
  (la_Rw:Dq K "rows" "Roll.rows" O1 Z6)
  (ia_Rw:PySem.W.isFn K (.ref Z6)=true)
  (fa_En:PySem.W.findIn K (.ref R) "enter"=some (some (.ref Z7)))
  (la_En:Dq K "enter" "Roll.enter" Dn Z7)
  (ia_En:PySem.W.isFn K (.ref Z7)=true)
  (fa_Ea:PySem.W.findIn K (.ref R) "enter_all"=some (some (.ref Z8)))
  (la_Ea:Dq K "enter_all" "Roll.enter_all" oR Z8)
  (ia_Ea:PySem.W.isFn K (.ref Z8)=true)
  (fa_Sk:PySem.W.findIn K (.ref R) "strike"=some (some (.ref Z9)))
  (la_Sk:Dq K "strike" "Roll.strike" wZ Z9)
  (ia_Sk:PySem.W.isFn K (.ref Z9)=true)
  (fa_Co:PySem.W.findIn K (.ref R) "correct"=some (some (.ref Za)))
  (la_Co:Dq K "correct" "Roll.correct" rY Za)
  (ia_Co:PySem.W.isFn K (.ref Za)=true)
  (fa_Ba:PySem.W.findIn K (.ref R) "back"=some (some (.ref Zb)))
  (la_Ba:Dq K "back" "Roll.back" O4 Zb)
  (ia_Ba:PySem.W.isFn K (.ref Zb)=true)
  (fa_Ag:PySem.W.findIn K (.ref R) "again"=some (some (.ref Zc)))
  (la_Ag:Dq K "again" "Roll.again" Dp Zc)
  (ia_Ag:PySem.W.isFn K (.ref Zc)=true)
  (fa_Ra:PySem.W.findIn K (.ref R) "row_at"=some (some (.ref Zd)))
  (la_Ra:Dq K "row_at" "Roll.row_at" Dr Zd)
  (ia_Ra:PySem.W.isFn K (.ref Zd)=true)
  (fa_Se:PySem.W.findIn K (.ref R) "settle"=some (some (.ref Ze)))
  (la_Se:Dq K "settle" "Roll.settle" xg Ze)
  (ia_Se:PySem.W.isFn K (.ref Ze)=true)
  (fa_Tw:PySem.W.findIn K (.ref R) "twin"=some (some (.ref Zf)))
  (la_Tw:Dq K "twin" "Roll.twin" O5 Zf)
  (ia_Tw:PySem.W.isFn K (.ref Zf)=true)
  (fa_Ac:PySem.W.findIn K (.ref R) "acres"=some (some (.ref Zg)))
  (la_Ac:Dq K "acres" "Roll.acres" Dl Zg)
  (ia_Ac:PySem.W.isFn K (.ref Zg)=true)
  (fa_Be:PySem.W.findIn K (.ref R) "bears"=some (some (.ref Zh)))
  (la_Be:Dq K "bears" "Roll.bears" Dm Zh)
  (ia_Be:PySem.W.isFn K (.ref Zh)=true)
  (pgR:PySem.W.plainGet K R Str.empty=true)
  (hdR:PySem.W.hasDictIn K R=true)
  (poR:PySem.W.plainOver K R=true)
  (saR:PySem.W.findIn K (.ref R) "__setattr__"=some (some (.builtin "object.__setattr__")))
  (mkR:PySem.W.makesIn K R=true)
  (kpR:PySem.W.keepIn K (.ref R)=true)
  (na1:PySem.W.findIn K (.ref R) "many_acres"=some none)
  (na2:PySem.W.findIn K (.ref R) "coins"=some none)
  (na3:PySem.W.findIn K (.ref R) "standing"=some none)
  (na4:PySem.W.findIn K (.ref R) "earlier"=some none)
  (na5:PySem.W.findIn K (.ref R) "later"=some none)
  (kF:K.lookup aF=some ⟨.type "dict",none,.dict esF nF,#[]⟩)
  (eF:iU w.params esF.toList [("heir",.ref f1_),("grant",.ref f2_),("part",.ref f3_),("convey",.ref f4_),("liege",.ref f5_),("surrender",.ref f6_),("death",.ref f7_)])
  (lF:(aF==sysModules)=false)
  (kB:K.lookup aB=some ⟨.type "dict",none,.dict esB nB,#[]⟩)
  (eB:iU w.params esB.toList [("day",.ref b1_),("acres",.ref b2_),("service",.ref b3_),("bears",.ref b4_),("edge",.ref b5_),("number",.ref b6_),("entry",.ref b7_)])
  (lB:(aB==sysModules)=false)
  (t_f1_:K.lookup f1_=some ⟨.type "tuple",Zi,.seq Eo a1a,Zy⟩)
  (s_f1_:Eo.size<=sizeLine)
  (v_f1_:Vals [.str "day",.str "name",.str "name"] Eo.toList)
  (t_f2_:K.lookup f2_=some ⟨.type "tuple",Zj,.seq Ep a1b,Zz⟩)
  (s_f2_:Ep.size<=sizeLine)
  (v_f2_:Vals [.str "day",.str "name or crown",.str "name",.str "name",.str "acres",.str "service"] Ep.toList)
  (t_f3_:K.lookup f3_=some ⟨.type "tuple",Zk,.seq Er a1c,ZC⟩)
  (s_f3_:Er.size<=sizeLine)
  (v_f3_:Vals [.str "day",.str "name",.str "name",.str "name",.str "acres"] Er.toList)
  (t_f4_:K.lookup f4_=some ⟨.type "tuple",Zm,.seq Es a1d,ZD⟩)
  (s_f4_:Es.size<=sizeLine)
  (v_f4_:Vals [.str "day",.str "name",.str "name"] Es.toList)
  (t_f5_:K.lookup f5_=some ⟨.type "tuple",Zn,.seq Et a1e,ZF⟩)
  (s_f5_:Et.size<=sizeLine)
  (v_f5_:Vals [.str "day",.str "name",.str "name or crown"] Et.toList)
  (t_f6_:K.lookup f6_=some ⟨.type "tuple",Zo,.seq Eu a1f,ZG⟩)
  (s_f6_:Eu.size<=sizeLine)
  (v_f6_:Vals [.str "day",.str "name"] Eu.toList)
  (t_f7_:K.lookup f7_=some ⟨.type "tuple",Zq,.seq Ew a1g,ZJ⟩)
  (s_f7_:Ew.size<=sizeLine)
  (v_f7_:Vals [.str "day",.str "name"] Ew.toList)
  (t_b1_:K.lookup b1_=some ⟨.type "tuple",Zr,.seq Ey a1h,ZK⟩)
  (s_b1_:Ey.size<=sizeLine)
  (v_b1_:Vals [.int 0,.int 9999] Ey.toList)
  (t_b2_:K.lookup b2_=some ⟨.type "tuple",Zt,.seq Ez a1i,ZL⟩)
  (s_b2_:Ez.size<=sizeLine)
  (v_b2_:Vals [.int 1,.int 9999] Ez.toList)
  (t_b3_:K.lookup b3_=some ⟨.type "tuple",Zu,.seq EY a1j,ZM⟩)
  (s_b3_:EY.size<=sizeLine)
  (v_b3_:Vals [.int 0,.int 9999] EY.toList)
  (t_b4_:K.lookup b4_=some ⟨.type "tuple",Zv,.seq Fb a1k,ZP⟩)
  (s_b4_:Fb.size<=sizeLine)
  (v_b4_:Vals [.int 0,.int 99] Fb.toList)
  (t_b7_:K.lookup b7_=some ⟨.type "tuple",Zw,.seq Fd a1l,ZQ⟩)
  (s_b7_:Fd.size<=sizeLine)
  (v_b7_:Vals [.int 1,.int 999999] Fd.toList)
  (t_tw_:K.lookup tw_=some ⟨.type "tuple",Zx,.seq Fe a1m,ZR⟩)
  (s_tw_:Fe.size<=sizeLine)
  (v_tw_:Vals [.str "heir",.str "liege"] Fe.toList) :
  ∃ fd:FuncData,(∀ (s:Shared) (v:Value),BindsTo s fd ⟨[v],[]⟩ [("_law_script",v)])/\∀ base:Heap,K.In base->base.Ns mainGlobals mg->aX l.prog w K mg base cU 10 fa fd ["_law_script"] (Im K):=by
 have e:=hfa.symm.trans (PySem.W.mg_of X G a28);cases e;obtain ⟨d1,F1,k1⟩:=l1.f;have M1:Ms K mg "is_name" f1 _ _:=⟨F1.binds (ps:=["text"]) fun _ _ _ _ _ _=>dR fun _=>ju rfl,k1,PySem.W.mg_of X G a1⟩;obtain ⟨d2,F2,k2⟩:=l2.f;have M2:Ms K mg "check_row" f2 _ _:=⟨F2.binds (ps:=["row"]) fun _ _ _ _ _ _=>dR fun _=>ju rfl,k2,PySem.W.mg_of X G a2⟩;obtain ⟨d3,F3,k3⟩:=l3.f;have M3:Ms K mg "is_well_made" f3 _ _:=⟨F3.binds (ps:=["row"]) fun _ _ _ _ _ _=>dR fun _=>ju rfl,k3,PySem.W.mg_of X G a3⟩;obtain ⟨d4,F4,k4⟩:=l4.f;have M4:Ms K mg "fits" f4 _ _:=⟨F4.binds (ps:=["sort", "piece"]) fun _ _ _ _ _ _=>dR fun _=>dR fun _=>ju rfl,k4,PySem.W.mg_of X G a4⟩;obtain ⟨d5,F5,k5⟩:=l5.f;have M5:Ms K mg "check_acres" f5 _ _:=⟨F5.binds (ps:=["acres"]) fun _ _ _ _ _ _=>dR fun _=>ju rfl,k5,PySem.W.mg_of X G a5⟩;obtain ⟨d6,F6,k6⟩:=l6.f;have M6:Ms K mg "check_land" f6 _ _:=⟨F6.binds (ps:=["acres", "bears"]) fun _ _ _ _ _ _=>dR fun _=>dR fun _=>ju rfl,k6,PySem.W.mg_of X G a6⟩;obtain ⟨d7,F7,k7⟩:=l7.f;have M7:Ms K mg "check_alone" f7 _ _:=⟨F7.binds (ps:=["row", "held"]) fun _ _ _ _ _ _=>dR fun _=>dR fun _=>ju rfl,k7,PySem.W.mg_of X G a7⟩;obtain ⟨d8,F8,k8⟩:=l8.f;have M8:Ms K mg "_law_feed" f8 _ _:=⟨F8.binds (ps:=["_law_script", "_law_many"]) fun _ _ _ _ _ _=>dR fun _=>dR fun _=>ju rfl,k8,PySem.W.mg_of X G a8⟩;obtain ⟨d9,F9,k9⟩:=l9.f;have M9:Ms K mg "_law_same" f9 _ _:=⟨F9.binds (ps:=["_law_found", "_law_due"]) fun _ _ _ _ _ _=>dR fun _=>dR fun _=>ju rfl,k9,PySem.W.mg_of X G a9⟩;obtain ⟨d10,F10,k10⟩:=l10.f;have M10:Ms K mg "_law_names" f10 _ _:=⟨F10.binds (ps:=["_law_d", "_law_many"]) fun _ _ _ _ _ _=>dR fun _=>dR fun _=>ju rfl,k10,PySem.W.mg_of X G a10⟩;obtain ⟨d11,F11,k11⟩:=l11.f;have M11:Ms K mg "_law_kinds" f11 _ _:=⟨F11.binds (ps:=[]) fun _ _ _ _ _ _=>ju rfl,k11,PySem.W.mg_of X G a11⟩;obtain ⟨d12,F12,k12⟩:=l12.f;have M12:Ms K mg "_law_shapes" f12 _ _:=⟨F12.binds (ps:=[]) fun _ _ _ _ _ _=>ju rfl,k12,PySem.W.mg_of X G a12⟩;obtain ⟨d13,F13,k13⟩:=l13.f;have RP:Ms K mg "_law_named" f13 _ _:=⟨F13.binds (ps:=["_law_word"]) fun _ _ _ _ _ _=>dR fun _=>ju rfl,k13,PySem.W.mg_of X G a13⟩;obtain ⟨d14,F14,k14⟩:=l14.f;have M14:Ms K mg "_law_good" f14 _ _:=⟨F14.binds (ps:=["_law_row"]) fun _ _ _ _ _ _=>dR fun _=>ju rfl,k14,PySem.W.mg_of X G a14⟩;obtain ⟨d15,F15,k15⟩:=l15.f;have M15:Ms K mg "_law_any_row" f15 _ _:=⟨F15.binds (ps:=["_law_d", "_law_names_here"]) fun _ _ _ _ _ _=>dR fun _=>dR fun _=>ju rfl,k15,PySem.W.mg_of X G a15⟩;obtain ⟨d16,F16,k16⟩:=l16.f;have M16:Ms K mg "_law_ill" f16 _ _:=⟨F16.binds (ps:=["_law_row", "_law_number"]) fun _ _ _ _ _ _=>dR fun _=>dR fun _=>ju rfl,k16,PySem.W.mg_of X G a16⟩;obtain ⟨d17,F17,k17⟩:=l17.f;have M17:Ms K mg "_law_pick" f17 _ _:=⟨F17.binds (ps:=["_law_rows", "_law_d"]) fun _ _ _ _ _ _=>dR fun _=>dR fun _=>ju rfl,k17,PySem.W.mg_of X G a17⟩;obtain ⟨d18,F18,k18⟩:=l18.f;have M18:Ms K mg "_law_turn" f18 _ _:=⟨F18.binds (ps:=["_law_model", "_law_rows", "_law_d", "_law_ways"]) fun _ _ _ _ _ _=>dR fun _=>dR fun _=>dR fun _=>dR fun _=>ju rfl,k18,PySem.W.mg_of X G a18⟩;obtain ⟨d19,F19,k19⟩:=l19.f;have M19:Ms K mg "_law_new_entries" f19 _ _:=⟨F19.binds (ps:=["_law_model", "_law_turn_here"]) fun _ _ _ _ _ _=>dR fun _=>dR fun _=>ju rfl,k19,PySem.W.mg_of X G a19⟩;obtain ⟨d20,F20,k20⟩:=l20.f;have M20:Ms K mg "_law_refusal" f20 _ _:=⟨F20.binds (ps:=["_law_model", "_law_turn_here"]) fun _ _ _ _ _ _=>dR fun _=>dR fun _=>ju rfl,k20,PySem.W.mg_of X G a20⟩;obtain ⟨d21,F21,k21⟩:=l21.f;have M21:Ms K mg "_law_told" f21 _ _:=⟨F21.binds (ps:=["_law_model", "_law_turn_here"]) fun _ _ _ _ _ _=>dR fun _=>dR fun _=>ju rfl,k21,PySem.W.mg_of X G a21⟩;obtain ⟨d22,F22,k22⟩:=l22.f;have M22:Ms K mg "_law_moved" f22 _ _:=⟨F22.binds (ps:=["_law_model", "_law_turn_here"]) fun _ _ _ _ _ _=>dR fun _=>dR fun _=>ju rfl,k22,PySem.W.mg_of X G a22⟩;obtain ⟨d23,F23,k23⟩:=l23.f;have M23:Ms K mg "_law_roll_do" f23 _ _:=⟨F23.binds (ps:=["_law_roll", "_law_turn_here"]) fun _ _ _ _ _ _=>dR fun _=>dR fun _=>ju rfl,k23,PySem.W.mg_of X G a23⟩;obtain ⟨d24,F24,k24⟩:=l24.f;have M24:Ms K mg "_law_roll_try" f24 _ _:=⟨F24.binds (ps:=["_law_roll", "_law_turn_here"]) fun _ _ _ _ _ _=>dR fun _=>dR fun _=>ju rfl,k24,PySem.W.mg_of X G a24⟩
 obtain ⟨d25,F25,k25⟩:=l25.f;have M25:Ms K mg "_law_roll_is" f25 _ _:=⟨F25.binds (ps:=["_law_roll", "_law_model"]) fun _ _ _ _ _ _=>dR fun _=>dR fun _=>ju rfl,k25,PySem.W.mg_of X G a25⟩;obtain ⟨d26,F26,k26⟩:=l26.f;have M26:Ms K mg "_law_plain_model" f26 _ _:=⟨F26.binds (ps:=[]) fun _ _ _ _ _ _=>ju rfl,k26,PySem.W.mg_of X G a26⟩;obtain ⟨d27,F27,k27⟩:=l27.f;have M27:Ms K mg "_law_step" f27 _ _:=⟨F27.binds (ps:=["_law_roll", "_law_model", "_law_turn_here"]) fun _ _ _ _ _ _=>dR fun _=>dR fun _=>dR fun _=>ju rfl,k27,PySem.W.mg_of X G a27⟩;obtain ⟨oc28,od28,kV28,dc28,pm28,an28,cd28,ct28,sl28,L28,c28,k28⟩:=l28;have F28:=Lz (st:=wY) L28 c28 k28;have tK:=PySem.W.mg_of X G q1;have Ve:=PySem.W.mg_of X G q2;have Vf:=PySem.W.mg_of X G q3;have Rj:=PySem.W.mg_of X G q4;have yw:=PySem.W.mg_of X G q5;have Rk:=PySem.W.mg_of X G q6;have Bu:=PySem.W.mg_of X G q7;have vO:=PySem.W.mg_of X G q8;have Io:=PySem.W.mg_of X G q9;have iJ:=PySem.W.mg_of X G q10;have Bv:=PySem.W.mg_of X G q11;have Rm:=PySem.W.mg_of X G q12;have Rn:=PySem.W.mg_of X G q13;have ou:=PySem.W.mg_none_of X G z1;have Ip:=PySem.W.mg_none_of X G z2;have a1n:=PySem.W.mg_none_of X G z3;have iZ:=PySem.W.mg_none_of X G z4;have Ir:=PySem.W.mg_none_of X G z5;have Bw:=PySem.W.mg_none_of X G z6;have m7:=PySem.W.mg_none_of X G z7;have pN:=PySem.W.mg_none_of X G z8;have a1o:=PySem.W.mg_none_of X G z9;have Iu:=PySem.W.mg_none_of X G z10;have ZS:=PySem.W.mg_none_of X G z11;have lJ:=PySem.W.mg_none_of X G z12;have yx:=PySem.W.mg_none_of X G z13;have Ro:=PySem.W.mg_none_of X G z14;have a1p:=PySem.W.mg_none_of X G z15;refine ⟨PySem.W.fnOf "law" "law" (lN wY) (gP wY) (aH wY) .none kV28 dc28 pm28 an28 cd28 ct28,fun s v=>.of_eq rfl,fun base _ _=>?_⟩;have mo:Y4 K w.params mg:=⟨⟨aB,b1_,b2_,b3_,b4_,b5_,b6_,b7_,Rj,⟨⟨_,_,kB,eB⟩,lB⟩,fV t_b1_ s_b1_ v_b1_,fV t_b2_ s_b2_ v_b2_,fV t_b3_ s_b3_ v_b3_,fV t_b4_ s_b4_ v_b4_,fV t_b7_ s_b7_ v_b7_⟩,⟨aF,_,Vf,⟨⟨_,_,kF,eF⟩,lF⟩,jK (fV t_f1_ s_f1_ v_f1_) (jK (fV t_f2_ s_f2_ v_f2_) (jK (fV t_f3_ s_f3_ v_f3_) (jK (fV t_f4_ s_f4_ v_f4_) (jK (fV t_f5_ s_f5_ v_f5_) (jK (fV t_f6_ s_f6_ v_f6_) (jK (fV t_f7_ s_f7_ v_f7_) (Z2)))))))⟩,⟨tw_,yw,fV t_tw_ s_tw_ v_tw_⟩,⟨_,Ve⟩⟩;have ms:MgS mg:=⟨ou,ZS,Ip,a1n,lJ,Iu,iZ,Ir,Bw⟩;have T:fO K R:=⟨⟨pgR,hdR,poR,saR⟩,na1,na2,na3,na4,na5⟩;have XCCF:XC K CF:=⟨x1CF,x2CF,by rw [x3CF];rfl,x4CF,sg,tg,x5CF,x6CF⟩;have XCCN:XC K CN:=⟨x1CN,x2CN,by rw [x3CN];rfl,x4CN,sg,tg,x5CN,x6CN⟩;have XCCT:XC K CT:=⟨x1CT,x2CT,by rw [x3CT];rfl,x4CT,sg,tg,x5CT,x6CT⟩;have XCCH:XC K CH:=⟨x1CH,x2CH,by rw [x3CH];rfl,x4CH,sg,tg,x5CH,x6CH⟩;have cl:ClsT K mg L CF CN CT CH c5_ c6_:=⟨Bv,Bu,vO,Io,iJ,Rm,Rn,Z4 XCCF XCCN XCCT XCCH exCF exCN exCT exCH yCFCF yCFCN yCFCT yCFCH yCNCF yCNCN yCNCT yCNCH yCTCF yCTCN yCTCT yCTCH yCHCF yCHCN yCHCT yCHCH,y5,y6⟩;obtain ⟨d_I,F_I,ka_I⟩:=la_I.f;have b_I:=F_I.binds (ps:=["self", "acres", "bears"]) fun _ _ _ _ _ _=>dR fun _=>dR fun _=>dR fun _=>ju rfl;obtain ⟨d_Fr,F_Fr,a1q⟩:=la_Fr.f;have b_Fr:=F_Fr.binds (ps:=["self"]) fun _ _ _ _ _ _=>dR fun _=>ju rfl;obtain ⟨d_Rw,F_Rw,Wq⟩:=la_Rw.f;have b_Rw:=F_Rw.binds (ps:=["self"]) fun _ _ _ _ _ _=>dR fun _=>ju rfl;obtain ⟨d_En,F_En,a1r⟩:=la_En.f;have b_En:=F_En.binds (ps:=["self", "row"]) fun _ _ _ _ _ _=>dR fun _=>dR fun _=>ju rfl;obtain ⟨d_Ea,F_Ea,Wr⟩:=la_Ea.f;have b_Ea:=F_Ea.binds (ps:=["self", "rows"]) fun _ _ _ _ _ _=>dR fun _=>dR fun _=>ju rfl;obtain ⟨d_Sk,F_Sk,a1s⟩:=la_Sk.f;have b_Sk:=F_Sk.binds (ps:=["self", "number"]) fun _ _ _ _ _ _=>dR fun _=>dR fun _=>ju rfl;obtain ⟨d_Co,F_Co,a1t⟩:=la_Co.f;have b_Co:=F_Co.binds (ps:=["self", "number", "row"]) fun _ _ _ _ _ _=>dR fun _=>dR fun _=>dR fun _=>ju rfl;obtain ⟨d_Ba,F_Ba,a1u⟩:=la_Ba.f;have b_Ba:=F_Ba.binds (ps:=["self"]) fun _ _ _ _ _ _=>dR fun _=>ju rfl;obtain ⟨d_Ag,F_Ag,a1v⟩:=la_Ag.f;have b_Ag:=F_Ag.binds (ps:=["self"]) fun _ _ _ _ _ _=>dR fun _=>ju rfl;obtain ⟨d_Ra,F_Ra,Ws⟩:=la_Ra.f;have b_Ra:=F_Ra.binds (ps:=["self", "number"]) fun _ _ _ _ _ _=>dR fun _=>dR fun _=>ju rfl;obtain ⟨d_Se,F_Se,Rp⟩:=la_Se.f;have ZV:=F_Se.binds (ps:=["self", "free", "held"]) fun _ _ _ _ _ _=>dR fun _=>dR fun _=>dR fun _=>ju rfl
 obtain ⟨d_Tw,F_Tw,a1w⟩:=la_Tw.f;have b_Tw:=F_Tw.binds (ps:=["self"]) fun _ _ _ _ _ _=>dR fun _=>ju rfl;obtain ⟨d_Ac,F_Ac,a1x⟩:=la_Ac.f;have b_Ac:=F_Ac.binds (ps:=["self"]) fun _ _ _ _ _ _=>dR fun _=>ju rfl;obtain ⟨d_Be,F_Be,a1y⟩:=la_Be.f;have b_Be:=F_Be.binds (ps:=["self"]) fun _ _ _ _ _ _=>dR fun _=>ju rfl;have G1:=Tq (P:=l.prog) (w:=w) (base:=base) F1 tK iZ;have G4:=Tt (P:=l.prog) (w:=w) (base:=base) F4 mo G1 M1;have G3:=Tv (P:=l.prog) (w:=w) (base:=base) F3 mo iZ Bw G4 M4;have G2:=Oe (P:=l.prog) (w:=w) (base:=base) F2 Bu hxCF G3 M3;have G5:=Y8 (P:=l.prog) (w:=w) (base:=base) F5 G4 M4;have G6:=Y9 (P:=l.prog) (w:=w) (base:=base) F6 G4 M4 G5 M5;have G7:=Qf (P:=l.prog) (w:=w) (base:=base) F7 lJ Io hxCT;have G_I:=Oz (P:=l.prog) (w:=w) (base:=base) T F_I G6 M6;have MK1:Mk K R f_I:=⟨mkR,fa_I,ia_I,kpR⟩;have G_Fr:=Yd (P:=l.prog) (w:=w) (mg:=mg) (base:=base) T F_Fr;have G_Ac:=Yb (P:=l.prog) (w:=w) (mg:=mg) (base:=base) T F_Ac;have G_Be:=Yc (P:=l.prog) (w:=w) (mg:=mg) (base:=base) T F_Be;have G_Tw:=V7 (P:=l.prog) (w:=w) (base:=base) T F_Tw lJ G_I MK1 Rk b_I;have G_Rw:=OD (P:=l.prog) (w:=w) (base:=base) T F_Rw Ro;have ZW:=JR (P:=l.prog) (w:=w) (mg:=mg) (base:=base) T F_Se;have G_Ea:=Az (P:=l.prog) (w:=w) (base:=base) T F_Ea yx pN iZ lJ m7 G2 M2 G7 M7 ZW ⟨fa_Se,ia_Se,Rp⟩ ZV;have G_En:=Qg (P:=l.prog) (w:=w) (base:=base) T F_En G_Ea ⟨fa_Ea,ia_Ea,Wr⟩ b_Ea;have G_Ra:=Qh (P:=l.prog) (w:=w) (base:=base) T F_Ra vO hxCN;have G_Sk:=JT (P:=l.prog) (w:=w) (base:=base) T F_Sk yx G_Ra ⟨fa_Ra,ia_Ra,Ws⟩ b_Ra ZW ⟨fa_Se,ia_Se,Rp⟩ ZV;have G_Co:=DP (P:=l.prog) (w:=w) (base:=base) T F_Co yx G_Ra ⟨fa_Ra,ia_Ra,Ws⟩ b_Ra G2 M2 G7 M7 ZW ⟨fa_Se,ia_Se,Rp⟩ ZV;have G_Ba:=Ul (P:=l.prog) (w:=w) (base:=base) T F_Ba iJ hxCH;have G_Ag:=Qi (P:=l.prog) (w:=w) (base:=base) T F_Ag iJ hxCH;have G8:=Ti (P:=l.prog) (w:=w) (base:=base) F8 m7 iZ;have G9:=GP (P:=l.prog) (w:=w) (base:=base) F9 ms M9 4;have G10:=Oi (P:=l.prog) (w:=w) (base:=base) F10 iZ m7;have G11:=Oj (P:=l.prog) (w:=w) (mg:=mg) (base:=base) F11;have G12:=Jz (P:=l.prog) (w:=w) (mg:=mg) (base:=base) F12;have G13:=Ox (P:=l.prog) (w:=w) (base:=base) F13 iZ Ir;have G14:=U0 (P:=l.prog) (w:=w) (base:=base) F14 iZ Ip Bw G12 M12 G13 RP;have G15:=Y6 (P:=l.prog) (w:=w) (base:=base) F15 iZ Ip pN a1o Iu G12 M12 G11 M11;have G16:=Yt (P:=l.prog) (w:=w) (mg:=mg) (base:=base) F16;have G17:=Uq (P:=l.prog) (w:=w) (base:=base) F17 iZ G16 M16;have G18:=Ur (P:=l.prog) (w:=w) (base:=base) F18 iZ m7 G17 M17;have G19:=Ut (P:=l.prog) (w:=w) (base:=base) F19 lJ Ip;have G20:=QM (P:=l.prog) (w:=w) (base:=base) F20 iZ Ir a1p G14 M14 G19 M19;have G21:=UW (P:=l.prog) (w:=w) (base:=base) F21 yx iZ m7;have G22:=QC (P:=l.prog) (w:=w) (base:=base) F22 lJ G19 M19;have G23:=a0V (P:=l.prog) (w:=w) (base:=base) T F23 lJ G_En ⟨fa_En,ia_En,a1r⟩ b_En G_Ea ⟨fa_Ea,ia_Ea,Wr⟩ b_Ea G_Sk ⟨fa_Sk,ia_Sk,a1s⟩ b_Sk G_Co ⟨fa_Co,ia_Co,a1t⟩ b_Co G_Ba ⟨fa_Ba,ia_Ba,a1u⟩ b_Ba G_Ag ⟨fa_Ag,ia_Ag,a1v⟩ b_Ag;have G24:=YG (P:=l.prog) (w:=w) (base:=base) F24 ou Bw cl G23 M23;have G25:=a0U (P:=l.prog) (w:=w) (base:=base) T F25 lJ G9 M9 0x8 0x8 G_Rw ⟨fa_Rw,ia_Rw,Wq⟩ b_Rw G_Fr ⟨fa_Fr,ia_Fr,a1q⟩ b_Fr;have G26:=Qx (P:=l.prog) (w:=w) (mg:=mg) (base:=base) F26;have G27:=Rf (P:=l.prog) (w:=w) (base:=base) F27 G20 M20 G24 M24 G9 M9 G21 M21 G22 M22;exact YT F28 T m7 iZ Bw Ir G8 M8 G10 M10 G15 M15 G_I MK1 Rk b_I G26 M26 G18 M18 G27 M27 G25 M25 G_Tw ⟨fa_Tw,ia_Tw,a1w⟩ b_Tw G_Rw ⟨fa_Rw,ia_Rw,Wq⟩ b_Rw G_Ac ⟨fa_Ac,ia_Ac,a1x⟩ b_Ac G_Be ⟨fa_Be,ia_Be,a1y⟩ b_Be G9 M9
theorem walk {l:PySem.W.OpenLaw}{q:Program}{d:DefRec}{K:Params->PySem.W.Frag} (hn:l.most=some 63) (hdf:d.params.defaults=[])
  (hY:∀ (w:World) (h:Heap),YP w h->(K w.params).In h)
  (F:∀ (w:World) (mg:Str->Option Value) (fa:Addr) (h:Heap),(K w.params).In h->h.Ns mainGlobals mg->mg d.name=some (.ref fa) ->
   ∃ fd:FuncData,(∀ (s:Shared) (u:Value),BindsTo s fd ⟨[u],[]⟩ [("_law_script",u)])/\∀ base:Heap,(K w.params).In base->base.Ns mainGlobals mg->aX l.prog w (K w.params) mg base cU 10 fa fd ["_law_script"] (Im (K w.params))) :
  PySem.W.WalkO q loose XP YP l.row.toRowW d [] (fun f vs=>PySem.call f vs) :=
 L2.Ss (n:=63) (k:=10) (x:="_law_script") (CX:=fun _=>cU) (sp:=fun w=>Im (K w.params)) hn 0x8 hdf ⟨rfl,by decide,by decide⟩ hY F (fun _ _ a ns hl _ hS=>⟨a,ns,rfl,hS,hl,fun _=>rfl⟩) fun _ _ _ _ _ z=>z
end M
namespace PySem.W.Fast
def tw2373211729131758881:=0
def tw9309108018731785938:=0
def tw11991388143878448143:=0
def tw14238855636863555514:=0
def tw5268684578829758266:=0
def tw17973973286842495621:=0
def tw6992577981347046941:=0
def tw6222270003259414969:=0
def tw7442054829601125114:=0
def tw16310451907368051183:=0
def tw2769128756062948042:=0
def tw3263504638905083585:=0
def tw5371171960963830549:=0
def tw14531533341279602432:=0
def tw18186468732962322434:=0
def tw7653000888356537757:=0
def tw4376888719303413002:=0
def tw16631563164111712918:=0
def tw18190012836227768481:=0
def tw4269738503398753364:=0
def tw3335919793778652623:=0
def tw13058225489107695641:=0
def tw6584390725269786172:=0
def tw1668710898683001964:=0
def tw11505500354379335933:=0
def tw17850566400936977240:=0
def tw170999623279021950:=0
def tw6466891419459001933:=0
def tw7943117761732293539:=0
def tw3838349826668102545:=0
def tw2189384687525906278:=0
def tw9904700014839228476:=0
def tw1800922466820664762:=0
def tw14255637940840232583:=0
def tw3894711613635922441:=0
def tw8490127414296700853:=0
def tw18098558935415968906:=0
def tw5607763442757335807:=0
def tw16245736036907508247:=0
def tw5034310540704041476:=0
def tw12051299040632223507:=0
def tw3346860782687062502:=0
def tw13192129011143337853:=0
def tw10102625349844852169:=0
def tw185058070241319155:=0
def tw13682754069854925485:=0
def tw16512255834892476282:=0
def tw5328232895478447667:=0
def tw10501503588507395903:=0
def tw14514576378160335067:=0
def tw7971499396222924075:=0
def tw12192809660286733231:=0
def tw13074420650895963632:=0
def tw1968638459136758939:=0
def tw2390314594894819716:=0
def tw14253710497447053813:=0
def tw2982613837136479043:=0
def tw10610384058383983011:=0
def tw16719887302005259989:=0
def tw15745699940443802589:=0
def tw6679061573929084174:=0
def tw435209897171229006:=0
def tw7985197127960708527:=0
def tw17992074540364467785:=0
def tw13779716617050763488:=0
def tw12978237628910725472:=0
def tw7352064581548345581:=0
def tw2647764803122384699:=0
def tw14280581126329316716:=0
def tw9780924047337803410:=0
def tw14516347068095996230:=0
def tw15184684637891105507:=0
def tw1291230666250134403:=0
def tw8671340233155271460:=0
def tw15937205301709718156:=0
def tw2011750233707003330:=0
def tw14504214144749255133:=0
def tw16545357781490496782:=0
def tw12354292845913879290:=0
def tw1180320953118287876:=0
def tw13205297149982430134:=0
def tw1613773804059324888:=0
def tw6684092174779847036:=0
def tw3046914750566436811:=0
def tw3553907341974787756:=0
def tw14336765869380107926:=0
def tw17377678825341486028:=0
def tw13632029621731459004:=0
def tw1313835302537330608:=0
def tw8408950135897307151:=0
def tw15535161041188439695:=0
def tw7779007212563983338:=0
def tw9633954312179169763:=0
def tw1524933509407473242:=0
def tw17235670564889991519:=0
def tw8091916540332673868:=0
def tw16311833788750587747:=0
def tw13033630496729178134:=0
def tw16689287742958387284:=0
def tw6693207318775035774:=0
def tw15267297840359033781:=0
def tw18119402923820371198:=0
def tw9520317326303050093:=0
def tw18397543565212305813:=0
def tw10029395625154067690:=0
def tw13723988691338681219:=0
def tw334392517840213847:=0
def tw13237979098621212516:=0
def tw4854938435814614286:=0
def tw17011891474179231567:=0
def tw13894849667128568617:=0
def tw6934681338810957571:=0
def tw314573596612570840:=0
def tw6876880554451482458:=0
def tw9736196326723316896:=0
def tw13207375896896166780:=0
def tw8748816138046517050:=0
def tw11349930459846081876:=0
def tw6686167103544744573:=0
def tw7359990695931204159:=0
def tw18166487109538733064:=0
def tw15734717810705839910:=0
def tw9598368959156302817:=0
def tw1772581747885612329:=0
def tw11807045457008791798:=0
def tw7623997330144721417:=0
def tw15145743211054185358:=0
def tw4105037815267881269:=0
def tw1686184034456682433:=0
def tw15131417701254507604:=0
def tw16398053044879426363:=0
def tw4683069996827514371:=0
def tw11398341946294668404:=0
def tw15948344283364208013:=0
def tw4690158395417587489:=0
def tw14975104651280853385:=0
def tw13311672942752490584:=0
def tw13535669645809947329:=0
def tw16085204864250844684:=0
def tw9779738396462069741:=0
def tw2175214165000007803:=0
def tw12606560070843327969:=0
def tw3371786674897769682:=0
def tw5662298167174924957:=0
def tw10056568931949925803:=0
def tw16713133830920543161:=0
def tw15931518497741948320:=0
def tw10143458376138449955:=0
def tw16905472814621896339:=0
def tw8359309985072812022:=0
def tw11488394523956695120:=0
def tw6074692245318652641:=0
def tw10687955882285457445:=0
def tw2111762004175379967:=0
def tw1154799107739640676:=0
def tw4590095370028432333:=0
def tw7743043793147479499:=0
def tw16631308639441935690:=0
def tw13967437792161748144:=0
def tw2793292387836874248:=0
def tw9925660255142296442:=0
def tw2476021041719261264:=0
def tw17011288195063168005:=0
def tw6458819165531644821:=0
def tw15933587858856688147:=0
def tw14926099922666027185:=0
def tw5957656158908002466:=0
def tw8709713736092161754:=0
def tw1371294785242811288:=0
def tw6935284968868553818:=0
def tw2490626704678661267:=0
def tw7881291048910323055:=0
def tw18318782343392839718:=0
def tw4970761330932854662:=0
def tw10278595071548044363:=0
def tw9696386032732457305:=0
def tw10645924381910273628:=0
def tw12786532630892708243:=0
def tw3673244550241076878:=0
def tw17646103893763790220:=0
def tw8674530194746200838:=0
def tw6430224390302228635:=0
def tw11882097266741338246:=0
def tw969714140709401063:=0
def tw8633622503948699115:=0
def tw1982704319394593882:=0
def tw10438979457217786978:=0
def tw15473329174642041205:=0
def tw4541482696838797188:=0
def tw10660205527883512329:=0
def tw13679240627314862627:=0
def tw1750246197466651391:=0
def tw5446685351424288241:=0
def tw12149732689651427631:=0
def tw1721420770271338430:=0
def tw18047639220180084499:=0
def tw8302049637182261276:=0
def tw12299649539569653745:=0
def tw5869753763786374250:=0
def tw1865543095951146386:=0
def tw16941222986255553438:=0
def tw17427850493208327408:=0
def tw2598223711546351911:=0
def tw9717572582458651905:=0
def tw1338608765533877423:=0
def tw10335067186087871099:=0
def tw12078730325027540852:=0
def tw5628231157150092778:=0
def tw17840010925378530484:=0
def tw2577393027183826201:=0
def tw2760941826831110636:=0
def tw6430937181698753039:=0
def tw5614626316487765284:=0
def tw2688215796647407381:=0
def tw9757026657550094538:=0
def tw15637349533110063127:=0
def tw11790658139454747696:=0
def tw2850724744566171397:=0
def tw883321970196279890:=0
def tw12606146418027772153:=0
def tw10998584599660374415:=0
def tw5084642981914039974:=0
def tw10567072211715632374:=0
def tw6517696443435675618:=0
def tw10634606604229837575:=0
def tw2838311604808915162:=0
def tw5688955759769439448:=0
def tw4896299235714559012:=0
def tw7675588750988519837:=0
def tw13114516142312000727:=0
def tw5146139774487530355:=0
def tw14383267750361205989:=0
def tw4552242454579813394:=0
def tw9023754008000381659:=0
def tw4260271108737130044:=0
def tw16218391511517803917:=0
def tw5265475721337399973:=0
def tw10693646947770962539:=0
def tw6737155529902625332:=0
def tw5852779433938077987:=0
def tw14424175662278346129:=0
def tw2288246806290054869:=0
def tw12810505803990721035:=0
def tw14058857101172356671:=0
def tw4885389747154604924:=0
def tw1920073379939508374:=0
def tw6644613249687267927:=0
def tw16802398633291147644:=0
def tw3107249115299642322:=0
def tw8860467720325012452:=0
def tw17669877234736073306:=0
def tw1594555967903856748:=0
def tw10218850765432083520:=0
def tw11128606439517781365:=0
def tw8894109506950432631:=0
def tw10876398738353691654:=0
def tw179920285882753213:=0
def tw7347860165090584468:=0
def tw5764483317239661050:=0
def tw11373953005566440869:=0
def tw12140623977389269161:=0
def tw17505440015254863292:=0
def tw4733693946145697620:=0
def tw14044630764232232876:=0
def tw9763879848153739633:=0
def tw6925622977833207300:=0
def tw2274263491342454646:=0
def tw17939006471717459671:=0
def tw735389381111673320:=0
def tw11455609235187394991:=0
def tw10542501293908816762:=0
def tw12510562969255532331:=0
def tw17744377956925641394:=0
def tw16949223778081201482:=0
def tw3388146267368667724:=0
def tw6139090862966995850:=0
def tw3247175361679605971:=0
def tw6384798702349483651:=0
def tw7751111055118405776:=0
def tw9190747659315674200:=0
def tw3670365596185475402:=0
def tw7797185549691360801:=0
def tw14860963057924600931:=0
def tw11076471033740809065:=0
def tw18301309361677489773:=0
def tw18089236067038423363:=0
def tw17525231006117403465:=0
def tw12885096618049304672:=0
def tw13786443390906007709:=0
def tw13699016899282535025:=0
def tw12282799538095635258:=0
def tw4751857463625027274:=0
def tw18158902224323120551:=0
def tw9218535298899421182:=0
def tw3063561755640221344:=0
def tw3163222404585276619:=0
def tw570434766684663422:=0
def tw6040003714453295402:=0
def tw3880680935429604122:=0
def tw5958413341313276827:=0
def tw10108926703647044540:=0
def tw18143192952690268448:=0
def tw14604229988012775647:=0
def tw9328592544054811868:=0
def tw14079054887980701018:=0
def tw6575539938148134405:=0
def tw7087636159656981455:=0
def tw16974374974729062884:=0
def tw1986428221632429321:=0
def tw5329855152111424166:=0
def tw13216944317381727677:=0
def tw5975079250711425979:=0
def tw8071921656007952124:=0
def tw6629471396255074766:=0
def tw8926740969383672082:=0
def tw18411374660039217772:=0
def tw2016307262643657655:=0
def tw11231636330704489252:=0
def tw2203753158317999987:=0
def tw1123941407454269687:=0
def tw4171041561959416034:=0
def tw14004468763753547219:=0
def tw717167038963490765:=0
def tw12386087037505328043:=0
def tw11955411737092518625:=0
def tw2093842085861685946:=0
def tw6741389088196317635:=0
def tw2379180456395561590:=0
def tw1454520615982546188:=0
def tw10697282190702535492:=0
def tw14686870373266171234:=0
def tw6627524341206108835:=0
def tw8542062528023055898:=0
def tw1321301729783444383:=0
def tw9034843292045468810:=0
def tw13775197585830037509:=0
def tw14517179336209134915:=0
def tw8515978679554680193:=0
def tw10215702113485412169:=0
def tw11367188369518289693:=0
def tw10903926510329888948:=0
def tw1280405794221018857:=0
def tw14588150822958821910:=0
def tw3437336188444903819:=0
def tw9058690430417214089:=0
def tw15576928264515928050:=0
def tw16944604668826822311:=0
def tw18097469934945128580:=0
def tw3663967064009246396:=0
def tw16653328330040474800:=0
def tw11428300440091847196:=0
def tw298158924411677609:=0
def tw9686235860900296082:=0
def tw12196469995384029151:=0
def tw7815320415048807373:=0
def tw17813574555164291112:=0
def tw1725029518380911:=0
def tw8796445598746732131:=0
def tw11825917480754963181:=0
def tw2809863505322824506:=0
def tw10266232788509075249:=0
def tw6376018328663646796:=0
def tw13808845518757574456:=0
def tw11899965062977719996:=0
def tw1000983772684176338:=0
def tw804184201977365156:=0
def tw4468750522643184353:=0
def tw7953015181690723816:=0
def tw4639473656716267817:=0
def tw13611839538450984620:=0
def tw7300649479855727919:=0
def tw8855346609881589008:=0
def tw18118177530328973008:=0
def tw16289168719812189162:=0
def tw14648937007146363069:=0
def tw11698627510834000817:=0
def tw6070022400566661276:=0
def tw16951164964120481781:=0
def tw6842594171993505263:=0
def tw9127635105130782936:=0
def tw7275570445098580711:=0
def tw14248647299657780633:=0
def tw1390398549159916252:=0
def tw1221703845481099317:=0
def tw5272982576945104351:=0
def tw7891389640161482963:=0
def tw183223042237082389:=0
def tw11951016405727148001:=0
def tw7903354423599636775:=0
def tw12906289935051111125:=0
def tw16086625368816988551:=0
def tw10189433246450976950:=0
def tw8032577429063630874:=0
def tw14616547637431636807:=0
def tw16084115118791352594:=0
def tw5269571507409661130:=0
def tw16392132281563415952:=0
def tw6417972955782206118:=0
def tw14968109673747359997:=0
def tw7088906127299578629:=0
def tw9417404852043378515:=0
def tw2807418481570637187:=0
def tw421472430339832794:=0
def tw17537843538097636861:=0
def tw1082768146531744890:=0
def tw3458589565224901947:=0
def tw9580747937099847280:=0
def tw825568243900588006:=0
def tw3453069599981204389:=0
def tw14739453358889987909:=0
def tw17207936970617056964:=0
def tw1879488494148343439:=0
def tw4508817183571966750:=0
def tw13355682300245026596:=0
def tw481313262661053845:=0
def tw4210465511843041078:=0
def tw9616426256672331668:=0
def tw7227161142765608146:=0
def tw13987326665625506216:=0
def tw4798275267422038984:=0
def tw5802285319770417277:=0
def tw15701287575813769969:=0
def tw7037844533942293961:=0
def tw6316382512908068544:=0
def tw552132216580584813:=0
def tw2089958729889321692:=0
def tw7508993730933005855:=0
def tw12243494121376916898:=0
def tw7331808212232472183:=0
def tw17297089615317554553:=0
def tw8514748380032762728:=0
def tw9592854384546440:=0
def tw6870018877676533420:=0
def tw4243454923410615382:=0
def tw6819980730455372535:=0
def tw8230280455615118319:=0
def tw9858660259395126739:=0
def tw11724153998065862478:=0
def tw121158440700107093:=0
def tw5453392391700654541:=0
def tw10435736459756249533:=0
def tw17215256619784355485:=0
def tw10614827199936122970:=0
def tw5248328675642063455:=0
def tw13854604052751450380:=0
def tw1057463621134053208:=0
def tw14169532100555141916:=0
def tw3253389081730947647:=0
def tw13508641840364807844:=0
def tw7791733411739281099:=0
def tw11868907525819604674:=0
def tw1099475300371478818:=0
def tw1367551010582799964:=0
def tw2273477817492598989:=0
def tw2249807090302987273:=0
def tw6915987792927446720:=0
def tw18091592908651920453:=0
def tw18370914449196439496:=0
def tw9041964014389004925:=0
def tw17978904242750444870:=0
def tw10402424595517363654:=0
def tw12555669135201817730:=0
def tw18408512858698931437:=0
def tw2915036039847615471:=0
def tw7458313764819930224:=0
def tw8314492472364189480:=0
def tw1150508606153840189:=0
def tw2329050930376843077:=0
def tw3271894233900329919:=0
def tw17867309989798716381:=0
def tw17080978778843129349:=0
def tw9183055232726936533:=0
def tw3434764920677907106:=0
def tw10335295933494114965:=0
def tw5823568655052700534:=0
def tw80746874401187756:=0
def tw18160843113507976408:=0
def tw12185247012537496399:=0
def tw8001724387104826436:=0
def tw13406208593951633528:=0
def tw12107688437862852848:=0
def tw9925309092053230475:=0
def tw15677639459719219881:=0
def tw3202446245489618833:=0
def tw5148427484984215590:=0
def tw12874783985421331683:=0
def tw16371155566948323132:=0
def tw12114440372265253290:=0
def tw16977840515282411908:=0
def tw3843573983627633440:=0
def tw5306433557884132006:=0
def tw3287858086340259955:=0
def tw11865220014616283867:=0
def tw15905313643268859512:=0
def tw12071115904066142227:=0
def tw1699691165536575312:=0
def tw14156975213884686721:=0
def tw8137728838101769615:=0
def tw17664188061058439438:=0
def tw12372111600447649305:=0
def tw1392888246640238356:=0
def tw4447555002628635300:=0
def tw15382926502977440494:=0
def tw13351467070863986321:=0
def tw687105749219796185:=0
def tw2517778088012398495:=0
def tw8338230128512550297:=0
def tw18296297209851953401:=0
def tw16762297296937532400:=0
def tw7869458177609885758:=0
def tw17432637069867128110:=0
def tw6369890777574531468:=0
def tw9620917957053993006:=0
def tw15549108670136393277:=0
def tw14254764015011586873:=0
def tw15565959847451664703:=0
def tw14961833470814826788:=0
def tw18314017100160406429:=0
def tw510763517191137937:=0
def tw17688873079478614815:=0
def tw16862848287711991352:=0
def tw16526300174590563104:=0
def tw18144336859815027264:=0
def tw972988248882630061:=0
def tw9371806553642486979:=0
def tw12530259342767495528:=0
def tw3949908086081479496:=0
def tw17523854607866134363:=0
def tw2867503734872157971:=0
def tw18359126683225940235:=0
def tw13443437689603877234:=0
def tw3371183221439920575:=0
def tw17388467410385032230:=0
def tw1378379591462765725:=0
def tw6777099749993600191:=0
def tw17136649125202434346:=0
def tw13206202844792984161:=0
def tw11353241304458342280:=0
def tw15582593340849851502:=0
def tw10061073358705847823:=0
def tw14490925451093140451:=0
def tw9553547056660982652:=0
def tw10318836266923517826:=0
def tw12147480762185525143:=0
def tw6476599331375278405:=0
def tw7618760771091546692:=0
def tw15325486510480680403:=0
def tw11181919224179468873:=0
def tw15706060831391980267:=0
def tw3314026813764344190:=0
def tw13134463339297121897:=0
def tw13748786437549632942:=0
def tw10388128731261819947:=0
def tw5277521363071331364:=0
def tw2807821066438042708:=0
def tw16804313120286125964:=0
def tw18004960595577820658:=0
def tw13759628107464727663:=0
def tw17708863434178968176:=0
def tw7002849214997490660:=0
def tw11567132421356097411:=0
def tw16898955265432793766:=0
def tw14413062130422515768:=0
def tw9703622434956804729:=0
def tw9313398099463919923:=0
def tw14873500958184338604:=0
def tw11828760698240614287:=0
def tw11931183093447380590:=0
def tw5014696332747017486:=0
def tw17764603244806833447:=0
def tw1639702155618585417:=0
def tw15671785403392070623:=0
def tw13647562871375448622:=0
def tw6010755311605398843:=0
def tw17283387586342667231:=0
def tw5265335447992852439:=0
def tw4582326957996377118:=0
def tw725263124447482074:=0
def tw12519040542330843518:=0
def tw5459006411691058227:=0
def tw1866440471585885885:=0
def tw12850537184414617876:=0
def tw4027195588634607837:=0
def tw3115941575195217593:=0
def tw16534929056834843083:=0
def tw12342115544513907195:=0
def tw11841485220810156423:=0
def tw13881453773346749815:=0
def tw5185088335048199994:=0
def tw3606532439977216306:=0
def tw10245610359281237919:=0
def tw2170323325811877306:=0
def tw12586421108550413181:=0
def tw14867776610719285954:=0
def tw1343132017508541663:=0
def tw5522040818097594577:=0
def tw1175013552374613735:=0
def tw18253153233404719141:=0
def tw11006387027744291396:=0
def tw10251149432368201139:=0
end PySem.W.Fast
open PySem PySem.W PyProof.Rows
set_option maxRecDepth 100000 in
set_option maxHeartbeats 0 in
theorem PySem.Challenge.cw_manrent_k47_twins_of_rolls_holds : PySem.Challenge.rw_manrent_k47_twins_of_rolls.Holds := by
 w_on;o_law;k_head;(case hw=>w_witness2)
 k_fill
 refine M.walk (l:=PySem.Challenge.rw_manrent_k47_twins_of_rolls) rfl rfl (fun w h Y=>PySem.W.kIn_of Y) ?F
 case F =>
  intro w mg fa h KX G hmg
  refine' M.all_mk KX G hmg ?A0 ?A1 ?A2 ?A3 ?A4 ?A5 ?A6 ?A7 ?A8 ?A9 ?B0 ?B1 ?B2 ?B3 ?B4 ?B5 ?B6 ?B7 ?B8 ?B9 ?C0 ?C1 ?C2 ?C3 ?C4 ?C5 ?C6 ?C7 ?C8 ?C9 ?D0 ?D1 ?D2 ?D3 ?D4 ?D5 ?D6 ?D7 ?D8 ?D9 ?E0 ?E1 ?E2 ?E3 ?E4 ?E5 ?E6 ?E7 ?E8 ?E9 ?F0 ?F1 ?F2 ?F3 ?F4 ?F5 ?F6 ?F7 ?F8 ?F9 ?G0 ?G1 ?G2 ?G3 ?G4 ?G5 ?G6 ?G7 ?G8 ?G9 ?H0 ?H1 ?H2 ?H3 ?H4 ?H5 ?H6 ?H7 ?H8 ?H9 ?I0 ?I1 ?I2 ?I3 ?I4 ?I5 ?I6 ?I7 ?I8 ?I9 ?J0 ?J1 ?J2 ?J3 ?J4 ?J5 ?J6 ?J7 ?J8 ?J9 ?K0 ?K1 ?K2 ?K3 ?K4 ?K5 ?K6 ?K7 ?K8 ?K9 ?L0 ?L1 ?L2 ?L3 ?L4 ?L5 ?L6 ?L7 ?L8 ?L9 ?M0 ?M1 ?M2 ?M3 ?M4 ?M5 ?M6 ?M7 ?M8 ?M9 ?N0 ?N1 ?N2 ?N3 ?N4 ?N5 ?N6 ?N7 ?N8 ?N9 ?O0 ?O1 ?O2 ?O3 ?O4 ?O5 ?O6 ?O7 ?O8 ?O9 ?P0 ?P1 ?P2 ?P3 ?P4 ?P5 ?P6 ?P7 ?P8 ?P9 ?Q0 ?Q1 ?Q2 ?Q3 ?Q4 ?Q5 ?Q6 ?Q7 ?Q8 ?Q9 ?R0 ?R1 ?R2 ?R3 ?R4 ?R5 ?R6 ?R7 ?R8 ?R9 ?S0 ?S1 ?S2 ?S3 ?S4 ?S5 ?S6 ?S7 ?S8 ?S9 ?T0 ?T1 ?T2 ?T3 ?T4 ?T5 ?T6 ?T7 ?T8 ?T9 ?U0 ?U1 ?U2 ?U3 ?U4 ?U5 ?U6 ?U7 ?U8 ?U9 ?V0 ?V1 ?V2 ?V3 ?V4 ?V5 ?V6 ?V7 ?V8 ?V9 ?W0 ?W1 ?W2 ?W3 ?W4 ?W5 ?W6 ?W7 ?W8 ?W9 ?X0 ?X1 ?X2 ?X3
  case A0|A2|A4|A6|A8|B0|B2|B4|B6|B8|C0|C2|C4|C6|C8|D0|D2|D4|D6|D8|E0|E2|E4|E6|E8|F0|F2|F4|F6|F7|F8|F9|G0|G1|G2|G3|G4|G5|G6|G7|G8|G9|H0|H1|H2|H3|H4|H5|H6|H7|H8|H9|I0|I1|I2|I3|I4|I5|I7|I8|I9|J0|J1|J2|J9|K0|K1|K2|K3|K4|L1|L2|L3|L4|L5|L6|M3|M4|M5|M6|M7|M8|N6|N8|N9|O1|O2|O4|O5|O7|O8|P0|P1|P3|P4|P6|P7|P9|Q0|Q2|Q3|Q5|Q6|Q8|Q9|R1|R2|R4|R5|R7|R8|R9|S0|S1|S2|S3|S4|S5|S6|S7|S8|S9|T2=>k_is
  case A1|A3|A5|A7|A9|B1|B3|B5|B7|B9|C1|C3|C5|C7|C9|D1|D3|D5|D7|D9|E1|E3|E5|E7|E9|F1|F3|F5|N7|O0|O3|O6|O9|P2|P5|P8|Q1|Q4|Q7|R0|R3|R6=>exact ⟨_,_,_,_,_,_,_,_,_,by k_is,by k_is,by k_is⟩
  case T0|T3=>exact ⟨⟨⟨_,rfl⟩,rfl,rfl⟩,⟨⟨_,rfl⟩,rfl,rfl⟩,⟨⟨_,rfl⟩,rfl,rfl⟩,⟨⟨_,rfl⟩,rfl,rfl⟩,⟨⟨_,rfl⟩,rfl,rfl⟩,⟨⟨_,rfl⟩,rfl,rfl⟩,⟨⟨_,rfl⟩,rfl,rfl⟩,True.intro⟩
  case T5|T8|U1|U4|U7|V0|V3|V6|V9|W2|W5|W8|X1=>k_is
  case I6|J8|L0|M2=>k_exc
  case J3|K5|L7|M9=>kts_exm
  case J4|J5|J6|J7|K6|K7|K8|K9|L8|L9|M0|M1|N0|N1|N2|N3|N4|N5=>kit_is
  case T1|T4=>rfl
  case T6|T9|U2|U5|U8|V1|V4|V7|W0|W3|W6|W9|X2=>exact M.small (Nat.le_of_ble_eq_true rfl)
  case T7|U6|U9=>exact .cons ⟨_,rfl⟩ (.cons ⟨_,rfl⟩ (.cons ⟨_,rfl⟩ (.nil)))
  case U0=>exact .cons ⟨_,rfl⟩ (.cons ⟨_,rfl⟩ (.cons ⟨_,rfl⟩ (.cons ⟨_,rfl⟩ (.cons ⟨_,rfl⟩ (.cons ⟨_,rfl⟩ (.nil))))))
  case U3=>exact .cons ⟨_,rfl⟩ (.cons ⟨_,rfl⟩ (.cons ⟨_,rfl⟩ (.cons ⟨_,rfl⟩ (.cons ⟨_,rfl⟩ (.nil)))))
  case V2|V5|V8|W1|W4|W7|X0|X3=>exact .cons ⟨_,rfl⟩ (.cons ⟨_,rfl⟩ (.nil))
